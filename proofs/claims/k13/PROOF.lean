import PyProof.Rows.All
import Wide.All
import OpenK.AllK
import Wide.FinOn
import Lean
import PyProof.EqAt
import PyProof.EqKinds
import PyProof.TupleCall
import PyProof.Draws
import PyProof.EnumMake
import PyProof.EnumFor
import PyProof.ZipIter
import PyProof.ListMulRoad
import PyProof.NeData
import PyProof.SumWalkG
import KE.KSortedM
import PyProof.Rows.SetFrom
import PyProof.SetRoads
import PyProof.TupleIter
import PyProof.MinMaxWalk
import PyProof.Rows.CallKwBuiltin
import KE.KItemsList
import PyProof.ExcInit
import PyProof.InstStoreFacts
import PySem.Challenge.RW_sharetrail_k13_loads_refused
set_option Elab.async false
set_option linter.all false
set_option maxRecDepth 100000
set_option maxHeartbeats 4000000
set_option exponentiation.threshold 10000
set_option compiler.extract_closed false
open _root_ renaming List->Gc,Option->sD,of_decide_eq_true->sd,if_pos->tK,if_neg->tN,Bool->tV,Array->uI,or_false->uX,String->ug,decide_eq_true_eq->um,False->vS,decide_eq_true->vV,decide_eq_false->vZ,beq_iff_eq->vc,beq_eq_false_iff_ne->xD,if_true->xP,if_false->xk,True->y8,not_or->zZ
open Array renaming getElem?_eq_some_iff->vp,getElem?_setIfInBounds_ne->x8,length_toList->yZ,find?_toList->AAj
open Bool renaming and_eq_true->sU,false_ne_true->uE,or_eq_true->uU,noConfusion->vQ,or_eq_true_iff->vd,false_eq_true->xS,not_eq_true'->xr,eq_iff_iff->yX
open False renaming elim->uW
open ForInStep renaming yield->yR
open Int renaming toNat_of_nonneg->uM,mul_pos->ue,natAbs_natCast->vR,toNat_natCast->vX,emod_nonneg->vy,natAbs_mul->wL,emod_lt_of_pos->wQ,mul_le_mul_of_nonneg_right->yJ,lt_of_lt_of_le->yx,mul_ediv_cancel_left->zE,pow_succ->zh,natCast_mul->zo,le_refl->AAP
open Lean.Syntax renaming mkApp->y4
open List renaming getElem?_eq_getElem->sA,getD_eq_getElem?_getD->sG,getElem?_append_left->sH,getElem?_set_ne->sJ,mem_cons->sN,getElem?_eq_some_iff->sO,getElem?_map->sP,mem_cons_of_mem->sQ,replicate->sS,getElem?_concat_length->sV,getElem?_set_self->sX,size_toArray->sY,mem_cons_self->sZ,mem_of_getElem?->se,not_mem_nil->si,map_cons->su,mem_append->sx,nil_append->tF,mem_singleton->tJ,range->tL,drop_eq_getElem_cons->tS,cons_append->tU,map_map->tW,length_cons->tY,length_map->tq,map_append->uA,getElem?_append_right->uB,mem_map->uG,drop_eq_nil_of_le->uH,mem_append_right->uJ,filterMap_cons->uK,length_append->uN,sum_cons->uS,prefix_rfl->uV,lookup_cons->uu,replicate_succ->uv,length_nil->vA,map_nil->vB,append_nil->vJ,of_mem_zip->vK,length_filter_le->vM,nodup_cons->va,length_set->vb,take_of_length_le->ve,map_set->vf,any_cons->vh,getElem_mem->vj,contains_cons->vq,mem_iff_getElem?->vt,mem_or_eq_of_mem_set->vw,length->vz,flatten_cons->v5,mem_range->wD,prefix_append->wO,all_cons->wV,map_take->wY,filter_cons->w6,getElem?_zip_eq_some->xC,getElem?_range->xG,eq_of_mem_replicate->xK,mem_filter->xM,sum_append->xQ,lookup_append->xR,getElem?_replicate->xV,append_assoc->xl,getElem?_inj->xn,nodup_append->xo,zipWith->xw,mem_range'_1->xy,ext_getElem?->x5,getElem?_eq_none->yA,length_take->yC,length_drop->yD,ext_getElem->yH,mem_append_left->yK,lookup->yL,getElem?_zipWith_eq_some->yQ,map_congr_left->ya,zip_cons_cons->ym,getElem_take->y7,getElem?_take_of_lt->y9,getElem_map->zP,zipWith_cons_cons->zf,forIn_cons->zm,length_singleton->zw,set_append_right->zx,forIn_nil->AAB,take_succ->AAD,mapM_cons->AAF,drop_eq_nil_iff->AAG,set_append_left->AAO,mem_of_mem_take->AAQ,length_pos_iff->AAW,mem_filterMap->AAi,foldl->AAo,getElem_range->AAs,set_cons_zero->AAv,map_replicate->AAx
open List.MergeSort.Internal renaming splitInTwo->AAw
open Nat renaming lt_of_lt_of_le->sI,le_trans->sL,le_refl->sM,ne_of_lt->tE,pow_le_pow_right->uC,lt_of_le_of_lt->uT,le_succ_of_le->uc,mul_le_mul_right->uf,lt_irrefl->uj,zero_le->ux,lt_or_ge->vI,ne_of_gt->wM,mul_comm->wN,le_of_succ_le->wc,pos_of_ne_zero->xT,le_of_lt->xX,lt_succ_of_lt->xq,mul_pos->yP,min_eq_left->yY,gcd->yf,mul_le_mul->yv,one_lt_two_pow->yw,mul_assoc->zF,lt_succ_self->zN,add_comm->zY,zero_add->zc,gcd_comm->zd,pow_succ->ze,le_succ->AAH
open Ne renaming symm->uO
open Option renaming some->Fk,bind_some->zM,map->AAr
open Option.some renaming inj->uq
open PyProof.Rows renaming envOfC->tQ,slot_tuple_getitem->uP,IntsAre->uz,callWith_type1->wZ,joinParts_cons->wg,AllBare->xU,boot_isinstance->yW,assignInOrder_cons->yi,IsTup->zS,subscriptTail_builtinR->zV,entry_tuple_getitem->AAT,args_tuple_getitem->AAn,formatField_int_small->AAu
open PyProof.Rows.IsTup renaming new->xE
open PySem renaming Value->W1,wpAny_bind->rz,Shared->sE,Addr->sF,wpAny_pure->sR,starEach->sf,Program->sj,Expr->sk,Around->tM,Stmt->tP,Heap->tT,World->tu,mem_of_lookup->uF,Env->uY,Scope->uZ,wpAny_holding->ua,wpAny_mono->uh,wpAny_field->uw,wpAny_pyIter_list->uy,wpAny_Call_Name_kw->vC,FuncData->vD,wpAny_callSpecial?_slot->vE,wpAny_newObj_type->vF,wpAny_seqItems->vH,wpAny_call_entry->vN,wpAny_pyIter_tuple->vO,ExceptHandler->vT,wpAny_truthy_bool->vW,wpAny_standAt->vg,wpAny_setField_rec->vo,wpAny_passesOwn->vx,IsPair->v9,wpAny_execs_cons->wG,NameKind->wH,wpAny_setField->wI,wpAny_getItem_str_slice->wJ,wpAny_loadPart_at->we,sizeLine_eq->wk,wpAny_call->wm,wpAny_letGo->wu,wpAny_binaryOp_repeat_ref->xB,strLen_append->xJ,wpAny_execs_nil->xN,Builtin->xO,wpAny_pyNext_list_item->xZ,wpAny_tryCatch->xt,wpAny_pyNext_list_end->x9,typeIs_int->yE,call_meets->yF,wpAny_updateSeq_pair->yM,codeAny_call_builtin->yO,post_val_or_str->yU,wpAny_updateSeq->yV,codeAny_mono->yb,Arguments->yg,wpAny_rule->yj,wpAny_newFunctionEnv_cells->yl,IsZip->yq,Keyword->yz,wpAny_comprehension_free->zB,wpAny_onRaise->zC,plainId_quiet->zD,noFill_tuple_add->zJ,IsPart->zT,wpAny_typeOf->zU,typeIs_str->zW,codeAny_builtin->zp,wpAny_pyIter_listiter->zt,codeAny_call_function->zv,wpAny_Expr_any->z0,intBits_le_iff->AAE,wpAny_newFunctionEnv->AAJ,boot_len->AAN,wpAny_isSubtype_exc->AAZ,Model->AAd,seq_tuple_add->AAe
open PySem.Around renaming under_plainId->yN,frames_deeper->z8
open PySem.AutoSeq1 renaming wpAny_loadPart'->sv,sub_tuple_tuple->zA
open PySem.Builtin.Builtins renaming bindParams->ye
open PySem.Builtin.List renaming listTooLong->u6
open PySem.Builtin.ObjectAttr renaming storeInDict->yI
open PySem.Builtin.Slice renaming slicePlaces->vv,sliceAdjust->xA,sliceApplied->yn
open PySem.Builtin.SmallTypes renaming nextOf->uD,ownedTupleIsFree->u7,ownedTupleHandOut->xF
open PySem.Builtin.Tuple renaming tupleExact->v8,tupleItemsOf->yo,tupleTooMany->yr
open PySem.Calls renaming Name_function_global->wj,evalArgs_plain->wq,loadGlobal_global->zI,callWith_builtin->zX,spliced_cons->zu,spliced_nil->z7
open PySem.Challenge renaming pw_sharetrail_k13_loads_refused->y3
open PySem.Code renaming quiet_builtin->AAt
open PySem.EntryCells renaming newEntry->AAX
open PySem.F renaming plain_min_loop->vi,slot_tuple_iterator_next->vn,slot_str_getitem->wB,excBase_ValueError->wK,slot_int_rmul->wR,args_tuple_add_2->xH,entry_tuple_add->xW,slot_tuple_add->xj,slot_tuple_mul->yG,args_tuple_iterator_next_1->yS,slot_zip_next->yT,entry_tuple_iterator_next->yc,args_int_rmul_2->y0,slot_int_index->zK,entry_int_rmul->zL,entry_min_loop->zO,fills_int_mul->zl,args_list_extend_2->AAA,entry_list_extend->AAU,slot_list_extend->AAp,args_tuple_mul_2->AAq
open PySem.Heap renaming get?_push_of_some->sC,lt_size->sW,get?_push_size->sg,get?_update_other->tH,get?_update_self->uQ,size_push->uo,SameBut->xY,IsTuple->yd,ExtBut->y2,get?_none_of_le->zy,IsList->AAC,get?_update_ne->AAb
open PySem.Heap.SameBut renaming update->AAV
open PySem.NameKind renaming free->ub,cell->wW
open PySem.Obj renaming mapFields->uk,isFreed_of_fields->vL,data_mapFields->vm,mapSeq->yp
open PySem.PyData renaming strOk->vP,canLayAll0->xp,depthAll->zr
open PySem.SeqAt.EqAt renaming int_str->AAg,str_int->AAh,int_int->AAm
open PySem.Shared renaming heap->v7
open PySem.Str renaming ofString->ur,ofString_eq_toList->zg
open PySem.Txt renaming slice_le->za
open PySem.Value renaming none->tZ,ref->tw,bool->yh,int->zG,str->zH,type->zR,notImplemented->z9,isStrOf->AAc
open PySem.W renaming Frag->Wp,findIn->uL,nsIn->uR,kia_one->ui,keepIn->vG,envX->vU,kitOne->vk,fnOf->v3,mg_of->wC,mroIn->wU,clsIn->wX,exmOne->wx,excIn->xI,specialIn->xf,cellsFrom_some->xg,codeIn->xh,tabObj->xu,kla_fn->xv,callWith_K->yk,isNs_of_in->yt,tail_of_in->yu,methodObj->yy,OpenLaw->zQ,instObj->zk,kla_obj->zq,lookIn->z5,InstAt->z6,kla_callFunE->AAI,kla_codeExpr->AAK,nsOkIn->AAL,tailIn->AAM,callWith_F0->AAY,looks_clsIn->AAa,Looks->AAf,kitx_tuple->AAk,codeRec_of->AAl
open PySem.codeAmong renaming eq_def->wy
open Rat renaming intCast_eq_zero_iff->vY
open Sum renaming inl->AAR,inr->AAS
open True renaming intro->yB
noncomputable section
namespace L2
open PySem PySem.Spec PyProof.Rows
abbrev Key:=Sum Int Str
noncomputable def Ru:Key->W1->tV
 | .inl k,v=>Value.isInt k v
 | .inr x,v=>AAc x v
noncomputable def qy(w:tu):Key->Int
 | .inl k=>hashInt k
 | .inr x=>hashStr w x
theorem Cc:∀{k:Key} {v:W1},Ru k v=true->(∃i t,k=AAR i/\v=zG i t)\/(∃x t,k=AAS x/\v=zH x t)
 | .inl i,v,h=>by
   obtain⟨t,e⟩:=Value.isInt_shape (k:=i) (v:=v) h
   exact .inl ⟨i,t,rfl,e⟩
 | .inr x,v,h=>by
   obtain⟨t,e⟩:=Value.isStrOf_shape (x:=x) (v:=v) h
   exact .inr ⟨x,t,rfl,e⟩
theorem Vw(i:Int)(t:Tok):Ru (.inl i) (.int i t)=true:=by simp[Ru,Value.isInt]
theorem Uq(x:Str)(t:Tok):Ru (.inr x) (.str x t)=true:=by simp[Ru,AAc]
theorem fQ(a b:Int):decide ((AAR a:Key)=AAR b)=(a==b):=by
 by_cases e:a=b
 .subst e;simp
 .have h:¬(AAR a:Key)=AAR b:=λq=>e (Sum.inl.inj q)
  rw[vZ h]
  exact(xD.mpr e).symm
theorem iN(a b:Str):decide ((AAS a:Key)=AAS b)=decide (a=b):=by
 by_cases e:a=b
 .subst e;simp
 .have h:¬(AAS a:Key)=AAS b:=λq=>e (Sum.inr.inj q)
  rw[vZ h,vZ e]
theorem eO(a:Int)(b:Str):decide ((AAR a:Key)=AAS b)=false:=vZ (λq=>nomatch q)
theorem dW(a:Str)(b:Int):decide ((AAS a:Key)=AAR b)=false:=vZ (λq=>nomatch q)
noncomputable def Dg(prog:sj)(w:tu):PySem.KeyKind prog w Key where
 is:=Ru
 hash:=qy w
 inj:=λv a b ha hb=>by
  rcases Cc ha with⟨i,t,rfl,rfl⟩|⟨x,t,rfl,rfl⟩
  .rcases Cc hb with⟨j,u,rfl,e⟩|⟨y,u,rfl,e⟩
   .injection e with e1 _;rw[e1]
   .exact nomatch e
  .rcases Cc hb with⟨j,u,rfl,e⟩|⟨y,u,rfl,e⟩
   .exact nomatch e
   .injection e with e1 _;rw[e1]
 byValue:=λk v h=>by
  rcases Cc h with⟨i,t,rfl,rfl⟩|⟨x,t,rfl,rfl⟩<;>rfl
 pyHash:=λhv h=>by
  rcases Cc hv with⟨i,t,rfl,rfl⟩|⟨x,t,rfl,rfl⟩
  .exact wpAny_pyHash_int h
  .exact wpAny_pyHash_str h
 eqBool:=λhu hv h=>by
  rcases Cc hu with⟨i,t,rfl,rfl⟩|⟨x,t,rfl,rfl⟩
  .rcases Cc hv with⟨j,u,rfl,rfl⟩|⟨y,u,rfl,rfl⟩
   .rw[fQ]at h;exact wpAny_eqBool_int h
   .rw[eO]at h;exact AAg i t y u _ _ _ _ h
  .rcases Cc hv with⟨j,u,rfl,rfl⟩|⟨y,u,rfl,rfl⟩
   .rw[dW]at h;exact AAh x t j u _ _ _ _ h
   .rw[iN]at h;exact wpAny_eqBool_str h
 «strs» :=λk x t v h=>by
  rcases Cc h with⟨i,u,rfl,e⟩|⟨y,u,rfl,e⟩
  .exact nomatch e
  .injection e with e1 _
   subst e1
   cases v<;>rfl
theorem QJ(prog:sj)(w:tu)(i:Int)(t:Tok):(Dg prog w).is (.inl i) (.int i t)=true:=Vw i t
theorem QE(prog:sj)(w:tu)(x:Str)(t:Tok):(Dg prog w).is (.inr x) (.str x t)=true:=Uq x t
end L2
namespace L2
open PySem PySem.Spec PyProof.Rows
inductive V where
 |non|bl (b:tV)|int (i:Int)|str (x:Str)|byt (b:uI UInt8)|flt (b:UInt64)|ref (a:sF)|ty (n:ug)
 deriving DecidableEq
def RelV:V->W1->Prop
 | .non,u=>u=tZ
 | .bl b,u=>u=yh b
 | .int i,u=>∃t,u=zG i t
 | .str x,u=>∃t,u=zH x t
 | .byt b,u=>∃t,u=Value.bytes b t
 | .flt b,u=>∃t,u=Value.float b t
 | .ref a,u=>u=tw a
 | .ty n,u=>u=zR n
abbrev Vals:Gc V->Gc W1->Prop:=Paired RelV
theorem Vals.length{xs:Gc V}{us:Gc W1}(r:Vals xs us):xs.length=us.length:=Paired.length r
theorem Vals.get:∀{xs:Gc V} {us:Gc W1} {i:Nat} {x:V},Vals xs us->xs[i]?=Fk x->∃u,us[i]?=Fk u/\RelV x u
 |_,_,_,_,.nil,e=>by simp at e
 |_,_,0,_,.cons r _,e=>by simp at e;subst e;exact⟨_,rfl,r⟩
 |_,_,i+1,x,.cons _ t,e=>by
  obtain⟨u,h1,h2⟩:=Vals.get (i:=i) (x:=x) t (by simpa using e)
  exact⟨u,by simpa using h1,h2⟩
theorem Vals.set{x:V}{u:W1}(r:RelV x u):∀{xs:Gc V} {us:Gc W1} (i:Nat),Vals xs us->Vals (xs.set i x) (us.set i u)
 |_,_,_,.nil=>.nil
 |_,_,0,.cons _ t=>.cons r t
 |_,_,i+1,.cons q t=>.cons q (Vals.set r i t)
theorem Vals.append:∀{xs ys:Gc V} {us ws:Gc W1},Vals xs us->Vals ys ws->Vals (xs++ys) (us++ws)
 |_,_,_,_,.nil,s=>s
 |_,_,_,_,.cons r t,s=>.cons r (Vals.append t s)
theorem Vals.take:∀{xs:Gc V} {us:Gc W1} (n:Nat),Vals xs us->Vals (xs.take n) (us.take n)
 |_,_,0,_=>.nil
 |_,_,_+1,.nil=>.nil
 |_,_,n+1,.cons r t=>.cons r (Vals.take n t)
theorem Vals.drop:∀{xs:Gc V} {us:Gc W1} (n:Nat),Vals xs us->Vals (xs.drop n) (us.drop n)
 |_,_,0,r=>r
 |_,_,_+1,.nil=>.nil
 |_,_,n+1,.cons _ t=>Vals.drop n t
def ji:sD V->sD W1->Prop
 |some v,Fk u=>RelV v u
 |none,none=>y8
 |_,_=>vS
def KV{κ:Type}:Gc (κ×V)->Gc (κ×W1)->Prop:=Paired λ(p:κ×V) (q:κ×W1)=>p.1=q.1/\RelV p.2 q.2
noncomputable def kV:Key->V
 | .inl i=>.int i
 | .inr x=>.str x
inductive HO where
 |lst (xs:Gc V)
 |tup (xs:Gc V)
 |dK (kvs:Gc (Key×V))|dT (kvs:Gc (Gc Key×V))
 |set (S:Int->tV) (n:Nat)
 |ins (C dx:sF) (fs:Gc (Str×V))
 |own (x:sF)
 |xd (fs:Gc (Str×V))
 |met (f x:sF)
 |rng (lo hi:Int)
 |frz (o:Obj) (u:HO)
 |tbl (ps:uI W1)
 |ext (φ:tT->Prop)
abbrev Hp:=sF->sD HO
noncomputable def upd(H:Hp)(a:sF)(o:HO):Hp:=λb=>if b=a then Fk o else H b
theorem Av{H:Hp}{a:sF}{o:HO}:upd H a o a=Fk o:=by unfold upd;rw[tK rfl]
theorem Ad{H:Hp}{a b:sF}{o:HO}(h:b≠a):upd H a o b=H b:=by unfold upd;rw[tN h]
theorem BJ{H:Hp}{a b:sF}{o:HO}(h:H a=Fk o)(h':H b=none):a≠b:=by
 intro e;subst e;rw[h]at h';cases h'
section
variable(P:sj)(w:tu)
def DF(H:Hp)(h:tT)(a:sF):HO->Prop
 | .lst xs=>xs.length<=sizeLine/\∃(its:Gc W1) (n:Nat),Vals xs its/\h.get? a=Fk {cls:=.type "list",data:=.seq its.toArray n}
 | .tup xs=>xs.length<=sizeLine/\∃its:Gc W1,Vals xs its/\zS h a its.toArray
 | .dK kvs=>kvs.length<=sizeLine/\(a==sysModules)=false/\∃vs,KV kvs vs/\h.DictOf (Dg P w) a vs
 | .dT kvs=>kvs.length<=sizeLine/\(a==sysModules)=false/\∃xs:Gc (Gc Key×sF×W1),
    Paired (λ(p:Gc Key×V) (q:Gc Key×sF×W1)=>p.1=q.1/\H q.2.1=Fk (.tup (p.1.map kV))/\RelV p.2 q.2.2) kvs xs/\
    ∃o es ep,h.get? a=Fk o/\o.ExactDict/\o.data=.dict es ep/\es.toList=xs.map (entryOfKey (tupleKind (Dg P w)))/\(xs.map (·.1)).Nodup
 | .set S n=>h.SetOf (intKind P w) a S n
 | .ins C dx fs=>H dx=Fk (.own a)/\fs.length<=1000/\dx≠a/\h.get? a=Fk (zk C dx)/\
    ∃mA,h.Ns1 dx mA/\(∀f,ji (fs.lookup f) (mA f))/\PySem.Within mA (fs.map (·.1))
 | .own _=>∃o,h.get? a=Fk o
 | .xd fs=>∃mA,h.Ns1 a mA/\∀f,ji (fs.lookup f) (mA f)
 | .rng lo hi=>∃t u v,h.get? a=Fk {cls:=.type "range",data:=.fields #[.int lo t,.int hi u,.int 1 v]}
 | .frz o u=>h.get? a=Fk o/\DF H h a u
 | .tbl ps=>h.get? a=Fk {cls:=.none,data:=.fields ps}
 | .met f x=>h.get? a=Fk (yy (.ref f) (.ref x))
 | .ext φ=>φ h/\(∃o,h.get? a=Fk o)/\∀h1 h2:tT,φ h1->(∀o,h1.get? a=Fk o->h2.get? a=Fk o)->φ h2
def HOk(H:Hp)(h:tT):Prop:=∀a o,H a=Fk o->DF P w H h a o
end
section
variable{P:sj}{w:tu}{H H':Hp}{h h':tT}{a:sF}{o:HO}
theorem DF.lt(x:DF P w H h a o):a<h.objs.size:=by
 cases o with
 |lst xs=>obtain⟨_,_,_,_,e⟩:=x;exact sW e
 |tup xs=>obtain⟨_,_,_,p⟩:=x;exact p.lt
 |dK kvs=>obtain⟨_,_,_,_,o,_,_,e,_⟩:=x;exact sW e
 |dT kvs=>obtain⟨_,_,_,_,o,_,_,e,_⟩:=x;exact sW e
 |set S n=>obtain⟨o,_,_,_,e,_⟩:=x;exact sW e
 |ins C dx fs=>obtain⟨_,_,_,e,_⟩:=x;exact sW e
 |own y=>obtain⟨_,e⟩:=x;exact sW e
 |xd fs=>obtain⟨_,⟨_,_,_,e,_⟩,_⟩:=x;exact sW e
 |rng lo hi=>obtain⟨_,_,_,e⟩:=x;exact sW e
 |frz ob u=>obtain⟨e,_⟩:=x;exact sW e
 |tbl ps=>exact sW (show h.get? a=Fk _ from x)
 |met f y=>exact sW (show h.get? a=Fk _ from x)
 |ext φ=>obtain⟨_,⟨_,e⟩,_⟩:=x;exact sW e
theorem Paired.pB{α β:Type}{F G:α->β->Prop}:∀{l₁:Gc α} {l₂:Gc β},Paired F l₁ l₂->(∀a b,F a b->G a b)->Paired G l₁ l₂
 |_,_,.nil,_=>.nil
 |_,_,.cons r t,f=>.cons (f _ _ r) (Paired.pB t f)
theorem DF.Sj(x:DF P w H h a o)(k:∀b u,(b=a\/H b=Fk (.own a))->h.get? b=Fk u->h'.get? b=Fk u)(ho:∀b,H b=Fk (.own a)->H' b=Fk (.own a))(ht:∀b xs,H b=Fk (.tup xs)->H' b=Fk (.tup xs)):DF P w H' h' a o:=by
 induction o with
 |lst xs=>obtain⟨z,its,n,r,e⟩:=x;exact⟨z,its,n,r,k _ _ (.inl rfl) e⟩
 |tup xs=>obtain⟨z,its,r,ob,e,c⟩:=x;exact⟨z,its,r,ob,k _ _ (.inl rfl) e,c⟩
 |dK kvs=>obtain⟨z,y,vs,r,ob,es,ep,e,c⟩:=x;exact⟨z,y,vs,r,ob,es,ep,k _ _ (.inl rfl) e,c⟩
 |dT kvs=>
  obtain⟨z,y,xs,r,ob,es,ep,e,c⟩:=x
  exact⟨z,y,xs,Paired.pB r λp q z=>⟨z.1,ht _ _ z.2.1,z.2.2⟩,ob,es,ep,k _ _ (.inl rfl) e,c⟩
 |set S n=>obtain⟨ob,es,ep,t,e,c⟩:=x;exact⟨ob,es,ep,t,k _ _ (.inl rfl) e,c⟩
 |ins C dx fs=>
  obtain⟨d,z,ne,e,mA,⟨od,es,ep,e2,c⟩,r⟩:=x
  exact⟨ho _ d,z,ne,k _ _ (.inl rfl) e,mA,⟨od,es,ep,k _ _ (.inr d) e2,c⟩,r⟩
 |own y=>obtain⟨ob,e⟩:=x;exact⟨ob,k _ _ (.inl rfl) e⟩
 |xd fs=>obtain⟨mA,⟨od,es,ep,e,c⟩,r⟩:=x;exact⟨mA,⟨od,es,ep,k _ _ (.inl rfl) e,c⟩,r⟩
 |rng lo hi=>obtain⟨t,u,v,e⟩:=x;exact⟨t,u,v,k _ _ (.inl rfl) e⟩
 |frz ob u ih=>obtain⟨e,q⟩:=x;exact⟨k _ _ (.inl rfl) e,ih q⟩
 |tbl ps=>
  have e:h.get? a=Fk {cls:=.none,data:=.fields ps}:=x
  show h'.get? a=Fk {cls:=.none,data:=.fields ps}
  exact k a _ (.inl rfl) e
 |met f y=>
  have e:h.get? a=Fk (yy (.ref f) (.ref y)):=x
  show h'.get? a=Fk (yy (.ref f) (.ref y))
  exact k a _ (.inl rfl) e
 |ext φ=>obtain⟨p,⟨o,e⟩,st⟩:=x;exact⟨st _ _ p λo q=>k _ _ (.inl rfl) q,⟨o,k _ _ (.inl rfl) e⟩,st⟩
theorem HOk.lt(x:HOk P w H h)(e:H a=Fk o):a<h.objs.size:=(x a o e).lt
theorem HOk.fresh(x:HOk P w H h)(e:h.objs.size<=a):H a=none:=by
 cases q:H a with
 |none=>rfl
 |some u=>exact absurd (sI (x.lt q) e) (uj _)
theorem HOk.kept(x:HOk P w H h)(k:∀b u,h.get? b=Fk u->h'.get? b=Fk u):HOk P w H h':=λa o e=>
 (x a o e).Sj (λb u _ q=>k b u q) (λ_ q=>q) λ_ _ q=>q
theorem HOk.laid(x:HOk P w H h)(k:∀b u,h.get? b=Fk u->h'.get? b=Fk u)(hp:h.objs.size<=a)(new:DF P w (upd H a o) h' a o):HOk P w (upd H a o) h':=λb u e=>by
 have hn:=x.fresh hp
 by_cases hb:b=a
 .subst hb;rw[Av]at e;cases e;exact new
 .rw[Ad hb]at e
  exact(x b u e).Sj (λc v _ q=>k c v q) (λc q=>by rw[Ad (BJ q hn)];exact q) λc xs q=>by rw[Ad (BJ q hn)];exact q
end
def Rd(H:Hp)(a:sF)(u:HO):Prop:=H a=Fk u\/∃o,H a=Fk (.frz o u)
theorem Rd.ok{P:sj}{w:tu}{H:Hp}{h:tT}{a:sF}{u:HO}(r:Rd H a u)(x:HOk P w H h):DF P w H h a u:=by
 rcases r with r|⟨o,r⟩
 .exact x a u r
 .obtain⟨_,q⟩:=x a _ r
  exact q
def Mut:sD HO->Prop
 |some (.lst _)=>y8
 |some (.dK _)=>y8
 |some (.dT _)=>y8
 |some (.set _ _)=>y8
 |some (.ins _ _ _)=>y8
 |some (.ext _)=>y8
 |_=>vS
section
variable{P:sj}{w:tu}{H:Hp}{h h':tT}{x e:sF}{o':HO}
theorem HOk.write(ok:HOk P w H h)(mu:Mut (H x))(he:e=x\/H e=Fk (.own x))(k:∀b u,b≠e->h.get? b=Fk u->h'.get? b=Fk u)(heo:∃u,h'.get? e=Fk u)(new:DF P w (upd H x o') h' x o'):HOk P w (upd H x o') h':=λb u q=>by
 have nown:∀c y,H c=Fk (.own y)->c≠x:=λc y r z=>by subst z;rw[r]at mu;exact mu
 have ntup:∀c xs,H c=Fk (.tup xs)->c≠x:=λc xs r z=>by subst z;rw[r]at mu;exact mu
 by_cases hb:b=x
 .subst hb;rw[Av]at q;cases q;exact new
 .rw[Ad hb]at q
  by_cases hbe:b=e
  .have q':H b=Fk (.own x):=by
    rcases he with z|z
    .exact absurd (hbe.trans z) hb
    .rw[hbe];exact z
   rw[q]at q';cases q'
   obtain⟨v,hv⟩:=heo
   exact⟨v,by rw[hbe];exact hv⟩
  .refine(ok b u q).Sj (λc v hc r=>k c v ?_ r) (λc r=>by rw[Ad (nown c b r)];exact r) λc xs r=>by rw[Ad (ntup c xs r)];exact r
   rcases hc with rfl|hc
   .exact hbe
   .rintro rfl
    rcases he with z|z
    .exact nown c b hc z
    .rw[hc]at z;cases z;exact hb rfl
end
structure Un(fs ex:Gc sF)(H H':Hp)(h h':tT):Prop where
 keep:∀b o,h.get? b=Fk o->H b=none->b∉fs->b∉ex->h'.get? b=Fk o
 slot:∀b o,h.get? b=Fk o->H b=none->b∈fs->b∉ex->∃sl,h'.get? b=Fk {o with slots:=sl}
 free:∀b o,h.get? b=Fk o->H b=none->b∉ex->H' b=none
 there:∀b o,h.get? b=Fk o->b∉ex->∃o',h'.get? b=Fk o'
 WK:∀b xs,H b=Fk (.tup xs)->H' b=Fk (.tup xs)
 Sq:∀b o u,H b=Fk (.frz o u)->H' b=Fk (.frz o u)
 V4:∀b ps,H b=Fk (.tbl ps)->∃more,H' b=Fk (.tbl (ps++more))
section
variable{fs fs' ex ex':Gc sF}{H H1 H2:Hp}{h h1 h2 h':tT}{a x e:sF}{o:HO}
theorem Un.any(u:Un fs ex H H1 h h1){b:sF}{ob:Obj}(q:h.get? b=Fk ob)(n:H b=none)(hx:b∉ex):∃sl,h1.get? b=Fk {ob with slots:=sl}:=by
 by_cases hb:b∈fs
 .exact u.slot b ob q n hb hx
 .exact⟨ob.slots,u.keep b ob q n hb hx⟩
theorem Un.kept(k:∀b u,h.get? b=Fk u->h'.get? b=Fk u):Un fs ex H H h h':=
 ⟨λb ob q _ _ _=>k b ob q,λb ob q _ _ _=>⟨ob.slots,k b ob q⟩,λ_ _ _ n _=>n,λb ob q _=>⟨ob,k b ob q⟩,λ_ _ q=>q,λ_ _ _ q=>q,λ_ ps q=>⟨#[],by rw[q];simp⟩⟩
theorem Un.refl:Un fs ex H H h h:=Un.kept λ_ _ q=>q
theorem Un.laid(k:∀b u,h.get? b=Fk u->h'.get? b=Fk u)(hp:h.objs.size<=a)(hn:H a=none):Un fs ex H (upd H a o) h h' where
 keep:=λb u q _ _ _=>k b u q
 slot:=λb u q _ _ _=>⟨u.slots,k b u q⟩
 free:=λb u q n _=>by rw[Ad (tE (sI (sW q) hp))];exact n
 there:=λb u q _=>⟨u,k b u q⟩
 WK:=λb xs q=>by rw[Ad (BJ q hn)];exact q
 Sq:=λb u xs q=>by rw[Ad (BJ q hn)];exact q
 V4:=λb ps q=>⟨#[],by rw[Ad (BJ q hn),q];simp⟩
theorem Un.write(mu:Mut (H x))(he:e=x\/H e=Fk (.own x))(k:∀b u,b≠e->h.get? b=Fk u->h'.get? b=Fk u)(heo:∃u,h'.get? e=Fk u):Un fs ex H (upd H x o) h h':=by
 have hx:∀b,H b=none->b≠x:=λb n z=>by subst z;rw[n]at mu;exact mu
 have hb:∀b,H b=none->b≠e:=λb n z=>by
  subst z
  rcases he with r|r
  .exact hx b n r
  .rw[n]at r;cases r
 have hm:∀b u,H b=Fk u->¬Mut (Fk u)->b≠x:=λb u q nm z=>by subst z;rw[q]at mu;exact nm mu
 refine⟨λb u q n _ _=>k b u (hb b n) q,λb u q n _ _=>⟨u.slots,k b u (hb b n) q⟩,λb u q n _=>by rw[Ad (hx b n)];exact n,λb u q _=>?_,
  λb xs q=>by rw[Ad (hm b _ q λz=>z)];exact q,λb u xs q=>by rw[Ad (hm b _ q λz=>z)];exact q,λb ps q=>⟨#[],by rw[Ad (hm b _ q λz=>z),q];simp⟩⟩
 by_cases hbe:b=e
 .subst hbe;exact heo
 .exact⟨u,k b u hbe q⟩
end
noncomputable def trk(h:tT)(H:Hp):Gc sF:=(tL h.objs.size).filter λa=>(H a).isSome
noncomputable def WX(h:tT)(H:Hp):tT:=PySem.W.hideAll h (trk h H)
theorem T6(h:tT)(H:Hp):(WX h H).objs.size=h.objs.size:=PySem.W.hideAll_size _ _
theorem We{h:tT}{H:Hp}{b:sF}{o:Obj}(e:h.get? b=Fk o)(n:H b=none):(WX h H).get? b=Fk o:=
 PySem.W.hideAll_get _ e λhm=>by
  have q:(H b).isSome=true:=(xM.mp hm).2
  rw[n]at q;simp at q
theorem Zr{h:tT}{H:Hp}{b:sF}{o:Obj}(e:(WX h H).get? b=Fk o):h.get? b=Fk o/\H b=none:=by
 have e':h.get? b=Fk o:=PySem.W.of_hideAll (trk h H) e
 refine⟨e',?_⟩
 cases q:H b with
 |none=>rfl
 |some x=>
  have hm:b∈trk h H:=xM.mpr ⟨wD.mpr (sW e'),by simp[q]⟩
  have z:(WX h H).get? b=none:=PySem.W.hideAll_none (trk h H) hm
  rw[z]at e;cases e
noncomputable def ZU(g h:tT)(L:sF):Gc (sF×Obj):=(tL h.objs.size).filterMap λa=>if a=L\/(g.get? a).isSome=true then none else(h.get? a).map λo=>(a,o)
noncomputable def rest(g h:tT)(L d:sF):Gc (sF×Obj):=(ZU g h L).filter λp=>decide (p.1≠d)
end L2
namespace L2
open PySem PySem.Spec PyProof.Rows
structure Mod(K:Wp)(mg:Str->sD W1)(base:tT):Prop where
 kin:K.In base
 glob:base.Ns mainGlobals mg
 blt:∃mb,base.Ns builtinsNs mb/\∀x:Str,x≠ "__name__"->mb x=bootBuiltins x
 nolimit:base.NoLimit
structure Cx where
 prog:sj
 w:tu
 K:Wp
 mg:Str->sD W1
 base:tT
 A:tM
 N:Gc Str
 s₀:sE
 H₀:Hp
 env:Env
 outer:Gc Env
 stack:Gc Env
 ex:Gc sF
 fn:Str->tV
 calm:tV
 pn:Gc (sF×Obj)
 xe:W1->sE->Prop
noncomputable def frs(l:Gc Env):Gc sF:=l.filterMap (·.frame)
abbrev Cx.fs(X:Cx):Gc sF:=frs X.outer
def Vis(sc:uZ)(x:Str):Prop:=sc.names.lookup x=Fk .local\/sc.names.lookup x=Fk .cell\/sc.names.lookup x=Fk .free
def Loc(sc:uZ)(x:Str):Prop:=sc.names.lookup x=Fk .local\/sc.names.lookup x=Fk .cell
def Look(env:Env)(h:tT)(m:Str->sD W1)(x:Str)(u:W1):Prop:=
 (env.kindOf x=Fk .local/\m x=Fk u)\/((env.kindOf x=Fk .cell\/env.kindOf x=Fk .free)/\∃c,env.cells.lookup x=Fk c/\h.IsCell c (Fk u))
structure Cx.Ok(X:Cx):Prop where
 mod:Mod X.K X.mg X.base
 kind:X.env.scope.kind=.function
 glob:X.env.globals=mainGlobals
 blt:X.env.builtins=builtinsNs
 above:X.s₀.heap.objs.size<=X.env.locals
 inj:∀x y c,X.env.cells.lookup x=Fk c->X.env.cells.lookup y=Fk c->x=y
 has:∀x,(X.env.kindOf x=Fk .cell\/X.env.kindOf x=Fk .free)->∃c,X.env.cells.lookup x=Fk c
 cab:∀x c,X.fn x=true->X.env.cells.lookup x=Fk c->X.s₀.heap.objs.size<=c
 hd:X.calm=true->X.A.handled=none
 frames:X.A.frames=Fk X.stack
 stk:X.stack=X.outer\/(X.stack=X.env::X.outer/\X.env.frame=Fk X.env.locals)
 exf:∀b∈X.ex,b≠X.env.locals/\∀x c,X.env.cells.lookup x=Fk c->c≠b
 bs:∀b o,X.base.get? b=Fk o->X.s₀.heap.get? b=Fk o/\X.H₀ b=none
 bsz:X.base.objs.size<=X.s₀.heap.objs.size
 Yn:∀b o,X.base.get? b=Fk o->b∉X.ex
 cJ:∀b∈X.ex,b∉X.fs
 QM:X.s₀.heap.FunFrames X.base X.outer
 frf:∀b∈X.fs,X.H₀ b=none
structure Inv(X:Cx)(pins:Gc (sF×Obj))(σ:Gc (sD V))(H:Hp)(s:sE):Prop where
 ok:X.Ok
 os:s.os=X.s₀.os
 bare:xU s.gens
 base:Un X.fs X.ex X.H₀ H X.s₀.heap s.heap
 loc:∃m,s.heap.Ns X.env.locals m/\∀(i:Nat) (x:Str) (v:V),X.N[i]?=Fk x->σ[i]?=Fk (Fk v)->Vis X.env.scope x->∃u,RelV v u/\Look X.env s.heap m x u
 cell:∀x c,X.env.cells.lookup x=Fk c->∃v,s.heap.IsCell c v
 free:H X.env.locals=none
 Iq:∀x c,X.env.cells.lookup x=Fk c->H c=none
 pin:∀p∈X.pn++pins,s.heap.get? p.1=Fk p.2/\H p.1=none/\p.1≠X.env.locals/\p.1∉X.fs/\∀v,p.2.data≠.cell v
 hok:HOk X.prog X.w H s.heap
 len:σ.length=X.N.length
section
variable{X:Cx}{pins:Gc (sF×Obj)}{σ:Gc (sD V)}{H H':Hp}{s:sE}{h':tT}
theorem Cx.Ok.pY(ok:X.Ok){b:sF}{o:Obj}(e:X.base.get? b=Fk o):b∉X.fs:=λhb=>by
 have:=(ok.QM.mem hb).1
 rw[e]at this;cases this
theorem Inv.bs(I:Inv X pins σ H s):∀b o,X.base.get? b=Fk o->s.heap.get? b=Fk o/\H b=none:=λb o e=>
 ⟨I.base.keep b o (I.ok.bs b o e).1 (I.ok.bs b o e).2 (I.ok.pY e) (I.ok.Yn b o e),I.base.free b o (I.ok.bs b o e).1 (I.ok.bs b o e).2 (I.ok.Yn b o e)⟩
theorem Inv.bk(I:Inv X pins σ H s):∀b o,X.base.get? b=Fk o->s.heap.get? b=Fk o:=λb o e=>(I.bs b o e).1
theorem Inv.mod(I:Inv X pins σ H s):Mod X.K X.mg X.base:=I.ok.mod
theorem Inv.kIn(I:Inv X pins σ H s):X.K.In s.heap:=I.ok.mod.kin.keeps I.bk
theorem Inv.nolimit(I:Inv X pins σ H s):s.heap.NoLimit:=I.ok.mod.nolimit.keeps I.bk
theorem Inv.lt(I:Inv X pins σ H s):X.env.locals<s.heap.objs.size:=let⟨_,hn,_⟩:=I.loc;hn.lt
theorem Inv.sz(I:Inv X pins σ H s):X.s₀.heap.objs.size<=s.heap.objs.size:=sL I.ok.above (xX I.lt)
theorem Inv.qj(I:Inv X pins σ H s){a:sF}(h:s.heap.objs.size<=a):a∉X.fs:=λhb=>by
 obtain⟨_,o,ho,_⟩:=I.ok.QM.mem hb
 exact absurd (sI (sW ho) (sL I.sz h)) (uj _)
theorem Inv.cne(I:Inv X pins σ H s):∀x c,X.env.cells.lookup x=Fk c->c≠X.env.locals:=λx c e z=>by
 obtain⟨v,o,ho,hd⟩:=I.cell x c e
 obtain⟨m,⟨o',es,ep,ho',hd',_⟩,_⟩:=I.loc
 rw[z,ho']at ho;cases ho;rw[hd']at hd;cases hd
theorem Inv.QM(I:Inv X pins σ H s):s.heap.FunFrames X.base X.outer:=by
 have all:∀(l:Gc Env),(∀b∈frs l,b∈X.fs)->X.s₀.heap.FunFrames X.base l->s.heap.FunFrames X.base l:=by
  intro l
  induction l with
  |nil=>intro _ _;trivial
  |cons env r ih=>
   intro hs hl
   obtain⟨hk,⟨L,o,hf,hn,ho,hd⟩,hr⟩:=hl
   have hL:L∈X.fs:=hs L (by unfold frs;rw[uK,hf];exact sZ)
   obtain⟨sl,e⟩:=I.base.slot L o ho (I.ok.frf L hL) hL λz=>I.ok.cJ L z hL
   exact⟨hk,⟨L,_,hf,hn,e,hd⟩,ih (λb hb=>hs b (by unfold frs;rw[uK,hf];exact sQ _ hb)) hr⟩
 exact all X.outer (λ_ hb=>hb) I.ok.QM
theorem Inv.stack(I:Inv X pins σ H s):s.heap.FunFrames X.base X.stack:=by
 rcases I.ok.stk with e|⟨e,hf⟩
 .rw[e];exact I.QM
 .rw[e]
  obtain⟨m,hn,_⟩:=I.loc
  refine .cons (by rw[I.ok.kind];decide) hf hn ?_ I.QM
  exact zy (sL I.ok.bsz I.ok.above)
theorem Inv.TU(I:Inv X pins σ H s):∀b∈frs X.stack,b∈X.env.locals::X.fs:=λb hb=>by
 rcases I.ok.stk with e|⟨e,hf⟩
 .rw[e]at hb;exact sQ _ hb
 .rw[e]at hb
  unfold frs at hb
  rw[uK,hf]at hb
  exact hb
theorem Inv.P7(I:Inv X pins σ H s):∀b∈frs X.stack,H b=none:=λb hb=>by
 rcases sN.mp (I.TU b hb)with e|hb
 .rw[e];exact I.free
 .obtain⟨_,o,ho,_⟩:=I.ok.QM.mem hb
  exact I.base.free b o ho (I.ok.frf b hb) λz=>I.ok.cJ b z hb
theorem Inv.step{g':uI GenState}{t':Nat}{d':Drawn}{ch:Gc sF}(I:Inv X pins σ H s)(hch:∀b∈ch,(b∈X.ex\/X.s₀.heap.objs.size<=b)/\b≠X.env.locals/\(∀x c,X.env.cells.lookup x=Fk c->c≠b)/\∀p∈X.pn++pins,p.1≠b)(keep:∀b o,b≠X.env.locals->b∉X.fs->b∉ch->s.heap.get? b=Fk o->H b=none->h'.get? b=Fk o)(slot:∀b o,b≠X.env.locals->b∈X.fs->b∉ch->s.heap.get? b=Fk o->H b=none->∃sl,h'.get? b=Fk {o with slots:=sl})(free:∀b o,b∉ch->s.heap.get? b=Fk o->H b=none->H' b=none)(there:∀b o,b∉ch->s.heap.get? b=Fk o->∃o',h'.get? b=Fk o')(WK:∀b xs,H b=Fk (.tup xs)->H' b=Fk (.tup xs))(Sq:∀b o u,H b=Fk (.frz o u)->H' b=Fk (.frz o u))(V4:∀b ps,H b=Fk (.tbl ps)->∃more,H' b=Fk (.tbl (ps++more)))(ns:∀m,s.heap.Ns X.env.locals m->h'.Ns X.env.locals m)(hok:HOk X.prog X.w H' h')(hg:xU g'):Inv X pins σ H' {s with heap:=h',gens:=g',drawn:=d',toks:=t'}:=by
 have neL:∀b o,X.s₀.heap.get? b=Fk o->b≠X.env.locals:=λb o e=>tE (sI (sW e) I.ok.above)
 have neC:∀b o,X.s₀.heap.get? b=Fk o->b∉X.ex->b∉ch:=λb o e hx hb=>by
  rcases(hch b hb).1 with z|z
  .exact hx z
  .exact absurd (sI (sW e) z) (uj _)
 have cellK:∀x c,X.env.cells.lookup x=Fk c->∀v,s.heap.IsCell c v->h'.IsCell c v:=λx c e v ⟨o,ho,hd⟩=>by
  have nch:c∉ch:=λz=>(hch c z).2.2.1 x c e rfl
  by_cases hc:c∈X.fs
  .obtain⟨sl,q⟩:=slot c o (I.cne x c e) hc nch ho (I.Iq x c e)
   exact⟨_,q,hd⟩
  .exact⟨o,keep c o (I.cne x c e) hc nch ho (I.Iq x c e),hd⟩
 refine⟨I.ok,I.os,hg,⟨λb o e n hb hx=>?_,λb o e n hb hx=>?_,λb o e n hx=>?_,λb o e hx=>?_,λb xs e=>WK b xs (I.base.WK b xs e),λb o xs e=>Sq b o xs (I.base.Sq b o xs e),λb ps e=>?_⟩,?_,λx c e=>?_,?_,λx c e=>?_,λp hp=>?_,hok,I.len⟩
 .exact keep b o (neL b o e) hb (neC b o e hx) (I.base.keep b o e n hb hx) (I.base.free b o e n hx)
 .obtain⟨sl,e1⟩:=I.base.slot b o e n hb hx
  obtain⟨sl',e2⟩:=slot b _ (neL b o e) hb (neC b o e hx) e1 (I.base.free b o e n hx)
  exact⟨sl',e2⟩
 .obtain⟨o',e1⟩:=I.base.there b o e hx
  exact free b o' (neC b o e hx) e1 (I.base.free b o e n hx)
 .obtain⟨o',e1⟩:=I.base.there b o e hx
  exact there b o' (neC b o e hx) e1
 .obtain⟨m1,e1⟩:=I.base.V4 b ps e
  obtain⟨m2,e2⟩:=V4 b _ e1
  exact⟨m1++m2,by rw[e2,Array.append_assoc]⟩
 .obtain⟨m,hn,hl⟩:=I.loc
  refine⟨m,ns m hn,λi x v e1 e2 e3=>?_⟩
  obtain⟨u,r,l⟩:=hl i x v e1 e2 e3
  refine⟨u,r,?_⟩
  rcases l with l|⟨k,c,e,z⟩
  .exact .inl l
  .exact .inr ⟨k,c,e,cellK x c e _ z⟩
 .obtain⟨v,z⟩:=I.cell x c e
  exact⟨v,cellK x c e v z⟩
 .obtain⟨m,⟨o,_,_,ho,_⟩,_⟩:=I.loc
  exact free _ o (λz=>(hch _ z).2.1 rfl) ho I.free
 .obtain⟨v,o,ho,hd⟩:=I.cell x c e
  exact free c o (λz=>(hch c z).2.2.1 x c e rfl) ho (I.Iq x c e)
 .obtain⟨e,n,ne,nf,d⟩:=I.pin p hp
  have nch:p.1∉ch:=λz=>(hch p.1 z).2.2.2 p hp rfl
  exact⟨keep p.1 p.2 ne nf nch e n,free p.1 p.2 nch e n,ne,nf,d⟩
theorem Inv.un{t':Nat}(I:Inv X pins σ H s)(u:Un X.fs [] H H' s.heap h')(hok:HOk X.prog X.w H' h'):Inv X pins σ H' {s with heap:=h',toks:=t'}:=by
 obtain⟨m,⟨o,es,ep,ho,r⟩,_⟩:=id I.loc
 obtain⟨sl,hL⟩:=u.any ho I.free (by simp)
 exact I.step (g':=s.gens) (d':=s.drawn) (ch:=[]) (λ_ z=>nomatch z) (λb o _ hb _ e n=>u.keep b o e n hb (by simp)) (λb o _ hb _ e n=>u.slot b o e n hb (by simp)) (λb o _ e n=>u.free b o e n (by simp)) (λb o _ e=>u.there b o e (by simp)) u.WK u.Sq u.V4 (λm' hm=>by
  obtain⟨o',es',ep',ho',r'⟩:=hm
  rw[ho]at ho';cases ho'
  exact⟨_,es',ep',hL,r'⟩) hok I.bare
theorem Inv.call{g':uI GenState}{t':Nat}{d':Drawn}{ch:Gc sF}(I:Inv X pins σ H s)(u:Un (frs X.stack) ch H H' s.heap h')(hok:HOk X.prog X.w H' h')(hg:xU g')(hch:∀b∈ch,(b∈X.ex\/X.s₀.heap.objs.size<=b)/\b≠X.env.locals/\(∀x c,X.env.cells.lookup x=Fk c->c≠b)/\∀p∈X.pn++pins,p.1≠b):Inv X pins σ H' {s with heap:=h',gens:=g',drawn:=d',toks:=t'}:=by
 obtain⟨m,⟨o,es,ep,ho,r⟩,_⟩:=id I.loc
 obtain⟨sl,hL⟩:=u.any ho I.free λz=>(hch _ z).2.1 rfl
 exact I.step (ch:=ch) hch (λb o hL hb hc e n=>u.keep b o e n (λz=>(sN.mp (I.TU b z)).elim hL hb) hc) (λb o _ _ hc e n=>u.any e n hc) (λb o hc e n=>u.free b o e n hc) (λb o hc e=>u.there b o e hc) u.WK u.Sq u.V4 (λm' hm=>by
  obtain⟨o',es',ep',ho',r'⟩:=hm
  rw[ho]at ho';cases ho'
  exact⟨_,es',ep',hL,r'⟩) hok hg
theorem Inv.turned{t':Nat}{it:sF}(I:Inv X pins σ H s)(k:∀b o,b≠it->s.heap.get? b=Fk o->h'.get? b=Fk o)(hn:H it=none)(hL:it≠X.env.locals)(h1:it∈X.ex\/X.s₀.heap.objs.size<=it)(h2:∀x c,X.env.cells.lookup x=Fk c->c≠it)(h3:∀p∈X.pn++pins,p.1≠it):Inv X pins σ H {s with heap:=h',toks:=t'}:=by
 have nit:∀b u,H b=Fk u->b≠it:=λb u e z=>by rw[z,hn]at e;cases e
 refine I.step (g':=s.gens) (d':=s.drawn) (ch:=[it]) (λb hb=>?_) (λb o _ _ hc e _=>k b o (λz=>hc (by simp[z])) e) (λb o _ _ hc e _=>⟨o.slots,k b o (λz=>hc (by simp[z])) e⟩) (λ_ _ _ _ n=>n)
  (λb o hc e=>⟨o,k b o (λz=>hc (by simp[z])) e⟩) (λ_ _ e=>e) (λ_ _ _ e=>e) (λb ps e=>⟨#[],by rw[e];simp⟩) (λm hm=>?_) (λb u e=>?_) I.bare
 .have e:b=it:=by simpa using hb
  subst e
  exact⟨h1,hL,h2,h3⟩
 .obtain⟨o,es,ep,ho,r⟩:=hm
  exact⟨o,es,ep,k _ o (uO hL) ho,r⟩
 .refine(I.hok b u e).Sj (λc v hc q=>k c v ?_ q) (λ_ q=>q) λ_ _ q=>q
  rcases hc with z|z
  .rw[z];exact nit b u e
  .exact nit c _ z
theorem Inv.tok(I:Inv X pins σ H s)(t:Nat):Inv X pins σ H {s with toks:=t}:=I.un (h':=s.heap) (t':=t) Un.refl I.hok
theorem Inv.kept{t':Nat}(I:Inv X pins σ H s)(k:∀b u,s.heap.get? b=Fk u->h'.get? b=Fk u):Inv X pins σ H {s with heap:=h',toks:=t'}:=I.un (Un.kept k) (I.hok.kept k)
theorem Inv.laid{a:sF}{o:HO}{t':Nat}(I:Inv X pins σ H s)(k:∀b u,s.heap.get? b=Fk u->h'.get? b=Fk u)(hp:s.heap.objs.size<=a)(new:DF X.prog X.w (upd H a o) h' a o):Inv X pins σ (upd H a o) {s with heap:=h',toks:=t'}:=I.un (Un.laid k hp (I.hok.fresh hp)) (I.hok.laid k hp new)
theorem Inv.write{x e:sF}{o:HO}{t':Nat}(I:Inv X pins σ H s)(mu:Mut (H x))(he:e=x\/H e=Fk (.own x))(k:∀b u,b≠e->s.heap.get? b=Fk u->h'.get? b=Fk u)(heo:∃u,h'.get? e=Fk u)(new:DF X.prog X.w (upd H x o) h' x o):Inv X pins σ (upd H x o) {s with heap:=h',toks:=t'}:=I.un (Un.write mu he k heo) (I.hok.write mu he k heo new)
theorem Inv.TV{pins':Gc (sF×Obj)}(I:Inv X pins σ H s)(h:∀p∈pins',s.heap.get? p.1=Fk p.2/\H p.1=none/\p.1≠X.env.locals/\p.1∉X.fs/\∀v,p.2.data≠.cell v):Inv X pins' σ H s:=
 ⟨I.ok,I.os,I.bare,I.base,I.loc,I.cell,I.free,I.Iq,λp hp=>(sx.mp hp).elim (λz=>I.pin p (yK _ z)) (h p),I.hok,I.len⟩
theorem RC{N:Gc Str}(hN:N.Nodup){i j:Nat}{x:Str}(a:N[i]?=Fk x)(b:N[j]?=Fk x):i=j:=by
 obtain⟨h1,e1⟩:=sO.mp a
 obtain⟨h2,e2⟩:=sO.mp b
 exact(List.getElem_inj hN).mp (e1.trans e2.symm)
theorem PH{M:AAd}{A:tM}{E:W1->sE->Prop}{i:Nat}{x:Str}{v:V}{u:W1}{Q:Unit->sE->Prop}(I:Inv X pins σ H s)(hN:X.N.Nodup)(hi:X.N[i]?=Fk x)(hx:Loc X.env.scope x)(r:RelV v u)(h:∀s',Inv X pins (σ.set i (Fk v)) H s'->(∃a,xY a s.heap s'.heap/\(a=X.env.locals\/X.env.cells.lookup x=Fk a))->Q () s')(hf:X.fn x=true\/X.env.scope.names.lookup x=Fk .local:=by first|exact .inl rfl|exact .inr rfl|assumption):wpAny M A (storeName X.env x u) Q E s:=by
 obtain⟨m,hn,hl⟩:=id I.loc
 have hcls:(X.env.scope.kind== .class||(X.env.scope.kind== .module && X.env.locals !=X.env.globals))=false:=by rw[I.ok.kind];rfl
 have hiσ:i<σ.length:=by rw[I.len];exact(sO.mp hi).1
 have cne:=I.cne
 have tracked:∀{a:sF} {h':tT},(∃o,s.heap.get? a=Fk o/\H a=none)->xY a s.heap h'->HOk X.prog X.w H h':=λ{a h'} ha hs b ob e=>by
  obtain⟨_,_,hfree⟩:=ha
  refine(I.hok b ob e).Sj (λc w' hc q=>(hs.2 c ?_).trans q) (λ_ q=>q) λ_ _ q=>q
  rintro rfl
  rcases hc with rfl|hc
  .rw[hfree]at e;cases e
  .rw[hfree]at hc;cases hc
 rcases hx with hk|hk
 .refine wpAny_storeName_local hk hn (λh' hn' hs=>?_) hcls
  obtain⟨oL,_,_,hoL,_⟩:=id hn
  refine h _ ⟨I.ok,I.os,I.bare,⟨λb o e n hb hx=>?_,λb o e n hb hx=>?_,I.base.free,λb o e hx=>?_,I.base.WK,I.base.Sq,I.base.V4⟩,⟨_,hn',λj y v' e1 e2 e3=>?_⟩,λy c e=>?_,I.free,I.Iq,λp hp=>?_,tracked ⟨oL,hoL,I.free⟩ hs,by simpa using I.len⟩ ⟨_,hs,.inl rfl⟩
  .exact(hs.2 b (tE (sI (sW e) I.ok.above))).trans (I.base.keep b o e n hb hx)
  .obtain⟨sl,e1⟩:=I.base.slot b o e n hb hx
   exact⟨sl,(hs.2 b (tE (sI (sW e) I.ok.above))).trans e1⟩
  .obtain⟨o',e1⟩:=I.base.there b o e hx
   exact⟨o',(hs.2 b (tE (sI (sW e) I.ok.above))).trans e1⟩
  .by_cases hj:j=i
   .subst hj
    rw[hi]at e1;cases e1
    rw[sX hiσ]at e2
    cases e2
    exact⟨u,r,.inl ⟨hk,by simp⟩⟩
   .rw[sJ (uO hj)]at e2
    obtain⟨u',r',q⟩:=hl j y v' e1 e2 e3
    refine⟨u',r',?_⟩
    rcases q with⟨k,e⟩|⟨k,c,e,z⟩
    .refine .inl ⟨k,?_⟩
     have:y≠x:=λe=>hj (RC hN e1 (e▸hi))
     simp[this,e]
    .exact .inr ⟨k,c,e,z.sameBut hs (cne y c e)⟩
  .obtain⟨w',z⟩:=I.cell y c e
   exact⟨w',z.sameBut hs (cne y c e)⟩
  .obtain⟨e,n,ne,nf,d⟩:=I.pin p hp
   exact⟨(hs.2 p.1 ne).trans e,n,ne,nf,d⟩
 .have hfn:X.fn x=true:=by
   rcases hf with z|z
   .exact z
   .rw[z]at hk;cases hk
  obtain⟨c,hc⟩:=I.ok.has x (.inl hk)
  obtain⟨w',z⟩:=I.cell x c hc
  refine wpAny_storeName_cell I.ok.kind hk hc z (λh' hc' hs=>?_)
  obtain⟨oc,hoc,hocd⟩:=id z
  refine h {s with heap:=h'} ⟨I.ok,I.os,I.bare,⟨λb o e n hb hx=>?_,λb o e n hb hx=>?_,I.base.free,λb o e hx=>?_,I.base.WK,I.base.Sq,I.base.V4⟩,⟨m,hn.sameBut hs (uO (cne x c hc)),λj y v' e1 e2 e3=>?_⟩,λy c' e=>?_,I.free,I.Iq,λp hp=>?_,tracked ⟨oc,hoc,I.Iq x c hc⟩ hs,by simpa using I.len⟩ ⟨c,hs,.inr hc⟩
  .exact(hs.2 b (tE (sI (sW e) (I.ok.cab x c hfn hc)))).trans (I.base.keep b o e n hb hx)
  .obtain⟨sl,e1⟩:=I.base.slot b o e n hb hx
   exact⟨sl,(hs.2 b (tE (sI (sW e) (I.ok.cab x c hfn hc)))).trans e1⟩
  .obtain⟨o',e1⟩:=I.base.there b o e hx
   exact⟨o',(hs.2 b (tE (sI (sW e) (I.ok.cab x c hfn hc)))).trans e1⟩
  .by_cases hj:j=i
   .subst hj
    rw[hi]at e1;cases e1
    rw[sX hiσ]at e2
    cases e2
    exact⟨u,r,.inr ⟨.inl hk,c,hc,hc'⟩⟩
   .rw[sJ (uO hj)]at e2
    obtain⟨u',r',q⟩:=hl j y v' e1 e2 e3
    refine⟨u',r',?_⟩
    rcases q with q|⟨k,c',e,z'⟩
    .exact .inl q
    .refine .inr ⟨k,c',e,z'.sameBut hs ?_⟩
     rintro rfl
     exact hj (RC hN e1 (I.ok.inj _ _ _ e hc▸hi))
  .by_cases hcc:c'=c
   .subst hcc;exact⟨_,hc'⟩
   .obtain⟨w2,z2⟩:=I.cell y c' e
    exact⟨w2,z2.sameBut hs hcc⟩
  .obtain⟨e,n,ne,nf,d⟩:=I.pin p hp
   refine⟨(hs.2 p.1 ?_).trans e,n,ne,nf,d⟩
   intro q
   rw[q,hoc]at e
   have q':oc=p.2:=uq e
   exact d w' (by rw[<-q'];exact hocd)
theorem Kn{M:AAd}{A:tM}{E:W1->sE->Prop}{i:Nat}{x:Str}{v:V}{u:W1}{Q:Unit->sE->Prop}(I:Inv X pins σ H s)(hN:X.N.Nodup)(hi:X.N[i]?=Fk x)(hx:Loc X.env.scope x)(r:RelV v u)(h:∀s',Inv X pins (σ.set i (Fk v)) H s'->Q () s')(hf:X.fn x=true\/X.env.scope.names.lookup x=Fk .local:=by first|exact .inl rfl|exact .inr rfl|assumption):wpAny M A (storeName X.env x u) Q E s:=
 PH I hN hi hx r (λs' I' _=>h s' I') hf
theorem Inv.aw{s':sE}{ch:Gc sF}(I:Inv X pins σ H s)(ho:s'.os=s.os)(u:Un (frs X.stack) ch H H' s.heap s'.heap)(hok:HOk X.prog X.w H' s'.heap)(hg:xU s'.gens)(hch:∀b∈ch,(b∈X.ex\/X.s₀.heap.objs.size<=b)/\b≠X.env.locals/\(∀x c,X.env.cells.lookup x=Fk c->c≠b)/\∀p∈X.pn++pins,p.1≠b):Inv X pins σ H' s':=by
 obtain⟨h',g',d',t',o'⟩:=s'
 have e:o'=s.os:=ho
 subst e
 exact I.call (g':=g') (t':=t') (d':=d') u hok hg hch
end
abbrev XK:=W1->sD sF->Hp->Prop
abbrev St:=Gc (sD V)
abbrev VK:=V->Hp->Prop
abbrev TE:=St->Hp->VK->Prop
abbrev TT:=St->Hp->(tV->Hp->Prop)->Prop
abbrev TA:=St->Hp->(Gc V->Hp->Prop)->Prop
structure Ends where
 nx:St->Hp->Prop
 rt:VK
 bk:St->Hp->Prop:=λ_ _=>vS
 ct:St->Hp->Prop:=λ_ _=>vS
abbrev TS:=Ends->St->Hp->Prop
def EP(X:Cx)(pins:Gc (sF×Obj))(σ:St)(Q:VK)(u:W1)(s':sE):Prop:=∃v H',Inv X pins σ H' s'/\RelV v u/\Q v H'
def TP(X:Cx)(pins:Gc (sF×Obj))(σ:St)(Q:tV->Hp->Prop)(b:tV)(s':sE):Prop:=∃H',Inv X pins σ H' s'/\Q b H'
def AP(X:Cx)(pins:Gc (sF×Obj))(σ:St)(Q:Gc V->Hp->Prop)(us:Gc W1)(s':sE):Prop:=∃vs H',Inv X pins σ H' s'/\Vals vs us/\Q vs H'
def SP(X:Cx)(pins:Gc (sF×Obj))(D:Ends)(f:Flow)(s':sE):Prop:=
 match f with
 | .next=>∃σ' H',Inv X pins σ' H' s'/\D.nx σ' H'
 | .brk=>∃σ' H',Inv X pins σ' H' s'/\D.bk σ' H'
 | .cont=>∃σ' H',Inv X pins σ' H' s'/\D.ct σ' H'
 | .ret u=>∃v σ' H',Inv X pins σ' H' s'/\RelV v u/\D.rt v H'
def PE(X:Cx)(e:sk)(t:TE):Prop:=
 ∀(pins:Gc (sF×Obj)) (s:sE) (σ:St) (H:Hp) (Q:VK),Inv X pins σ H s->t σ H Q->wpAny (model X.prog X.w) X.A (eval e X.env) (EP X pins σ Q) X.xe s
def PT(X:Cx)(e:sk)(t:TT):Prop:=
 ∀(pins:Gc (sF×Obj)) (s:sE) (σ:St) (H:Hp) (Q:tV->Hp->Prop),Inv X pins σ H s->t σ H Q->wpAny (model X.prog X.w) X.A (isTrue e X.env (eval e X.env)) (TP X pins σ Q) X.xe s
def PW(X:Cx)(e:sk)(t:TT):Prop:=
 ∀(whole:Sem W1) (pins:Gc (sF×Obj)) (s:sE) (σ:St) (H:Hp) (Q:tV->Hp->Prop),Inv X pins σ H s->t σ H Q->wpAny (model X.prog X.w) X.A (isTrue e X.env whole) (TP X pins σ Q) X.xe s
theorem PW.pt{X:Cx}{e:sk}{t:TT}(h:PW X e t):PT X e t:=h _
def PA(X:Cx)(es:Gc sk)(t:TA):Prop:=
 ∀(pos:Pos) (pins:Gc (sF×Obj)) (s:sE) (σ:St) (H:Hp) (Q:Gc V->Hp->Prop),Inv X pins σ H s->t σ H Q->wpAny (model X.prog X.w) X.A (spliced (backTo pos (sf es X.env))) (AP X pins σ Q) X.xe s
def PS(X:Cx)(st:tP)(t:TS):Prop:=
 ∀(pins:Gc (sF×Obj)) (s:sE) (σ:St) (H:Hp) (D:Ends),Inv X pins σ H s->t D σ H->wpAny (model X.prog X.w) X.A (exec st X.env) (SP X pins D) X.xe s
def PSs(X:Cx)(st:Gc tP)(t:TS):Prop:=
 ∀(pins:Gc (sF×Obj)) (s:sE) (σ:St) (H:Hp) (D:Ends),Inv X pins σ H s->t D σ H->wpAny (model X.prog X.w) X.A (execs st X.env) (SP X pins D) X.xe s
theorem thn{α:Type}{t:Sem α}{Q Q':α->sE->Prop}{M:AAd}{A:tM}{E:W1->sE->Prop}{s:sE}(h:wpAny M A t Q E s)(hQ:∀a s,Q a s->Q' a s):wpAny M A t Q' E s:=uh h hQ λ_ _ x=>x
end L2
namespace L2
open PySem PySem.Spec PyProof.Rows
section
variable{X:Cx}
noncomputable def oB(i:Nat):TE:=λσ H Q=>∃v,σ[i]?=Fk (Fk v)/\Q v H
noncomputable def tC(v:V):TE:=λ_ H Q=>Q v H
theorem KN{i:Nat}{x:Str}{pos:Pos}(hN:X.N[i]?=Fk x)(hv:Vis X.env.scope x)(hd:(x==("__debug__":Str))=false:=by decide)(hcd:(x==("__classdict__":Str))=false:=by decide):PE X (.Name x pos) (oB i):=by
 intro pins s σ H Q I h
 obtain⟨v,e,h⟩:=h
 obtain⟨m,hn,hl⟩:=I.loc
 obtain⟨u,r,l⟩:=hl i x v hN e hv
 have fin:EP X pins σ Q u s:=⟨v,H,I,r,h⟩
 rcases l with⟨hk,hm⟩|⟨hk,c,hc,hcell⟩
 .exact wpAny_Name (wpAny_loadName_local I.ok.kind hk hn hm fin) hd
 .rcases hk with hk|hk
  .exact wpAny_Name (wpAny_loadName_cell I.ok.kind hk hc hcell fin) hd
  .exact wpAny_Name (wpAny_loadName_free I.ok.kind hk hc hcell fin hcd) hd
theorem iK{i j pos}:PE X (.Constant (.int i) j pos) (tC (.int i)):=λ_ _ _ H _ I h=>wpAny_Constant_int ⟨.int i,H,I.tok _,⟨_,rfl⟩,h⟩
theorem m8{b j pos}:PE X (.Constant (.bool b) j pos) (tC (.bl b)):=λ_ _ _ H _ I h=>Constant_bool ⟨.bl b,H,I,rfl,h⟩
theorem du{j pos}:PE X (.Constant .none j pos) (tC .non):=λ_ _ _ H _ I h=>Constant_none ⟨.non,H,I,rfl,h⟩
theorem UT{x j pos}:PE X (.Constant (.str x) j pos) (tC (.str x)):=λ_ _ _ H _ I h=>Calls.Constant_str ⟨.str x,H,I.tok _,⟨_,rfl⟩,h⟩
def Gl(X:Cx)(x:Str):Prop:=X.env.kindOf x=Fk .globalImplicit
theorem Iy{E:W1->sE->Prop}{pins:Gc (sF×Obj)}{s:sE}{σ:St}{H:Hp}{x:Str}{u:W1}{pos:Pos}{Q:W1->sE->Prop}(I:Inv X pins σ H s)(hg:Gl X x)(hm:X.mg x=Fk u)(h:Q u s)(hd:(x==("__debug__":Str))=false:=by decide):wpAny (model X.prog X.w) X.A (eval (.Name x pos) X.env) Q E s:=
 wj I.ok.kind hg (zI (by rw[I.ok.glob];exact I.mod.glob.keeps I.bk) hm h) hd
theorem Lg{E:W1->sE->Prop}{pins:Gc (sF×Obj)}{s:sE}{σ:St}{H:Hp}{x:Str}{u:W1}{pos:Pos}{Q:W1->sE->Prop}(I:Inv X pins σ H s)(hg:Gl X x)(hm:X.mg x=none)(hv:bootBuiltins x=Fk u)(h:Q u s)(hn:x≠ "__name__":=by decide)(hd:(x==("__debug__":Str))=false:=by decide):wpAny (model X.prog X.w) X.A (eval (.Name x pos) X.env) Q E s:=by
 obtain⟨mb,h1,h2⟩:=I.mod.blt
 exact wj I.ok.kind hg (Calls.loadGlobal_builtin (by rw[I.ok.glob];exact I.mod.glob.keeps I.bk) hm (by rw[I.ok.blt];exact h1.keeps I.bk) ((h2 x hn).trans hv) h) hd
theorem bW{x:Str}{v:V}{u:W1}{pos:Pos}(hg:Gl X x)(hm:X.mg x=Fk u)(r:RelV v u)(hd:(x==("__debug__":Str))=false:=by decide):PE X (.Name x pos) (tC v):=
 λ_ _ _ H _ I h=>Iy I hg hm ⟨v,H,I,r,h⟩ hd
theorem bF{x:Str}{v:V}{u:W1}{pos:Pos}(hg:Gl X x)(hm:X.mg x=none)(hv:bootBuiltins x=Fk u)(r:RelV v u)(hn:x≠ "__name__":=by decide)(hd:(x==("__debug__":Str))=false:=by decide):PE X (.Name x pos) (tC v):=
 λ_ _ _ H _ I h=>Lg I hg hm hv ⟨v,H,I,r,h⟩ hn hd
def t2I(ta tb:TE)(k:Int->Int->Hp->Prop):St->Hp->Prop:=λσ H=>ta σ H λx H1=>tb σ H1 λy H2=>∃i j,x=.int i/\y=.int j/\k i j H2
variable{a b:sk}{ta tb:TE}{pos:Pos}
noncomputable def tB(t:TE):TT:=λσ H Q=>t σ H λx H1=>∃c,x=.bl c/\Q c H1
theorem eE{e:sk}{t:TE}(h:PE X e t)(he:∀whole,isTrue e X.env whole=(do let v<-whole;standAt e.pos;holding [v] (truthy v)):=by intro _;rfl):PT X e (tB t):=by
 intro pins s σ H Q I hw
 refine isTrue_plain (thn (h pins s σ H _ I hw) λv s1 ⟨x,H1,I1,r1,q1⟩=>?_) (he _)
 obtain⟨d,rfl,q⟩:=q1
 cases r1
 exact vW ⟨H1,I1,q⟩
variable{tA tB':TT}{rest:Gc sk}
noncomputable def qR(t u:TT):TT:=λσ H Q=>t σ H λc H1=>if c=true then u σ H1 Q else Q false H1
noncomputable def tOr(t u:TT):TT:=λσ H Q=>t σ H λc H1=>if c=true then Q true H1 else u σ H1 Q
noncomputable def pw(t:TT):TT:=λσ H Q=>t σ H λc H1=>Q (!c) H1
theorem cH(ha:PT X a tA):PW X (.BoolOp .And [a] pos) tA:=by
 intro wh pins s σ H Q I h
 refine isTrue_and (thn (ha pins s σ H Q I h) λc s1 e=>?_)
 cases c with
 |true=>exact isTrue_and_nil e
 |false=>exact e
theorem iH(ha:PT X a tA):PW X (.BoolOp .Or [a] pos) tA:=by
 intro wh pins s σ H Q I h
 refine isTrue_or (thn (ha pins s σ H Q I h) λc s1 e=>?_)
 cases c with
 |false=>exact isTrue_or_nil e
 |true=>exact e
theorem gh(ha:PT X a tA)(hb:PW X (.BoolOp .And (b::rest) pos) tB'):PW X (.BoolOp .And (a::b::rest) pos) (qR tA tB'):=by
 intro wh pins s σ H Q I h
 refine isTrue_and (thn (ha pins s σ H _ I h) λc s1 ⟨H1,I1,q1⟩=>?_)
 cases c with
 |true=>exact hb wh pins s1 σ H1 Q I1 q1
 |false=>exact⟨H1,I1,q1⟩
theorem lV(ha:PT X a tA)(hb:PW X (.BoolOp .Or (b::rest) pos) tB'):PW X (.BoolOp .Or (a::b::rest) pos) (tOr tA tB'):=by
 intro wh pins s σ H Q I h
 refine isTrue_or (thn (ha pins s σ H _ I h) λc s1 ⟨H1,I1,q1⟩=>?_)
 cases c with
 |true=>exact⟨H1,I1,q1⟩
 |false=>exact hb wh pins s1 σ H1 Q I1 q1
theorem fS(ha:PT X a tA):PT X (.UnaryOp .Not a pos) (pw tA):=by
 intro pins s σ H Q I h
 exact isTrue_not (ha pins s σ H (λc H1=>Q (!c) H1) I h)
noncomputable def lD(ta tb:TE):TE:=λσ H Q=>ta σ H λx H1=>∃c,x=.bl c/\if c=true then tb σ H1 Q else Q (.bl false) H1
noncomputable def l7(ta:TE):TE:=λσ H Q=>ta σ H λx H1=>∃c,x=.bl c/\Q (.bl (!c)) H1
theorem iX{op}{t:TE}(h:PE X a t):PE X (.BoolOp op [a] pos) t:=λpins s σ H Q I hw=>BoolOp_one (h pins s σ H Q I hw)
theorem di(ha:PE X a ta)(hb:PE X (.BoolOp .And (b::rest) pos) tb):PE X (.BoolOp .And (a::b::rest) pos) (lD ta tb):=by
 intro pins s σ H Q I h
 refine BoolOp_and (thn (ha pins s σ H _ I h) λv s1 ⟨x,H1,I1,r1,q1⟩=>?_)
 obtain⟨c,rfl,q1⟩:=q1
 cases r1
 refine vW ?_
 cases c with
 |true=>exact hb pins s1 σ H1 Q I1 q1
 |false=>exact⟨.bl false,H1,I1,rfl,q1⟩
theorem fe(ha:PE X a ta):PE X (.UnaryOp .Not a pos) (l7 ta):=by
 intro pins s σ H Q I h
 refine UnaryOp_ (thn (ha pins s σ H _ I h) λv s1 ⟨x,H1,I1,r1,q1⟩=>?_)
 obtain⟨c,rfl,q1⟩:=q1
 cases r1
 exact not_of (vW ⟨.bl (!c),H1,I1,rfl,q1⟩)
noncomputable def tIf(t:TT)(ta tb:TE):TE:=λσ H Q=>t σ H λc H1=>if c=true then ta σ H1 Q else tb σ H1 Q
theorem W2{c:sk}(hc:PT X c tA)(ha:PE X a ta)(hb:PE X b tb):PE X (.IfExp c a b pos) (tIf tA ta tb):=by
 intro pins s σ H Q I h
 refine wpAny_IfExp (thn (hc pins s σ H _ I h) λd s1 ⟨H1,I1,q1⟩=>?_)
 cases d with
 |true=>exact ha pins s1 σ H1 Q I1 q1
 |false=>exact hb pins s1 σ H1 Q I1 q1
end
end L2
namespace L2
open PySem PySem.Spec PyProof.Rows
def SqL(K:Wp)(H:Hp)(a:sF)(xs:Gc V):Prop:=
 Rd H a (.lst xs)∨
  ∃(o:Obj) (its:uI W1) (n:Nat),K.lookup a=Fk o/\o.cls=.type "list" /\o.dict=none/\o.data=.seq its n/\its.size<=sizeLine/\Vals xs its.toList
def SqT(K:Wp)(H:Hp)(a:sF)(xs:Gc V):Prop:=
 Rd H a (.tup xs)∨
  ∃(o:Obj) (its:uI W1) (n:Nat),K.lookup a=Fk o/\o.cls=.type "tuple" /\o.data=.seq its n/\its.size<=sizeLine/\Vals xs its.toList
noncomputable def pb:W1->sD V
 | .none=>Fk .non
 | .bool b=>Fk (.bl b)
 | .int i _=>Fk (.int i)
 | .str x _=>Fk (.str x)
 | .bytes b _=>Fk (.byt b)
 | .float b _=>Fk (.flt b)
 | .ref a=>Fk (.ref a)
 | .type n=>Fk (.ty n)
 |_=>none
theorem RelV.abs{x:V}{u:W1}(r:RelV x u):pb u=Fk x:=by
 cases x with
 |non=>cases r;rfl
 |bl _=>cases r;rfl
 |int _=>obtain⟨t,rfl⟩:=r;rfl
 |str _=>obtain⟨t,rfl⟩:=r;rfl
 |byt _=>obtain⟨t,rfl⟩:=r;rfl
 |flt _=>obtain⟨t,rfl⟩:=r;rfl
 |ref _=>cases r;rfl
 |ty _=>cases r;rfl
theorem RelV.inj{x y:V}{u:W1}(r:RelV x u)(q:RelV y u):x=y:=uq (r.abs.symm.trans q.abs)
theorem Vals.inj:∀{xs ys:Gc V} {us:Gc W1},Vals xs us->Vals ys us->xs=ys
 |_,_,_,.nil,.nil=>rfl
 |_,_,_,.cons r t,.cons r' t'=>by rw[r.inj r',Vals.inj t t']
section
variable{X:Cx}{pins:Gc (sF×Obj)}{σ:St}{H:Hp}{s:sE}{a:sF}{xs ys:Gc V}
theorem SqL.of{K:Wp}(h:H a=Fk (.lst xs)):SqL K H a xs:=.inl (.inl h)
theorem SqT.of{K:Wp}(h:H a=Fk (.tup xs)):SqT K H a xs:=.inl (.inl h)
theorem Inv.list(I:Inv X pins σ H s)(h:SqL X.K H a xs):∃its:Gc W1,Vals xs its/\PlainL s.heap a its.toArray/\xs.length<=sizeLine:=by
 rcases h with h|⟨o,its,n,hk,hc,hd,hs,hz,r⟩
 .obtain⟨z,its,n,r,e⟩:=h.ok I.hok
  exact⟨its,r,⟨_,n,e,rfl,rfl,rfl⟩,z⟩
 .refine⟨its.toList,r,⟨o,n,I.kIn a o hk,hc,hd,by simpa using hs⟩,?_⟩
  have e:=r.length
  simp only[yZ]at e
  lia
theorem Inv.tuple(I:Inv X pins σ H s)(h:SqT X.K H a xs):∃its:Gc W1,Vals xs its/\zS s.heap a its.toArray/\xs.length<=sizeLine:=by
 rcases h with h|⟨o,its,n,hk,hc,hs,hz,r⟩
 .obtain⟨z,its,r,p⟩:=h.ok I.hok
  exact⟨its,r,p,z⟩
 .refine⟨its.toList,r,⟨o,I.kIn a o hk,hc,n,by simpa using hs⟩,?_⟩
  have e:=r.length
  simp only[yZ]at e
  lia
theorem Inv.Qd(I:Inv X pins σ H s)(h:SqL X.K H a xs)(h':SqL X.K H a ys):xs=ys:=by
 obtain⟨its,r,⟨o,n,e,_,_,d⟩,_⟩:=I.list h
 obtain⟨its',r',⟨o',n',e',_,_,d'⟩,_⟩:=I.list h'
 rw[e]at e';cases e'
 rw[d]at d'
 injection d' with d1 _
 have:its=its':=by simpa using congrArg Array.toList d1
 subst this
 exact r.inj r'
theorem Inv.OM(I:Inv X pins σ H s)(h:SqT X.K H a xs)(h':SqT X.K H a ys):xs=ys:=by
 obtain⟨its,r,⟨o,e,_,n,d⟩,_⟩:=I.tuple h
 obtain⟨its',r',⟨o',e',_,n',d'⟩,_⟩:=I.tuple h'
 rw[e]at e';cases e'
 rw[d]at d'
 injection d' with d1 _
 have:its=its':=by simpa using congrArg Array.toList d1
 subst this
 exact r.inj r'
end
abbrev Cx.Sw(X:Cx)(E:W1->sE->Prop):Cx:={X with xe:=E}
abbrev Cx.nox(X:Cx):Cx:=X.Sw λ_ _=>vS
theorem Cx.Ok.Sw{X:Cx}(ok:X.Ok)(E:W1->sE->Prop):(X.Sw E).Ok:=
 ⟨ok.mod,ok.kind,ok.glob,ok.blt,ok.above,ok.inj,ok.has,ok.cab,ok.hd,ok.frames,ok.stk,ok.exf,ok.bs,ok.bsz,ok.Yn,ok.cJ,ok.QM,ok.frf⟩
theorem Cx.Ok.KP{X:Cx}{E:W1->sE->Prop}(ok:(X.Sw E).Ok):X.Ok:=
 ⟨ok.mod,ok.kind,ok.glob,ok.blt,ok.above,ok.inj,ok.has,ok.cab,ok.hd,ok.frames,ok.stk,ok.exf,ok.bs,ok.bsz,ok.Yn,ok.cJ,ok.QM,ok.frf⟩
section
variable{X:Cx}{pins:Gc (sF×Obj)}{σ:St}{H:Hp}{s:sE}{E:W1->sE->Prop}
theorem Inv.Sw(I:Inv X pins σ H s)(E:W1->sE->Prop):Inv (X.Sw E) pins σ H s:=⟨I.ok.Sw E,I.os,I.bare,I.base,I.loc,I.cell,I.free,I.Iq,I.pin,I.hok,I.len⟩
theorem Inv.KP(I:Inv (X.Sw E) pins σ H s):Inv X pins σ H s:=⟨I.ok.KP,I.os,I.bare,I.base,I.loc,I.cell,I.free,I.Iq,I.pin,I.hok,I.len⟩
theorem SP.KP{D:Ends}{f:Flow}{s':sE}(h:SP (X.Sw E) pins D f s'):SP X pins D f s':=by
 cases f with
 |next=>obtain⟨σ',H',I,q⟩:=h;exact⟨σ',H',I.KP,q⟩
 |brk=>obtain⟨σ',H',I,q⟩:=h;exact⟨σ',H',I.KP,q⟩
 |cont=>obtain⟨σ',H',I,q⟩:=h;exact⟨σ',H',I.KP,q⟩
 |ret u=>obtain⟨v,σ',H',I,r,q⟩:=h;exact⟨v,σ',H',I.KP,r,q⟩
theorem PSs.nox{st:Gc tP}{t:TS}(h:PSs X.nox st t):PSs X st t:=λpins s σ H D I hw=>
 uh (h pins s σ H D (I.Sw _) hw) (λ_ _ q=>q.KP) λ_ _ z=>uW z
end
section
variable{X:Cx}{st:tP}{rest:Gc tP}{t u:TS}{e:sk}{te:TE}{pos:Pos}
noncomputable def mF:TS:=λD σ H=>D.nx σ H
noncomputable def mX(t u:TS):TS:=λD σ H=>t {D with nx:=u D} σ H
theorem aE:PSs X [] mF:=λ_ _ σ H _ I h=>xN ⟨σ,H,I,h⟩
theorem NZ(h1:PS X st t)(h2:PSs X rest u):PSs X (st::rest) (mX t u):=by
 intro pins s σ H D I h
 refine wG (thn (h1 pins s σ H {D with nx:=u D} I h) λf s1 q=>?_)
 cases f with
 |next=>
  obtain⟨σ',H',I',q⟩:=q
  exact h2 pins s1 σ' H' D I' q
 |ret v=>exact q
 |brk=>exact q
 |cont=>exact q
theorem Mt(h1:PS X st t):PSs X [st] t:=by
 intro pins s σ H D I h
 refine wG (thn (h1 pins s σ H D I h) λf s1 q=>?_)
 cases f with
 |next=>exact xN q
 |ret v=>exact q
 |brk=>exact q
 |cont=>exact q
theorem Inv.quiet{pins:Gc (sF×Obj)}{σ:St}{H:Hp}{s:sE}(I:Inv X pins σ H s):interactive X.env=false:=by simp[interactive,I.ok.kind]
noncomputable def aG(te:TE):TS:=λD σ H=>te σ H λ_ H1=>D.nx σ H1
theorem Ph(he:PE X e te)(hs:swapsWith e none pos.line X.env=pure false:=by rfl):PS X (.Expr e pos) (aG te):=by
 intro pins s σ H D I h
 exact z0 (thn (he pins s σ H _ I h) λv s1 ⟨x,H1,I1,r1,q1⟩=>⟨σ,H1,I1,q1⟩) I.quiet hs
noncomputable def rD(te:TE):TS:=λD σ H=>te σ H D.rt
theorem fM(he:PE X e te):PS X (.Return (Fk e) pos) (rD te):=by
 intro pins s σ H D I h
 exact wpAny_Return_some (thn (he pins s σ H _ I h) λv s1 ⟨x,H1,I1,r1,q1⟩=>⟨x,σ,H1,I1,r1,q1⟩)
noncomputable def qP(c:TT)(t u:TS):TS:=λD σ H=>c σ H λb H1=>if b=true then t D σ H1 else u D σ H1
theorem lL{c:sk}{a b:Gc tP}{tc:TT}(hc:PT X c tc)(ha:PSs X a t)(hb:PSs X b u):PS X (.If c a b pos) (qP tc t u):=by
 intro pins s σ H D I h
 refine wpAny_If (thn (hc pins s σ H _ I h) λd s1 ⟨H1,I1,q1⟩=>?_)
 cases d with
 |true=>exact ha pins s1 σ H1 D I1 q1
 |false=>exact hb pins s1 σ H1 D I1 q1
end
abbrev TG:=V->St->Hp->(St->Hp->Prop)->Prop
abbrev TGs:=Gc V->St->Hp->(St->Hp->Prop)->Prop
def PG(X:Cx)(target:sk)(t:TG):Prop:=
 ∀(pins:Gc (sF×Obj)) (s:sE) (σ:St) (H:Hp) (v:V) (u:W1) (Q:St->Hp->Prop),Inv X pins σ H s->RelV v u->t v σ H Q->
  wpAny (model X.prog X.w) X.A (assign target X.env u) (λ_ s'=>∃σ' H',Inv X pins σ' H' s'/\Q σ' H') X.xe s
def PGs(X:Cx)(ts:Gc sk)(t:TGs):Prop:=
 ∀(pins:Gc (sF×Obj)) (s:sE) (σ:St) (H:Hp) (vs:Gc V) (us:Gc W1) (Q:St->Hp->Prop),Inv X pins σ H s->Vals vs us->t vs σ H Q->
  wpAny (model X.prog X.w) X.A (assignInOrder ((assignEach ts X.env).map (·.2)) us) (λ_ s'=>∃σ' H',Inv X pins σ' H' s'/\Q σ' H') X.xe s
abbrev lu:=V->V->V->Hp->(Hp->Prop)->Prop
def pR(X:Cx)(t:lu):Prop:=
 ∀(pins:Gc (sF×Obj)) (s:sE) (σ:St) (H:Hp) (o i v:V) (ov iv u:W1) (Q:Hp->Prop),Inv X pins σ H s->RelV o ov->RelV i iv->RelV v u->t o i v H Q->
  wpAny (model X.prog X.w) X.A (setItem ov iv u) (λ_ s'=>∃H',Inv X pins σ H' s'/\Q H') X.xe s
section
variable{X:Cx}{pos:Pos}
noncomputable def bu(i:Nat):TG:=λv σ H Q=>Q (σ.set i (Fk v)) H
theorem bI{i:Nat}{x:Str}(hN:X.N.Nodup)(hi:X.N[i]?=Fk x)(hx:Loc X.env.scope x)(hf:X.fn x=true\/X.env.scope.names.lookup x=Fk .local:=by first|exact .inl rfl|exact .inr rfl|assumption):PG X (.Name x pos) (bu i):=by
 intro pins s σ H v u Q I r h
 exact wpAny_assign_Name (Kn I hN hi hx r (λs' I'=>⟨_,H,I',h⟩) hf)
noncomputable def nq:TGs:=λvs σ H Q=>vs=[]/\Q σ H
noncomputable def iM(t:TG)(u:TGs):TGs:=λvs σ H Q=>∃v r,vs=v::r/\t v σ H λσ' H'=>u r σ' H' Q
theorem Zz:PGs X [] nq:=by
 intro pins s σ H vs us Q I r h
 obtain⟨e,h⟩:=h
 subst e
 cases r
 exact assignInOrder_nil ⟨σ,H,I,h⟩
theorem W6{e:sk}{es:Gc sk}{t:TG}{u:TGs}(h1:PG X e t)(h2:PGs X es u)(hs:(assignEach (e::es) X.env).map (·.2)=assign e X.env::(assignEach es X.env).map (·.2):=by rfl):PGs X (e::es) (iM t u):=by
 intro pins s σ H vs us Q I r h
 obtain⟨v,vr,e1,h⟩:=h
 subst e1
 cases r with
 |cons r rr=>
  rw[hs]
  refine yi (thn (h1 pins s σ H _ _ _ I r h) λ_ s1 ⟨σ1,H1,I1,q1⟩=>?_)
  exact h2 pins s1 σ1 H1 _ _ Q I1 rr q1
noncomputable def qN(K:Wp)(n:Nat)(t:TGs):TG:=λv σ H Q=>∃a xs,v=.ref a/\SqT K H a xs/\xs.length=n/\t xs σ H Q
theorem iF{es:Gc sk}{k:Nat}{t:TGs}{n:Nat}(hc:X.calm=true)(h:PGs X es t)(hn:(assignEach es X.env).length=n:=by rfl)(hst:(assignEach es X.env).findIdx? (·.1)=none:=by rfl):PG X (.Tuple es k pos) (qN X.K n t):=by
 intro pins s σ H v u Q I r hw
 obtain⟨a,xs,e1,hq,hl,hw⟩:=hw
 subst e1
 cases r
 obtain⟨its,rv,ht,hz⟩:=I.tuple hq
 refine assign_Tuple_tuple (I.ok.hd hc) ht (by simp[hn,<-hl,rv.length]) hst λh' hx=>?_
 have I1:Inv X pins σ H {s with heap:=h'}:=I.kept (t':=s.toks) λb o e=>hx b o (tE (sW e)) e
 exact h pins _ σ H xs _ Q I1 (by simpa using rv) hw
noncomputable def rE(to ti:TE)(t:lu):TG:=λv σ H Q=>to σ H λo H1=>ti σ H1 λi H2=>t o i v H2 λH3=>Q σ H3
theorem gY {o i : sk} {to ti : TE} {t : lu} (ho : PE X o to) (hi : PE X i ti) (hs : pR X t) (ha : ∀ v, assign (.Subscript o i pos) X.env v = (do
      let ov ← holding [v] (eval o X.env)
      let iv ← holding [v, ov] (eval i X.env)
      standAt pos
      holding [v, ov, iv] (setItem ov iv v)
      release [v, ov, iv] []) := by intro _; rfl) : PG X (.Subscript o i pos) (rE to ti t) := by
  intro pins s σ H v u Q I r h
  rw [ha]
  refine rz (ua (thn (ho pins s σ H _ I h) fun ov s1 ⟨x, H1, I1, r1, q1⟩ => ?_))
  refine rz (ua (thn (hi pins s1 σ H1 _ I1 q1) fun iv s2 ⟨y, H2, I2, r2, q2⟩ => ?_))
  refine rz (vg (rz (ua (thn (hs pins s2 σ H2 x y v ov iv u _ I2 r1 r2 r q2) fun _ s3 ⟨H3, I3, q3⟩ => ?_))))
  exact wpAny_release ⟨σ, H3, I3, q3⟩
noncomputable def my(te:TE)(g:TG):TS:=λD σ H=>te σ H λx H1=>g x σ H1 D.nx
theorem Y0{tg e:sk}{te:TE}{g:TG}(he:PE X e te)(hg:PG X tg g)(hs:swapsWithSole [tg] e pos.line X.env=pure false:=by rfl)(hw:swappedStores [tg] e X.env=pure none:=by rfl)(h1:(assignEach [tg] X.env).map (·.2)=[assign tg X.env]:=by rfl):PS X (.Assign [tg] e pos) (my te g):=by
 intro pins s σ H D I h
 refine wpAny_Assign_stores (thn (he pins s σ H _ I h) λv s1 ⟨x,H1,I1,r1,q1⟩=>?_) hs hw
 rw[h1]
 exact thn (hg pins s1 σ H1 x v _ I1 r1 q1) λ_ s2 q=>q
theorem iJ{i:Nat}{x:Str}{e:sk}{te:TE}{pos':Pos}(hN:X.N.Nodup)(hi:X.N[i]?=Fk x)(hx:Loc X.env.scope x)(he:PE X e te)(hs:swapsWith e (Fk (.Name x pos')) pos.line X.env=pure false:=by rfl)(hf:X.fn x=true\/X.env.scope.names.lookup x=Fk .local:=by first|exact .inl rfl|exact .inr rfl|assumption):PS X (.Assign [.Name x pos'] e pos) (my te (bu i)):=by
 intro pins s σ H D I h
 refine wpAny_Assign_Name (thn (he pins s σ H _ I h) λv s1 ⟨y,H1,I1,r1,q1⟩=>?_) hs
 exact Kn I1 hN hi hx r1 (λs2 I2=>⟨_,H1,I2,q1⟩) hf
noncomputable def rB(i j:Nat)(ta:TA):TS:=λD σ H=>ta σ H λvs H1=>∃v w,vs=[v,w]/\D.nx ((σ.set i (Fk v)).set j (Fk w)) H1
theorem dz{i j:Nat}{x y:Str}{a b:sk}{ta:TA}{px py pt:Pos}{kt k2 pt2}(hc:X.calm=true)(hN:X.N.Nodup)(hi:X.N[i]?=Fk x)(hj:X.N[j]?=Fk y)(hij:i≠j)(hx:X.env.scope.names.lookup x=Fk .local)(hy:X.env.scope.names.lookup y=Fk .local)(ha:PA X [a,b] ta)(hw:swappedStores [.Tuple [.Name x px,.Name y py] kt pt] (.Tuple [a,b] k2 pt2) X.env=pure (Fk [x,y]))(hs:swapsWithSole [.Tuple [.Name x px,.Name y py] kt pt] (.Tuple [a,b] k2 pt2) pos.line X.env=pure false:=by rfl):PS X (.Assign [.Tuple [.Name x px,.Name y py] kt pt] (.Tuple [a,b] k2 pt2) pos) (rB i j ta):=by
 intro pins s σ H D I h
 rw[exec_Assign_arm]
 refine rz (vg ?_)
 rw[hs]
 refine rz (sR ?_)
 rw[tN (by decide)]
 refine rz (Tuple_ (thn (ha _ pins s σ H _ I h) λus s1 ⟨vs,H1,I1,r1,q1⟩=>?_))
 obtain⟨v,w,e1,q1⟩:=q1
 subst e1
 obtain⟨u1,u2,rfl,rv,rw'⟩:∃u1 u2,us=[u1,u2]/\RelV v u1/\RelV w u2:=by
  cases r1 with
  |cons p q=>
   cases q with
   |cons p' q'=>
    cases q'
    exact⟨_,_,rfl,p,p'⟩
 refine vF ?_ (by show 2<=sizeLine;decide)
 have I2:Inv X pins σ H1 {s1 with heap:=s1.heap.push {cls:=.type "tuple",data:=.seq [u1,u2].toArray}}:=I1.kept (t':=s1.toks) λb o e=>sC _ e
 rw[hw]
 refine rz (sR ?_)
 show wpAny (model X.prog X.w) X.A (do rule "assign.swapped-stores"; let items<-unpackItems (.ref s1.heap.objs.size) 2 none;assignInOrder [λv=>bindName X.env y v,λv=>bindName X.env x v] items.reverse;pure Flow.next) _ _ _
 refine rz (yj (rz (unpackItems_tuple (items:= #[u1,u2]) (I.ok.hd hc) (xE s1.heap _) λh' hx'=>?_)))
 have I3:=I2.kept (h':=h') (t':=s1.toks) λb o e=>hx' b o (tE (sW e)) e
 show wpAny _ _ (assignInOrder [λv=>bindName X.env y v,λv=>bindName X.env x v] [u2,u1] >>= λ_=>pure Flow.next) _ _ _
 refine rz (yi (wpAny_bindName (Kn I3 hN hj (.inl hy) rw' (λs2 I4=>?_) (.inr hy))))
 refine yi (wpAny_bindName (Kn I4 hN hi (.inl hx) rv (λs3 I5=>assignInOrder_nil (sR ?_)) (.inr hx)))
 rw[List.set_comm _ _ (uO hij)]at I5
 exact⟨_,H1,I5,q1⟩
end
section
variable{X:Cx}{pos:Pos}
noncomputable def eX(c:TT)(tb:TS):TS:=λD σ H=>∃W:Nat->St->Hp->Prop,(∃m,W m σ H)/\∀m σ H,W m σ H->
 c σ H λb H1=>if b=true then∃N:St->Hp->Prop,(∀σ' H',N σ' H'->∃m',m'<m/\W m' σ' H')/\tb {D with nx:=N,ct:=N,bk:=D.nx} σ H1 else D.nx σ H1
theorem YT{c:sk}{body:Gc tP}{tc:TT}{tb:TS}(hp:PassesOwn (model X.prog X.w) X.A X.env X.xe)(hc:PT X c tc)(hb:PSs X body tb):PS X (.While c body [] pos) (eX tc tb):=by
 intro pins s σ H D I h
 obtain⟨W,⟨m0,w0⟩,turn⟩:=h
 refine wpAny_While (codeAny_whileLoop (λn s'=>∃σ' H',Inv X pins σ' H' s'/\W n σ' H') ?_ m0 ⟨σ,H,I,w0⟩)
 rintro n s1 ⟨σ1,H1,I1,w1⟩
 refine vx hp (thn (hc pins s1 σ1 H1 _ I1 (turn n σ1 H1 w1)) λb s2 ⟨H2,I2,q2⟩=>?_)
 cases b with
 |true=>
  obtain⟨N,hN,q2⟩:=q2
  rw[tK rfl]
  refine vx hp (thn (hb pins s2 σ1 H2 _ I2 q2) λf s3 q3=>?_)
  cases f with
  |next=>
   obtain⟨σ3,H3,I3,n3⟩:=q3
   obtain⟨m',hm,w3⟩:=hN σ3 H3 n3
   exact⟨m',hm,σ3,H3,I3,w3⟩
  |cont=>
   obtain⟨σ3,H3,I3,n3⟩:=q3
   obtain⟨m',hm,w3⟩:=hN σ3 H3 n3
   exact⟨m',hm,σ3,H3,I3,w3⟩
  |brk=>exact q3
  |ret v=>exact q3
 |false=>
  rw[tN uE]
  exact xN ⟨σ1,H2,I2,q2⟩
end
structure It where
 go:Nat->Hp->Prop
 yld:Nat->Hp->V->Hp->Prop
 stop:Nat->Hp->Prop
def QB(X:Cx)(pins:Gc (sF×Obj))(H:Hp)(b:sF):Prop:=
 H b=none/\b≠X.env.locals/\b∉X.fs/\(b∈X.ex\/X.s₀.heap.objs.size<=b)/\(∀x c,X.env.cells.lookup x=Fk c->c≠b)/\∀p∈X.pn++pins,p.1≠b
theorem Inv.ZY{X:Cx}{pins:Gc (sF×Obj)}{σ:St}{H H':Hp}{s:sE}{b:sF}(I:Inv X pins σ H s)(hb:s.heap.objs.size<=b)(hn:H' b=none):QB X pins H' b:=by
 refine⟨hn,wM (sI I.lt hb),I.qj hb,.inr (sL I.sz hb),λx c e z=>?_,λp hp z=>?_⟩
 .obtain⟨v,q⟩:=I.cell x c e
  exact absurd (sI q.lt (by rw[z];exact hb)) (uj _)
 .exact absurd (sI (sW (I.pin p hp).1) (by rw[z];exact hb)) (uj _)
structure Turn(P:sj)(w:tu)(K:Wp)(tg:sk)(J:It)(fp:Gc sF)(it:sF)(tn:Nat->tT->Prop):Prop where
 mem:it∈fp
 obj:∀i h,tn i h->∀b∈fp,∃o,h.get? b=Fk o/\∀v,o.data≠.cell v
 keep:∀i h h',tn i h->(∀b∈fp,∀o,h.get? b=Fk o->h'.get? b=Fk o)->tn i h'
 item:∀(X:Cx),X.prog=P->X.w=w->X.K=K->X.calm=true->∀(i:Nat) (pins:Gc (sF×Obj)) (s:sE) (σ:St) (H:Hp) (E:W1->sE->Prop),Inv X pins σ H s->(∀b∈fp,QB X pins H b)->tn i s.heap->J.go i H->
  wpAny (model P w) X.A (pyNext (.ref it)) (λr s1=>∃u,r=Fk u/\
   wpAny (model P w) X.A (letOwnedTupleGo tg (.ref it) u) (λ_ s2=>∃x H',Inv X pins σ H' s2/\RelV x u/\J.yld i H x H'/\tn (i+1) s2.heap/\∀b∈fp,H' b=none) E s1) E s
 done:∀(X:Cx),X.prog=P->X.w=w->X.K=K->X.calm=true->∀(i:Nat) (pins:Gc (sF×Obj)) (s:sE) (σ:St) (H:Hp) (E:W1->sE->Prop),Inv X pins σ H s->(∀b∈fp,QB X pins H b)->tn i s.heap->J.stop i H->
  wpAny (model P w) X.A (pyNext (.ref it)) (λr s1=>r=none/\Inv X pins σ H s1) E s
 self:∀(A:tM) (i:Nat) (s:sE) (Q:W1->sE->Prop) (E:W1->sE->Prop),tn i s.heap->Q (.ref it) s->wpAny (model P w) A (pyIter (.ref it)) Q E s
abbrev TI:=St->Hp->(It->Hp->Prop)->Prop
def PIE(X:Cx)(pins:Gc (sF×Obj))(σ:St)(tg:sk)(R:It->Hp->Prop)(itv:W1)(s2:sE):Prop:=
 ∃(it:sF) (fp:Gc sF) (tn:Nat->tT->Prop) (J:It) (H':Hp),itv=.ref it/\Inv X pins σ H' s2/\Turn X.prog X.w X.K tg J fp it tn/\tn 0 s2.heap/\(∀b∈fp,QB X pins H' b)/\R J H'
def PI(X:Cx)(tg iter:sk)(wi:TI):Prop:=
 ∀(pins:Gc (sF×Obj)) (s:sE) (σ:St) (H:Hp) (R:It->Hp->Prop),Inv X pins σ H s->wi σ H R->
  wpAny (model X.prog X.w) X.A (eval iter X.env) (λv s1=>wpAny (model X.prog X.w) X.A (pyIter v) (PIE X pins σ tg R) X.xe s1) X.xe s
theorem ao{M:AAd}{A:tM}{E:W1->sE->Prop}{s:sE}{tg:sk}{it:sF}{u:W1}{o:Obj}{n:ug}{vs:uI W1}{Q:Unit->sE->Prop}(ho:s.heap.get? it=Fk o)(hc:o.cls=.type n)(hd:o.data=.fields vs)(hn:["enumerate","zip","dict_itemiterator","dict_reverseitemiterator","odict_iterator","itertools.zip_longest","itertools.pairwise"].contains n=false)(hQ:Q () s):wpAny M A (letOwnedTupleGo tg (.ref it) u) Q E s:=by
 unfold letOwnedTupleGo
 cases tg<;>first
  |exact sR hQ
  |(cases u<;>first
     |exact sR hQ
     |(refine rz (wpAny_load ho ?_)
       rw[hc,hd]
       show wpAny M A (if(["enumerate","zip","dict_itemiterator","dict_reverseitemiterator","odict_iterator","itertools.zip_longest","itertools.pairwise"].contains n && vs[0]?==Fk (rawInt _))=true then _ else _) Q E s
       rw[tN (by intro h;rw[hn,Bool.false_and]at h;cases h)]
       exact sR hQ))
noncomputable def Itl(K:Wp)(a:sF):It:=
 ⟨λi H=>∃xs x,SqL K H a xs/\xs[i]?=Fk x,λi H x H'=>H'=H/\∀xs,SqL K H a xs->xs[i]?=Fk x,λi H=>∃xs,SqL K H a xs/\xs.length<=i⟩
noncomputable def Itt(K:Wp)(a:sF):It:=
 ⟨λi H=>∃xs x,SqT K H a xs/\xs[i]?=Fk x,λi H x H'=>H'=H/\∀xs,SqT K H a xs->xs[i]?=Fk x,λi H=>∃xs,SqT K H a xs/\xs.length<=i⟩
noncomputable def Itr(lo:Int)(n:Nat):It:=⟨λi _=>i<n,λi H x H'=>H'=H/\x=.int (lo+i),λi _=>n<=i⟩
theorem Vl{P:sj}{w:tu}{K:Wp}{tg:sk}(a it:sF):Turn P w K tg (Itl K a) [it] it (λi h=>h.IsListIter it a i) where
 mem:=by simp
 obj:=λi h st b hb=>by
  have e:b=it:=by simpa using hb
  subst e
  obtain⟨o,e,c,d⟩:=st
  exact⟨o,e,λv z=>by rw[d]at z;cases z⟩
 keep:=λi h h' st k=>st.at λo e=>k it (by simp) o e
 item:=by
  intro X hP hw hK hc i pins s σ H E I hf st hg
  subst hP hw hK
  obtain⟨xs,x,hq,hx⟩:=hg
  obtain⟨its,rv,p,hz⟩:=I.list hq
  obtain⟨u,hu,ru⟩:=rv.get hx
  obtain⟨f0,f1,f2,f3,f4,f5⟩:=hf it (by simp)
  refine xZ st p.isList (x:=u) (by simpa using hu) λh' st' sb=>?_
  have I1:Inv X pins σ H {s with heap:=h'}:=I.turned (t':=s.toks) (λb o hb e=>(sb.2 b hb).trans e) f0 f1 f3 f4 f5
  obtain⟨o,e,c,d⟩:=id st'
  exact⟨u,rfl,ao (s:={s with heap:=h'}) e c d (by decide) ⟨x,H,I1,ru,⟨rfl,λys hy=>by rw[I.Qd hy hq];exact hx⟩,st',λb hb=>(hf b hb).1⟩⟩
 done:=by
  intro X hP hw hK hc i pins s σ H E I hf st hg
  subst hP hw hK
  obtain⟨xs,hq,hx⟩:=hg
  obtain⟨its,rv,p,hz⟩:=I.list hq
  obtain⟨f0,f1,f2,f3,f4,f5⟩:=hf it (by simp)
  have hl:=rv.length
  exact x9 (I.ok.hd hc) st p.isList (by simp;lia) λh' eb=>⟨rfl,I.turned (t':=s.toks) (λb o hb e=>eb b o hb e) f0 f1 f3 f4 f5⟩
 self:=λ_ _ _ _ _ st h=>zt st h
theorem SH{P:sj}{w:tu}{K:Wp}{tg:sk}(a it:sF):Turn P w K tg (Itt K a) [it] it (λi h=>h.IsTupleIter it a i) where
 mem:=by simp
 obj:=λi h st b hb=>by
  have e:b=it:=by simpa using hb
  subst e
  obtain⟨o,e,c,d⟩:=st
  exact⟨o,e,λv z=>by rw[d]at z;cases z⟩
 keep:=λi h h' st k=>st.at λo e=>k it (by simp) o e
 item:=by
  intro X hP hw hK hc i pins s σ H E I hf st hg
  subst hP hw hK
  obtain⟨xs,x,hq,hx⟩:=hg
  obtain⟨its,rv,p,hz⟩:=I.tuple hq
  obtain⟨u,hu,ru⟩:=rv.get hx
  obtain⟨f0,f1,f2,f3,f4,f5⟩:=hf it (by simp)
  refine wpAny_pyNext_tuple_item st (show s.heap.IsTuple a its.toArray from p) (x:=u) (by simpa using hu) λh' st' sb=>?_
  have I1:Inv X pins σ H {s with heap:=h'}:=I.turned (t':=s.toks) (λb o hb e=>(sb.2 b hb).trans e) f0 f1 f3 f4 f5
  obtain⟨o,e,c,d⟩:=id st'
  exact⟨u,rfl,ao (s:={s with heap:=h'}) e c d (by decide) ⟨x,H,I1,ru,⟨rfl,λys hy=>by rw[I.OM hy hq];exact hx⟩,st',λb hb=>(hf b hb).1⟩⟩
 done:=by
  intro X hP hw hK hc i pins s σ H E I hf st hg
  subst hP hw hK
  obtain⟨xs,hq,hx⟩:=hg
  obtain⟨its,rv,p,hz⟩:=I.tuple hq
  obtain⟨f0,f1,f2,f3,f4,f5⟩:=hf it (by simp)
  have hl:=rv.length
  exact wpAny_pyNext_tuple_end (I.ok.hd hc) st (show s.heap.IsTuple a its.toArray from p) (by simp;lia) λh' eb=>⟨rfl,I.turned (t':=s.toks) (λb o hb e=>eb b o hb e) f0 f1 f3 f4 f5⟩
 self:=λ_ _ _ _ _ st h=>wpAny_pyIter_tupleiter st h
theorem R8{P:sj}{w:tu}{K:Wp}{tg:sk}(it:sF)(lo:Int)(n:Nat):Turn P w K tg (Itr lo n) [it] it (λi h=>IsRangeIter h it (lo+(i:Nat)*1) ((n:Int)-(i:Nat)) 1) where
 mem:=by simp
 obj:=λi h st b hb=>by
  have e:b=it:=by simpa using hb
  subst e
  exact⟨_,st,λv z=>by
   have z':Data.fields _=Data.cell v:=z
   cases z'⟩
 keep:=λi h h' st k=>k it (by simp) _ st
 item:=by
  intro X hP hw hK hc i pins s σ H E I hf st hg
  subst hP hw hK
  obtain⟨f0,f1,f2,f3,f4,f5⟩:=hf it (by simp)
  have W:=Walks.range (prog:=X.prog) (w:=X.w) (I.ok.hd hc) it lo 1 n
  refine W.item i s _ _ hg st λv h' tk hv st' kk=>?_
  obtain⟨t,rfl⟩:=hv
  have I1:Inv X pins σ H {s with heap:=h',toks:=tk}:=I.turned (λb o hb e=>kk b o (by simpa using hb) e) f0 f1 f3 f4 f5
  refine⟨_,rfl,ao (s:={s with heap:=h',toks:=tk}) (n:="range_iterator") st' rfl rfl (by decide) ⟨.int (lo+i),H,I1,⟨t,?_⟩,⟨rfl,rfl⟩,st',λb hb=>(hf b hb).1⟩⟩
  rw[Int.mul_one]
 done:=by
  intro X hP hw hK hc i pins s σ H E I hf st hg
  subst hP hw hK
  obtain⟨f0,f1,f2,f3,f4,f5⟩:=hf it (by simp)
  exact wpAny_pyNext_range_end (I.ok.hd hc) st (by have:n<=i:=hg;lia) λh' eb=>⟨rfl,I.turned (t':=s.toks) (λb o hb e=>eb b o hb e) f0 f1 f3 f4 f5⟩
 self:=λ_ _ _ _ _ st h=>wpAny_pyIter_rangeiter st h
end L2
namespace L2
open PySem PySem.Spec PyProof.Rows
section
variable{X:Cx}{tg:sk}
theorem YN{pins:Gc (sF×Obj)}{σ:St}{H:Hp}{s:sE}{R:It->Hp->Prop}{E:W1->sE->Prop}{lo hi:Int}{t u v:Tok}{tk:Nat}(I:Inv X pins σ H s)(h1: -(2^62)<=lo)(h2:lo<2^62)(h3: -(2^62)<=hi)(h4:hi<2^62)(q:R (Itr lo (hi-lo).toNat) H):wpAny (model X.prog X.w) X.A (pyIter (.ref s.heap.objs.size)) (PIE X pins σ tg R) E {s with heap:=s.heap.push {cls:=.type "range",data:=.fields #[.int lo t,.int hi u,.int 1 v]},toks:=tk}:=by
 refine wpAny_pyIter_range (IsRange.new ..) (small_one h1 h2 h3 h4) ?_
 have I1:Inv X pins σ H {s with heap:=s.heap.push {cls:=.type "range",data:=.fields #[.int lo t,.int hi u,.int 1 v]},toks:=tk}:=I.kept λb o e=>sC _ e
 refine⟨(s.heap.push {cls:=.type "range",data:=.fields #[.int lo t,.int hi u,.int 1 v]}).objs.size,[(s.heap.push {cls:=.type "range",data:=.fields #[.int lo t,.int hi u,.int 1 v]}).objs.size],_,_,H,rfl,
  I1.kept (t':=tk) λb o e=>sC _ e,R8 _ lo (hi-lo).toNat,?_,λb hb=>?_,q⟩
 .have e1:lo+((0:Nat):Int)*1=lo:=by simp
  have e2:(((hi-lo).toNat:Nat):Int)-((0:Nat):Int)=Builtin.Range.rangeSize lo hi 1:=by rw[rangeSize_one];split<;>lia
  show IsRangeIter _ _ (lo+((0:Nat):Int)*1) ((((hi-lo).toNat:Nat):Int)-((0:Nat):Int)) 1
  rw[e1,e2]
  exact sg _ rfl
 .have e:b=(s.heap.push {cls:=.type "range",data:=.fields #[.int lo t,.int hi u,.int 1 v]}).objs.size:=by simpa using hb
  subst e
  exact I1.ZY (sM _) (I1.hok.fresh (sM _))
noncomputable def mS(ta:TA):TI:=λσ H R=>ta σ H λvs H1=>∃j:Int,vs=[.int j]/\ -(2^62)<=j/\j<2^62/\R (Itr 0 j.toNat) H1
theorem Vv{a:sk}{ta:TA}{p pos:Pos}(hg:Gl X "range")(hm:X.mg "range"=none)(ha:PA X [a] ta)(hs:sf [a] X.env=[(false,eval a X.env)]:=by rfl):PI X tg (.Call (.Name "range" p) [a] [] pos) (mS ta):=by
 intro pins s σ H R I h
 refine Call_ (Lg I hg hm boot_range (wZ (thn (ha pos pins s σ H _ I h) λus s1 ⟨vs,H1,I1,r1,q1⟩=>?_) hs rfl))
 obtain⟨j,e,q1,q2,q⟩:=q1
 subst e
 cases r1 with
 |cons r rr=>
  cases rr
  obtain⟨t,rfl⟩:=r
  exact call_range_1 (YN I1 (by lia) (by lia) q1 q2 (by simpa using q))
noncomputable def qZ(wi:TI)(g:TG)(tb:TS):TS:=λD σ H=>wi σ H λJ H1=>∃W:Nat->Nat->St->Hp->Prop,(∃m,W 0 m σ H1)/\∀i m σ H,W i m σ H->
 (J.stop i H/\D.nx σ H)\/(J.go i H/\∃N:St->Hp->Prop,(∀σ' H',N σ' H'->∃m',m'<m/\W (i+1) m' σ' H')/\∀x H',J.yld i H x H'->g x σ H' λσ2 H2=>tb {D with nx:=N,ct:=N,bk:=D.nx} σ2 H2)
noncomputable def PM(fp:Gc sF)(h:tT):Gc (sF×Obj):=fp.filterMap λb=>(h.get? b).map λo=>(b,o)
theorem IG{fp:Gc sF}{h:tT}{b:sF}{o:Obj}(hb:b∈fp)(e:h.get? b=Fk o):(b,o)∈PM fp h:=AAi.mpr ⟨b,hb,by rw[e];rfl⟩
theorem Vn{fp:Gc sF}{h:tT}{p:sF×Obj}(hp:p∈PM fp h):p.1∈fp/\h.get? p.1=Fk p.2:=by
 obtain⟨b,hb,e⟩:=AAi.mp hp
 cases q:h.get? b with
 |none=>rw[q]at e;cases e
 |some o=>
  rw[q]at e
  have e':(b,o)=p:=uq e
  subst e'
  exact⟨hb,q⟩
theorem Inv.pinned{pins:Gc (sF×Obj)}{σ:St}{H:Hp}{s:sE}{fp:Gc sF}(I:Inv X pins σ H s)(hf:∀b∈fp,QB X pins H b)(ho:∀b∈fp,∃o,s.heap.get? b=Fk o/\∀v,o.data≠.cell v):Inv X (pins++PM fp s.heap) σ H s:=
 I.TV λp hp=>(sx.mp hp).elim (λz=>I.pin p (uJ _ z)) λz=>by
  obtain⟨hb,e⟩:=Vn z
  obtain⟨f0,f1,f2,_⟩:=hf p.1 hb
  obtain⟨o,e',d⟩:=ho p.1 hb
  rw[e]at e';cases e'
  exact⟨e,f0,f1,f2,d⟩
theorem Inv.Ki{pins pl:Gc (sF×Obj)}{σ:St}{H:Hp}{s:sE}(I:Inv X (pins++pl) σ H s):Inv X pins σ H s:=I.TV λp hp=>I.pin p (uJ _ (yK _ hp))
theorem gD{iter:sk}{body:Gc tP}{wi:TI}{g:TG}{tb:TS}{pos:Pos}(hp:PassesOwn (model X.prog X.w) X.A X.env X.xe)(hc:X.calm=true)(hi:PI X tg iter wi)(hg:PG X tg g)(hb:PSs X body tb)(hs:∀x,foldedSetIterable iter X.env x=pure x:=by intro _;rfl):PS X (.For tg iter body [] pos) (qZ wi g tb):=by
 intro pins s σ H D I h
 refine wpAny_For (thn (hi pins s σ H _ I h) λv s1 h1=>thn h1 λitv s2 h2=>?_) hs
 obtain⟨it,fp,tn,J,H2,e,I2,T,st2,f2,W,⟨m0,w0⟩,turn⟩:=h2
 subst e
 have stat:∀{H':Hp},(∀b∈fp,H' b=none)->∀b∈fp,QB X pins H' b:=λhn b hb=>⟨hn b hb,(f2 b hb).2⟩
 refine codeAny_forLoop_any (λn s'=>∃i σ' H',Inv X pins σ' H' s'/\tn i s'.heap/\(∀b∈fp,H' b=none)/\W i n σ' H') ?_ m0 ⟨0,σ,H2,I2,st2,λb hb=>(f2 b hb).1,w0⟩
 rintro n s3 ⟨i,σ3,H3,I3,st3,fr3,w3⟩
 rcases turn i n σ3 H3 w3 with⟨stop,qn⟩|⟨go,N,hN,step⟩
 .refine vx hp (thn (T.done X rfl rfl rfl hc i pins s3 σ3 H3 X.xe I3 (stat fr3) st3 stop) λr s4 ⟨hr,I4⟩=>?_)
  subst hr
  exact xN ⟨σ3,H3,I4,qn⟩
 .refine vx hp (thn (T.item X rfl rfl rfl hc i pins s3 σ3 H3 X.xe I3 (stat fr3) st3 go) λr s4 ⟨u,hr,h4⟩=>?_)
  subst hr
  refine vx hp (thn h4 λ_ s5 ⟨x,H5,I5,r5,y5,st5,fr5⟩=>?_)
  have I5':=I5.pinned (stat fr5) (T.obj _ _ st5)
  refine vx hp (thn (hg _ s5 σ3 H5 x u _ I5' r5 (step x H5 y5)) λ_ s6 ⟨σ6,H6,I6,q6⟩=>?_)
  refine vx hp (thn (hb _ s6 σ6 H6 _ I6 q6) λf s7 q7=>?_)
  have again:∀{σ7:St} {H7:Hp},Inv X (pins++PM fp s5.heap) σ7 H7 s7->N σ7 H7->∃m,m<n/\∃i σ' H',Inv X pins σ' H' s7/\tn i s7.heap/\(∀b∈fp,H' b=none)/\W i m σ' H':=λ{σ7 H7} I7 n7=>by
   obtain⟨m',hm,w7⟩:=hN σ7 H7 n7
   refine⟨m',hm,i+1,σ7,H7,I7.Ki,T.keep _ _ _ st5 λb hb o e=>(I7.pin (b,o) (uJ _ (uJ _ (IG hb e)))).1,λb hb=>?_,w7⟩
   obtain⟨o,e,d⟩:=T.obj _ _ st5 b hb
   exact(I7.pin (b,o) (uJ _ (uJ _ (IG hb e)))).2.1
  cases f with
  |next=>obtain⟨σ7,H7,I7,n7⟩:=q7;exact again I7 n7
  |cont=>obtain⟨σ7,H7,I7,n7⟩:=q7;exact again I7 n7
  |brk=>obtain⟨σ7,H7,I7,q7⟩:=q7;exact⟨σ7,H7,I7.Ki,q7⟩
  |ret v=>obtain⟨x7,σ7,H7,I7,r7,q7⟩:=q7;exact⟨x7,σ7,H7,I7.Ki,r7,q7⟩
end
end L2
namespace L2
open PySem PySem.Spec PyProof.Rows
abbrev R2:=V->V->Hp->VK->Prop
def OpR(X:Cx)(f:W1->W1->Sem W1)(r:R2):Prop:=
 ∀(pins:Gc (sF×Obj)) (s:sE) (σ:St) (H:Hp) (x y:V) (v u:W1) (Q:VK),Inv X pins σ H s->RelV x v->RelV y u->r x y H Q->
  wpAny (model X.prog X.w) X.A (f v u) (EP X pins σ Q) X.xe s
def UnR(X:Cx)(f:W1->Sem W1)(r:V->Hp->VK->Prop):Prop:=
 ∀(pins:Gc (sF×Obj)) (s:sE) (σ:St) (H:Hp) (x:V) (v:W1) (Q:VK),Inv X pins σ H s->RelV x v->r x H Q->
  wpAny (model X.prog X.w) X.A (f v) (EP X pins σ Q) X.xe s
def El(X:Cx)(f:W1)(r:Gc V->Hp->VK->Prop):Prop:=
 ∀(pins:Gc (sF×Obj)) (s:sE) (σ:St) (H:Hp) (xs:Gc V) (us:Gc W1) (Q:VK),Inv X pins σ H s->Vals xs us->r xs H Q->
  wpAny (model X.prog X.w) X.A (call f us) (EP X pins σ Q) X.xe s
noncomputable def tOp(r:R2)(ta tb:TE):TE:=λσ H Q=>ta σ H λx H1=>tb σ H1 λy H2=>r x y H2 Q
noncomputable def tUn(r:V->Hp->VK->Prop)(ta:TE):TE:=λσ H Q=>ta σ H λx H1=>r x H1 Q
noncomputable def rI(C:Int->Int->Prop)(g:Int->Int->V):R2:=λx y H Q=>∃i j,x=.int i/\y=.int j/\C i j/\Q (g i j) H
noncomputable def rI0(g:Int->Int->V):R2:=λx y H Q=>∃i j,x=.int i/\y=.int j/\Q (g i j) H
def rU(g:Int->V):V->Hp->VK->Prop:=λx H Q=>∃i,x=.int i/\Q (g i) H
section
variable{X:Cx}{a b c:sk}{ta tb tc:TE}{pos:Pos}
theorem lK(ha:PE X a ta)(hb:PE X b tb){pins:Gc (sF×Obj)}{s:sE}{σ:St}{H:Hp}{R:V->V->Hp->Prop}(I:Inv X pins σ H s)(h:ta σ H λx H1=>tb σ H1 λy H2=>R x y H2){Q:W1->sE->Prop}{f:W1->W1->Sem W1}(hf:∀v u s2 x y H2,Inv X pins σ H2 s2->RelV x v->RelV y u->R x y H2->wpAny (model X.prog X.w) X.A (f v u) Q X.xe s2):wpAny (model X.prog X.w) X.A (eval a X.env) (λv s₁=>wpAny (model X.prog X.w) X.A (eval b X.env) (λu s₂=>wpAny (model X.prog X.w) X.A (f v u) Q X.xe s₂) X.xe s₁) X.xe s:=by
 refine thn (ha pins s σ H _ I h) λv s1 ⟨x,H1,I1,r1,q1⟩=>?_
 refine thn (hb pins s1 σ H1 _ I1 q1) λu s2 ⟨y,H2,I2,r2,q2⟩=>?_
 exact hf v u s2 x y H2 I2 r1 r2 q2
theorem nE{op:Operator}{r:R2}(ho:OpR X (binaryOp op) r)(ha:PE X a ta)(hb:PE X b tb):PE X (.BinOp a op b pos) (tOp r ta tb):=by
 intro pins s σ H Q I h
 exact wpAny_BinOp (lK ha hb I h λv u s2 x y H2 I2 rx ry q=>ho pins s2 σ H2 x y v u Q I2 rx ry q)
theorem mT{op:UnaryOp}{r:V->Hp->VK->Prop}(ho:UnR X (unaryOp op) r)(ha:PE X a ta):PE X (.UnaryOp op a pos) (tUn r ta):=by
 intro pins s σ H Q I h
 exact UnaryOp_ (thn (ha pins s σ H _ I h) λv s1 ⟨x,H1,I1,r1,q1⟩=>ho pins s1 σ H1 x v Q I1 r1 q1)
theorem opI{f:W1->W1->Sem W1}{C:Int->Int->Prop}{g:Int->Int->Int}(rule:∀(i j:Int) (t u:Tok) (s:sE) (Q:W1->sE->Prop) (E:W1->sE->Prop),C i j->Q (.int (g i j) s.toks) {s with toks:=s.toks+1}->wpAny (model X.prog X.w) X.A (f (.int i t) (.int j u)) Q E s):OpR X f (rI C λi j=>.int (g i j)):=by
 intro pins s σ H x y v u Q I rx ry h
 obtain⟨i,j,rfl,rfl,hc,q⟩:=h
 obtain⟨t,rfl⟩:=rx
 obtain⟨t',rfl⟩:=ry
 exact rule i j t t' s _ _ hc ⟨.int (g i j),H,I.tok _,⟨_,rfl⟩,q⟩
theorem nk{f:W1->W1->Sem W1}{g:Int->Int->Int}(rule:∀(i j:Int) (t u:Tok) (s:sE) (Q:W1->sE->Prop) (E:W1->sE->Prop),Q (.int (g i j) s.toks) {s with toks:=s.toks+1}->wpAny (model X.prog X.w) X.A (f (.int i t) (.int j u)) Q E s):OpR X f (rI0 λi j=>.int (g i j)):=by
 intro pins s σ H x y v u Q I rx ry h
 obtain⟨i,j,rfl,rfl,q⟩:=h
 obtain⟨t,rfl⟩:=rx
 obtain⟨t',rfl⟩:=ry
 exact rule i j t t' s _ _ ⟨.int (g i j),H,I.tok _,⟨_,rfl⟩,q⟩
theorem jY{f:W1->W1->Sem W1}{g:Int->Int->tV}(rule:∀(i j:Int) (t u:Tok) (s:sE) (Q:W1->sE->Prop) (E:W1->sE->Prop),Q (.bool (g i j)) s->wpAny (model X.prog X.w) X.A (f (.int i t) (.int j u)) Q E s):OpR X f (rI0 λi j=>.bl (g i j)):=by
 intro pins s σ H x y v u Q I rx ry h
 obtain⟨i,j,rfl,rfl,q⟩:=h
 obtain⟨t,rfl⟩:=rx
 obtain⟨t',rfl⟩:=ry
 exact rule i j t t' s _ _ ⟨.bl (g i j),H,I,rfl,q⟩
def qb(i j:Int):Prop:=0<=j/\j<=1000000/\i.natAbs<2^64
def nC(i j:Int):Prop:=(-(2^64)<i/\i<2^64)\/(-(2^64)<j/\j<2^64)
theorem nC.ok{i j:Int}(h:nC i j):IntMulOk i j:=by
 rcases h with⟨h1,h2⟩|⟨h1,h2⟩
 .exact .of_left (intBits_le_64 h1 h2)
 .exact .of_right (intBits_le_64 h1 h2)
theorem gy:OpR X (binaryOp .Add) (rI0 λi j=>.int (i+j)):=nk λ_ _ _ _ _ _ _ q=>add_int q
theorem dm:OpR X (binaryOp .Sub) (rI0 λi j=>.int (i-j)):=nk λ_ _ _ _ _ _ _ q=>sub_int q
theorem Yl:OpR X (binaryOp .Mult) (rI nC λi j=>.int (i*j)):=opI λ_ _ _ _ _ _ _ hc q=>mul_int q hc.ok
theorem fB:OpR X (binaryOp .Mod) (rI (λ_ j=>0<j) λi j=>.int (i % j)):=opI λi j _ _ _ _ _ hc q=>by
 have h1:(0:Int)<j:=hc
 exact mod_int' (by lia) (by rw[Int.fmod_eq_emod_of_nonneg i (by lia)];exact q)
theorem iC:OpR X (binaryOp .Pow) (rI qb λi j=>.int (i^j.toNat)):=opI λ_ _ _ _ _ _ _ hc q=>pow_int_small hc.1 hc.2.1 hc.2.2 q
theorem unI{f:W1->Sem W1}{g:Int->Int}(rule:∀(i:Int) (t:Tok) (s:sE) (Q:W1->sE->Prop) (E:W1->sE->Prop),Q (.int (g i) s.toks) {s with toks:=s.toks+1}->wpAny (model X.prog X.w) X.A (f (.int i t)) Q E s):UnR X f (rU λi=>.int (g i)):=by
 intro pins s σ H x v Q I rx h
 obtain⟨i,rfl,q⟩:=h
 obtain⟨t,rfl⟩:=rx
 exact rule i t s _ _ ⟨.int (g i),H,I.tok _,⟨_,rfl⟩,q⟩
theorem ir:UnR X (unaryOp .USub) (rU λi=>.int (-i)):=unI λ_ _ _ _ _ q=>neg_int q
end
section
variable{X:Cx}{a b c:sk}{ta tb tc:TE}{pos:Pos}
theorem Qs{pins:Gc (sF×Obj)}{σ:St}{H:Hp}{s:sE}{Q:VK}{k k':tV}(I:Inv X pins σ H s)(q:Q (.bl k) H)(e:k=k'):EP X pins σ Q (.bool k') s:=by
 subst e
 exact⟨.bl k,H,I,rfl,q⟩
theorem gn:OpR X (compareOp .Lt) (rI0 λi j=>.bl (decide (i<j))):=jY λ_ _ _ _ _ _ _ q=>lt_int q
theorem gc:OpR X (compareOp .LtE) (rI0 λi j=>.bl (decide (i<=j))):=jY λ_ _ _ _ _ _ _ q=>le_int q
theorem mQ:OpR X (compareOp .Gt) (rI0 λi j=>.bl (decide (j<i))):=jY λ_ _ _ _ _ _ _ q=>gt_int q
theorem nQ:OpR X (compareOp .GtE) (rI0 λi j=>.bl (decide (j<=i))):=jY λ_ _ _ _ _ _ _ q=>ge_int q
theorem dZ:OpR X (compareOp .Is) (λx y H Q=>y=.non/\Q (.bl (decide (x=.non))) H):=by
 intro pins s σ H x y v u Q I rx ry h
 obtain⟨rfl,q⟩:=h
 cases ry
 refine is_none_gen (Qs I q ?_)
 cases x<;>first
  |(cases rx;rfl)
  |(obtain⟨t,rfl⟩:=rx;rfl)
theorem ZT:OpR X (compareOp .IsNot) (λx y H Q=>y=.non/\Q (.bl (!decide (x=.non))) H):=by
 intro pins s σ H x y v u Q I rx ry h
 obtain⟨rfl,q⟩:=h
 cases ry
 refine isnot_none_gen (Qs I q ?_)
 cases x<;>first
  |(cases rx;rfl)
  |(obtain⟨t,rfl⟩:=rx;rfl)
theorem Z0{op:CmpOp}{r:R2}(ho:OpR X (compareOp op) r)(ha:PE X a ta)(hb:PE X b tb)(hm:behindInMarks op b=false):PE X (.Compare a [op] [b] pos) (tOp r ta tb):=by
 intro pins s σ H Q I h
 exact wpAny_Compare1 (lK ha hb I h λv u s2 x y H2 I2 rx ry q=>ho pins s2 σ H2 x y v u Q I2 rx ry q) hm
noncomputable def gN(t:TE):TT:=λσ H Q=>t σ H λx H'=>∃k,x=.bl k/\Q k H'
theorem ZW{op:CmpOp}{r:R2}(ho:OpR X (compareOp op) r)(ha:PE X a ta)(hb:PE X b tb)(hm:behindInMarks op b=false):PT X (.Compare a [op] [b] pos) (gN (tOp r ta tb)):=by
 intro pins s σ H Q I h
 refine wpAny_isTrue_Compare1 (thn (ha pins s σ H _ I h) λv s1 ⟨x,H1,I1,r1,q1⟩=>thn (hb pins s1 σ H1 _ I1 q1) λu s2 ⟨y,H2,I2,r2,q2⟩=>
  thn (ho pins s2 σ H2 x y v u _ I2 r1 r2 q2) λc s3 ⟨z,H3,I3,r3,k,e,q3⟩=>?_) hm
 subst e
 cases r3
 exact vW ⟨H3,I3,q3⟩
noncomputable def ZI(r r':R2)(ta tb tc:TE):TE:=λσ H Q=>ta σ H λx H1=>tb σ H1 λy H2=>r x y H2 λz H3=>∃k,z=.bl k/\
 (if k=true then tc σ H3 λw' H4=>r' y w' H4 Q else Q (.bl false) H3)
theorem Xk{op op':CmpOp}{r r':R2}(ho:OpR X (compareOp op) r)(ho':OpR X (compareOp op') r')(ha:PE X a ta)(hb:PE X b tb)(hc:PE X c tc)(hm:lastMarks [op,op'] [b,c]=false:=by with_unfolding_all rfl):PE X (.Compare a [op,op'] [b,c] pos) (ZI r r' ta tb tc):=by
 intro pins s σ H Q I h
 refine Compare_chain (thn (ha pins s σ H _ I h) λv s1 ⟨x,H1,I1,r1,q1⟩=>chain_link (thn (hb pins s1 σ H1 _ I1 q1) λu s2 ⟨y,H2,I2,r2,q2⟩=>
  thn (ho pins s2 σ H2 x y v u _ I2 r1 r2 q2) λd s3 ⟨z,H3,I3,r3,k,e,q3⟩=>?_)) hm
 subst e
 cases r3
 refine vW ?_
 cases k with
 |false=>exact ite_ff ⟨.bl false,H3,I3,rfl,q3⟩
 |true=>exact ite_tt (chain_last (thn (hc pins s3 σ H3 _ I3 q3) λw' s4 ⟨z',H4,I4,r4,q4⟩=>ho' pins s4 σ H4 y z' u w' Q I4 r2 r4 q4))
theorem OT:(sizeLine:Nat)<2^63:=by rw[wk];decide
theorem Ro:OpR X (binaryOp .Add) (λx y H Q=>∃i j,x=.str i/\y=.str j/\i.length+j.length<=sizeLine/\Q (.str (i++j)) H):=by
 intro pins s σ H x y v u Q I rx ry h
 obtain⟨i,j,rfl,rfl,hz,q⟩:=h
 obtain⟨t,rfl⟩:=rx
 obtain⟨t',rfl⟩:=ry
 exact add_str (λt' tk=>⟨.str (i++j),H,I.tok _,⟨_,rfl⟩,q⟩) hz
theorem vals1{x:V}{us:Gc W1}(r:Vals [x] us):∃u,us=[u]/\RelV x u:=by
 cases r with
 |cons r1 r2=>cases r2;exact⟨_,rfl,r1⟩
theorem vals2{x y:V}{us:Gc W1}(r:Vals [x,y] us):∃u w',us=[u,w']/\RelV x u/\RelV y w':=by
 cases r with
 |cons r1 r2=>
  cases r2 with
  |cons r3 r4=>cases r4;exact⟨_,_,rfl,r1,r3⟩
theorem X0:El X (.builtin "abs") (λxs H Q=>∃i,xs=[.int i]/\Q (.int (if i<0 then-i else i)) H):=by
 intro pins s σ H xs us Q I r h
 obtain⟨i,rfl,q⟩:=h
 obtain⟨u,rfl,t,rfl⟩:=vals1 r
 exact call_abs_int λu tk=>⟨.int (if i<0 then-i else i),H,I.tok _,⟨_,rfl⟩,q⟩
theorem Vi(hc:X.calm=true):El X (.builtin "min") (λxs H Q=>∃i j,xs=[.int i,.int j]/\Q (.int (if j<i then j else i)) H):=by
 intro pins s σ H xs us Q I r h
 obtain⟨i,j,rfl,q⟩:=h
 obtain⟨u,w',rfl,⟨t,rfl⟩,⟨t',rfl⟩⟩:=vals2 r
 refine min_two_ints (I.ok.hd hc) λh' tk k=>⟨_,H,I.kept k,?_,q⟩
 by_cases hj:j<i
 .rw[tK hj,tK hj];exact⟨_,rfl⟩
 .rw[tN hj,tN hj];exact⟨_,rfl⟩
theorem N8:El X (.type "int") (λxs H Q=>(∃i,xs=[.int i]/\Q (.int i) H)\/∃k,xs=[.bl k]/\Q (.int (if k then 1 else 0)) H):=by
 intro pins s σ H xs us Q I r h
 rcases h with⟨i,rfl,q⟩|⟨k,rfl,q⟩
 .obtain⟨u,rfl,t,rfl⟩:=vals1 r
  exact call_int_int ⟨.int i,H,I,⟨_,rfl⟩,q⟩
 .obtain⟨u,rfl,r1⟩:=vals1 r
  cases r1
  exact call_int_bool ⟨.int (if k then 1 else 0),H,I.tok _,⟨_,rfl⟩,q⟩
end
end L2
namespace L2
open PySem PySem.Spec PyProof.Rows
structure lZ(h:tT)(x dx C:sF)(mA:Str->sD W1):Prop where
 obj:h.get? x=Fk (zk C dx)
 ns:h.Ns1 dx mA
 ne:dx≠x
theorem UK{h:tT}{dx:sF}{mA:Str->sD W1}(n:h.Ns1 dx mA):∃od,h.get? dx=Fk od/\∀name,z5 name od=Fk (mA name):=by
 obtain⟨o,es,ep,ho,hd,hk,_,hm⟩:=n
 refine⟨o,ho,λname=>?_⟩
 have e:=hm name
 unfold nsFind findBy at e
 rw[<-AAj]at e
 unfold z5
 rw[hd]
 dsimp only
 split
 .rename_i y q
  rw[q]at e
  exact congrArg Fk e
 .rename_i q
  rw[q]at e
  have a:es.toList.any (·.refKey)=false:=by
   rw[List.any_eq_false]
   intro y hy
   obtain⟨z,t,hkey⟩:=hk y (Array.mem_toList_iff.mp hy)
   simp[DictEntry.refKey,hkey]
  have a':¬es.toList.any (·.refKey)=true:=by rw[a];exact uE
  rw[tN a']
  exact congrArg Fk e
theorem lZ.look{h:tT}{x dx C:sF}{mA:Str->sD W1}(I:lZ h x dx C mA):∃od,z6 h x (zk C dx) C (Fk od)/\∀name,z5 name od=Fk (mA name):=
 let⟨od,ho,hl⟩:=UK I.ns
 ⟨od,⟨I.obj,rfl,rfl,ho⟩,hl⟩
section
variable{prog:sj}{w:tu}{A:tM}{E:W1->sE->Prop}{s:sE}{K:Wp}{x dx C f:sF}{mA:Str->sD W1}{name:Str}{v:W1}
end
section
variable{P:sj}{w:tu}{H H':Hp}{h h':tT}{a C dx:sF}{fs fs':Gc (Str×V)}
theorem Zb(hok:HOk P w H h)(e:H a=Fk (.ins C dx fs)):∃mA,lZ h a dx C mA/\(∀f,ji (fs.lookup f) (mA f))/\PySem.Within mA (fs.map (·.1))/\fs.length<=1000/\H dx=Fk (.own a):=by
 obtain⟨d,z,ne,ob,mA,n,r,q⟩:=(show DF P w H h a (.ins C dx fs)from hok a _ e)
 exact⟨mA,⟨ob,n,ne⟩,r,q,z,d⟩
end
structure Cls(K:Wp)(C:sF):Prop where
 pg:PySem.W.plainGet K C Str.empty=true
 hd:PySem.W.hasDictIn K C=true
 po:PySem.W.plainOver K C=true
 sa:uL K (.ref C) "__setattr__"=Fk (Fk (.builtin "object.__setattr__"))
theorem Cls.get{K:Wp}{C:sF}(c:Cls K C)(f:Str):PySem.W.plainGet K C f=true:=c.pg
structure Con(K:Wp)(C:sF)(f:Str)(v:V)(u:W1):Prop where
 at_:uL K (.ref C) f=Fk (Fk u)
 rel:RelV v u
 get:xf K u "__get__"=Fk none
 cp:PySem.W.copiedNames.contains f=false
structure Meth(K:Wp)(C:sF)(m:Str)(f:sF):Prop where
 at_:uL K (.ref C) m=Fk (Fk (.ref f))
 fn:PySem.W.isFn K (.ref f)=true
 kp:vG K (.ref f)=true
section
variable{X:Cx}{pins:Gc (sF×Obj)}{σ:St}{H:Hp}{s:sE}{a C dx:sF}{fs:Gc (Str×V)}{f:Str}{v:V}{A:tM}{E:W1->sE->Prop}
end
section
variable{X:Cx}{o e value:sk}{f:Str}{pos pos' tpos:Pos}{ta tv:TE}
end
section
variable{X:Cx}{pins:Gc (sF×Obj)}{σ:St}{H:Hp}{s:sE}{A:tM}{E:W1->sE->Prop}{Q:W1->sE->Prop}{c:W1}{b:tV}
inductive Su(K:Wp)(H:Hp):V->W1->Prop where
 |non:Su K H .non (.type "NoneType")
 |bl (x:tV):Su K H (.bl x) (.type "bool")
 |int (i:Int):Su K H (.int i) (.type "int")
 |str (x:Str):Su K H (.str x) (.type "str")
 |flt (x:UInt64):Su K H (.flt x) (.type "float")
 |lst {a:sF} {xs:Gc V} (e:H a=Fk (.lst xs)):Su K H (.ref a) (.type "list")
 |frz {a:sF} {o:Obj} {xs:Gc V} (e:H a=Fk (.frz o (.lst xs))):Su K H (.ref a) (.type "list")
 |tup {a:sF} {xs:Gc V} (e:H a=Fk (.tup xs)):Su K H (.ref a) (.type "tuple")
 |dK {a:sF} {kvs:Gc (Key×V)} (e:H a=Fk (.dK kvs)):Su K H (.ref a) (.type "dict")
 |dT {a:sF} {kvs:Gc (Gc Key×V)} (e:H a=Fk (.dT kvs)):Su K H (.ref a) (.type "dict")
 |ins {a C dx:sF} {fs:Gc (Str×V)} (e:H a=Fk (.ins C dx fs)) (cl:Cls K C) (ha:uL K (.ref C) "__class__"=Fk (Fk (.builtin "object.__class__")))
   (hn:xf K (.builtin "object.__class__") "__get__"=Fk (Fk (.builtin "getset_descriptor.__get__"))) (htk:PySem.W.takesIn K (.builtin "object.__class__")=Fk true)
   (hm:wU K C (.type "object")=Fk true):Su K H (.ref a) (.ref C)
theorem FH{x:V}{u t:W1}(I:Inv X pins σ H s)(rx:RelV x u)(ty:Su X.K H x t)(e:vk X.K t c=Fk b)(h:∀tk,Q (.bool b) {s with toks:=tk}):wpAny (model X.prog X.w) A (call (.builtin "isinstance") [u,c]) Q E s:=by
 cases ty with
 |non=>cases (show u=tZ from rx);exact ui PySem.W.kitx_none I.kIn yB e (λz=>nomatch z) h
 |bl y=>cases (show u=yh y from rx);exact ui PySem.W.kitx_bool I.kIn yB e (λz=>nomatch z) h
 |int i=>obtain⟨t,q⟩:=(show∃t,u=zG i t from rx);cases q;exact ui PySem.W.kitx_int I.kIn yB e (λz=>nomatch z) h
 |str y=>obtain⟨t,q⟩:=(show∃t,u=zH y t from rx);cases q;exact ui PySem.W.kitx_str I.kIn yB e (λz=>nomatch z) h
 |flt y=>obtain⟨t,q⟩:=(show∃t,u=Value.float y t from rx);cases q;exact ui PySem.W.kitx_float I.kIn yB e (λz=>nomatch z) h
 | @lst a xs ea=>
   cases (show u=tw a from rx)
   obtain⟨_,_,n,_,h1⟩:=(show DF X.prog X.w H s.heap a (.lst xs)from I.hok a _ ea)
   exact ui PySem.W.kitx_list I.kIn ⟨_,h1,rfl⟩ e (λz=>nomatch z) h
 | @frz a ob xs ea=>
   cases (show u=tw a from rx)
   obtain⟨_,_,_,n,_,h1⟩:=(show DF X.prog X.w H s.heap a (.frz ob (.lst xs))from I.hok a _ ea)
   exact ui PySem.W.kitx_list I.kIn ⟨_,h1,rfl⟩ e (λz=>nomatch z) h
 | @tup a xs ea=>
   cases (show u=tw a from rx)
   obtain⟨_,_,_,p⟩:=(show DF X.prog X.w H s.heap a (.tup xs)from I.hok a _ ea)
   obtain⟨o,h1,h2,_⟩:=p
   exact ui AAk I.kIn ⟨o,h1,h2⟩ e (λz=>nomatch z) h
 | @dK a kvs ea=>
   cases (show u=tw a from rx)
   obtain⟨_,_,vs,_,p⟩:=(show DF X.prog X.w H s.heap a (.dK kvs)from I.hok a _ ea)
   obtain⟨o,es,ep,h1,h2,_⟩:=p
   exact ui PySem.W.kitx_dict I.kIn ⟨o,h1,h2.1⟩ e (λz=>nomatch z) h
 | @dT a kvs ea=>
   cases (show u=tw a from rx)
   obtain⟨_,_,xs,_,o,es,ep,h1,h2,_⟩:=(show DF X.prog X.w H s.heap a (.dT kvs)from I.hok a _ ea)
   exact ui PySem.W.kitx_dict I.kIn ⟨o,h1,h2.1⟩ e (λz=>nomatch z) h
 | @ins a C dx fs ea cl ha hn htk hm=>
   cases (show u=tw a from rx)
   obtain⟨mA,O,_⟩:=Zb I.hok ea
   obtain⟨od,J,_⟩:=O.look
   exact ui (PySem.W.kitx_own (cl.get _) cl.hd ha hn htk hm) I.kIn J e (λz=>nomatch z) h
end
end L2
namespace L2
open PySem PySem.Spec PyProof.Rows
structure Eg(k:Nat)(A:tM):Prop where
 hd:A.handled=none
 dp:A.depth+3*k+5<recursionLimit
 un:A.units+16*k+200<cLine
theorem Eg.mono{j k:Nat}{A:tM}(r:Eg k A)(h:j<=k):Eg j A:=⟨r.hd,by have:=r.dp;lia,by have:=r.un;lia⟩
theorem Eg.deeper{k:Nat}{A:tM}(r:Eg (k+1) A)(env:Env):Eg k (A.deeper env):=
 ⟨r.hd,by have:=r.dp;show A.depth+1+3*k+5<_;lia,by have:=r.un;show A.units+3+16*k+200<_;lia⟩
theorem Rc{A:tM}{C:sF}{us:Gc W1}{kw:Gc (Str×W1)}:(A.under (.builtin "type.__call__" ⟨.ref C::us,kw⟩)).depth=A.depth+1:=by
 first|rfl|simp[Around.under,Code.weight,Code.isCreation,Code.isGuard,Code.isCaller,Code.frames,Code.isFrame,guardIds]
theorem R5{A:tM}{C:sF}{us:Gc W1}{kw:Gc (Str×W1)}:(A.under (.builtin "type.__call__" ⟨.ref C::us,kw⟩)).units=A.units+1:=by
 first|rfl|simp[Around.under,Code.cUnits,Code.frames,Code.isFrame]
theorem Eg.make{k:Nat}{A:tM}(r:Eg (k+1) A)(C:sF)(us:Gc W1)(kw:Gc (Str×W1)):Eg k (A.under (.builtin "type.__call__" ⟨.ref C::us,kw⟩)):=
 ⟨r.hd,by have:=r.dp;rw[Rc];lia,by have:=r.un;rw[R5];lia⟩
theorem Eg.depth{k:Nat}{A:tM}(r:Eg k A):A.depth<recursionLimit:=by have:=r.dp;lia
noncomputable def ou:TA:=λ_ H Q=>Q [] H
noncomputable def gA(ta:TE)(tr:TA):TA:=λσ H Q=>ta σ H λx H1=>tr σ H1 λxs H2=>Q (x::xs) H2
section
variable{X:Cx}{e:sk}{es:Gc sk}{te:TE}{t:TA}{pos:Pos}
theorem Qm:PA X [] ou:=λ_ _ _ _ H Q I h=>z7 ⟨[],H,I,.nil,h⟩
theorem J2(ha:PE X e te)(hr:PA X es t)(hs:sf (e::es) X.env=(false,eval e X.env)::sf es X.env:=by rfl):PA X (e::es) (gA te t):=by
 intro pos pins s σ H Q I h
 rw[hs]
 show wpAny _ _ (spliced ((false,eval e X.env)::backTo pos (sf es X.env))) _ _ s
 refine zu (thn (ha pins s σ H _ I h) λu s1 ⟨x,H1,I1,r1,q1⟩=>?_)
 exact thn (hr pos pins s1 σ H1 _ I1 q1) λus s2 ⟨xs,H2,I2,r2,q2⟩=>⟨x::xs,H2,I2,.cons r1 r2,q2⟩
noncomputable def qG(t:TA):TE:=λσ H Q=>t σ H λxs H1=>xs.length<=sizeLine/\∀p,H1 p=none->Q (.ref p) (upd H1 p (.tup xs))
noncomputable def qW(t:TA):TE:=λσ H Q=>t σ H λxs H1=>xs.length<=sizeLine/\∀p,H1 p=none->Q (.ref p) (upd H1 p (.lst xs))
theorem dX{x1}(h:PA X es t):PE X (.Tuple es x1 pos) (qG t):=by
 intro pins s σ H Q I hq
 refine wpAny_Tuple_spliced (thn (h pos pins s σ H _ I hq) λus s1 ⟨xs,H1,I1,r,z,q⟩=>⟨by rw[<-r.length];exact z,?_⟩)
 have hf:H1 s1.heap.objs.size=none:=I1.hok.fresh (sM _)
 refine⟨.ref s1.heap.objs.size,upd H1 s1.heap.objs.size (.tup xs),I1.laid (t':=s1.toks) (λb u e=>sC _ e) (sM _) ?_,rfl,q _ hf⟩
 exact⟨z,us,r,⟨_,sg _ rfl,rfl,_,rfl⟩⟩
theorem iB(h:PA X es t):PE X (.List es pos) (qW t):=by
 intro pins s σ H Q I hq
 refine wpAny_List_spliced (thn (h pos pins s σ H _ I hq) λus s1 ⟨xs,H1,I1,r,z,q⟩=>⟨by rw[<-r.length];exact z,?_⟩)
 have hf:H1 s1.heap.objs.size=none:=I1.hok.fresh (sM _)
 refine⟨.ref s1.heap.objs.size,upd H1 s1.heap.objs.size (.lst xs),I1.laid (t':=s1.toks) (λb u e=>sC _ e) (sM _) ?_,rfl,q _ hf⟩
 exact⟨z,us,0,r,sg _ rfl⟩
end
abbrev Sp:=Gc V->Hp->VK->XK->Prop
abbrev CXT:=Gc Env->Hp->sE->XK->W1->sE->Prop
structure YW(P:sj)(w:tu)(K:Wp)(mg:Str->sD W1)(base:tT)(A:tM)(outer:Gc Env)(s:sE)(H:Hp):Prop where
 frames:A.frames=Fk outer
 mod:Mod K mg base
 bs:∀b o,base.get? b=Fk o->s.heap.get? b=Fk o/\H b=none
 bsz:base.objs.size<=s.heap.objs.size
 QM:s.heap.FunFrames base outer
 frf:∀b∈frs outer,H b=none
 hok:HOk P w H s.heap
 bare:xU s.gens
def CE(outer:Gc Env)(P:sj)(w:tu)(H:Hp)(s:sE)(Q:VK)(u:W1)(s':sE):Prop:=
 ∃v H',s'.os=s.os/\xU s'.gens/\Un (frs outer) [] H H' s.heap s'.heap/\HOk P w H' s'.heap/\RelV v u/\Q v H'
def CR(CX:CXT)(outer:Gc Env)(P:sj)(w:tu)(H:Hp)(s:sE)(Q:VK)(E:XK)(r:Result)(s':sE):Prop:=
 match r with
 | .ok (.ret u)=>CE outer P w H s Q u s'
 | .ok _=>vS
 | .error e=>CX outer H s E e s'
structure Pb(P:sj)(w:tu)(K:Wp)(mg:Str->sD W1)(base:tT)(CX:CXT)(k:Nat)(f:sF)(fd:vD)(ps:Gc Str)(sp:Sp):Prop where
 len:∀vs H Q E,sp vs H Q E->vs.length=ps.length
 run:∀(A:tM) (outer:Gc Env) (s:sE) (H:Hp) (args:Args) (us:Gc W1) (vs:Gc V) (Q:VK) (E:XK),Eg k A->YW P w K mg base A outer s H->BindsTo s fd args (ps.zip us)->Vals vs us->sp vs H Q E->
  codeAny (model P w) A (.call (.ref f) args) (CR CX outer P w H s Q E) s
theorem YW.make{P:sj}{w:tu}{K:Wp}{mg:Str->sD W1}{base:tT}{A:tM}{outer:Gc Env}{s:sE}{H:Hp}(e:YW P w K mg base A outer s H)(C:sF)(us:Gc W1)(kw:Gc (Str×W1)):YW P w K mg base (A.under (.builtin "type.__call__" ⟨.ref C::us,kw⟩)) outer s H:=⟨by first|exact e.frames|(simpa[Around.under,Code.envs,Code.isFrame,pushEnvs]using e.frames),e.mod,e.bs,e.bsz,e.QM,e.frf,e.hok,e.bare⟩
section
variable{X:Cx}{pins:Gc (sF×Obj)}{σ:St}{H:Hp}{s s':sE}
theorem Inv.dG(I:Inv X pins σ H s):YW X.prog X.w X.K X.mg X.base X.A X.stack s H:=
 ⟨I.ok.frames,I.ok.mod,I.bs,sL I.ok.bsz I.sz,I.stack,I.P7,I.hok,I.bare⟩
theorem Inv.after{Q:VK}{u:W1}(I:Inv X pins σ H s)(h:CE X.stack X.prog X.w H s Q u s'):EP X pins σ Q u s':=by
 obtain⟨v,H',os,bare,un,hok,r,q⟩:=h
 obtain⟨hh,g,d,t,os'⟩:=s'
 obtain rfl:os'=s.os:=os
 exact⟨v,H',I.call (h':=hh) (g':=g) (d':=d) (t':=t) (ch:=[]) un hok bare (λb z=>absurd z (by simp)),r,q⟩
end
noncomputable def bP(sp:Sp)(dvs:Gc V)(E:XK)(t:TA):TE:=λσ H Q=>t σ H λvs H1=>sp (vs++dvs) H1 Q E
def Binds(K:Wp)(fd:vD)(ps:Gc Str)(ds:Gc W1):Prop:=
 ∀(s:sE) (us:Gc W1),K.In s.heap->(us++ds).length=ps.length->BindsTo s fd ⟨us,[]⟩ (ps.zip (us++ds))
theorem Binds.all{K:Wp}{fd:vD}{ps:Gc Str}(h:∀us:Gc W1,us.length=ps.length->bindArgs fd ⟨us,[]⟩=pure (ps.zip us)):Binds K fd ps []:=λs us _ hl=>by
 rw[vJ]at hl⊢
 exact .of_eq (h us hl)
def Passes(CX:CXT)(X:Cx)(E:XK):Prop:=∀(pins:Gc (sF×Obj)) (σ:St) (H:Hp) (s:sE) (e:W1) (s':sE),Inv X pins σ H s->CX X.stack H s E e s'->X.xe e s'
section
variable{X:Cx}{CX:CXT}{k:Nat}{f C:sF}{fd:vD}{ps:Gc Str}{sp:Sp}{dvs:Gc V}{ds:Gc W1}{E:XK}{x m:Str}{p pos apos:Pos}{e o:sk}{es:Gc sk}{ta:TE}{t:TA}
theorem gX{pins:Gc (sF×Obj)}{σ:St}{H:Hp}{s:sE}{Q:VK}{us:Gc W1}{vs:Gc V}(F:Pb X.prog X.w X.K X.mg X.base CX k f fd ps sp)(hr:Eg k X.A)(hb:Binds X.K fd ps ds)(hd:Vals dvs ds)(hx:Passes CX X E)(I:Inv X pins σ H s)(r:Vals vs us)(h:sp (vs++dvs) H Q E):wpAny (model X.prog X.w) X.A (call (.ref f) us) (EP X pins σ Q) X.xe s:=by
 have r2:Vals (vs++dvs) (us++ds):=r.append hd
 have hl:(us++ds).length=ps.length:=by rw[<-r2.length];exact F.len _ _ _ _ h
 refine wm (yb (F.run X.A X.stack s H ⟨us,[]⟩ (us++ds) (vs++dvs) Q E hr I.dG (hb s us I.kIn hl) r2 h) λr s' hq=>?_)
 cases r with
 |error e=>exact hx pins σ H s e s' I hq
 |ok fl=>
  cases fl with
  |ret u=>exact I.after hq
  |next=>exact uW hq
  |brk=>exact uW hq
  |cont=>exact uW hq
theorem Zn(F:Pb X.prog X.w X.K X.mg X.base CX k f fd ps sp)(hr:Eg k X.A)(hg:Gl X x)(hm:X.mg x=Fk (.ref f))(hk:vG X.K (.ref f)=true)(hb:Binds X.K fd ps ds)(hd:Vals dvs ds)(hx:Passes CX X E)(ha:PA X (e::es) t)(hdb:(x==("__debug__":Str))=false:=by decide)(he:sf (e::es) X.env=(false,eval e X.env)::sf es X.env:=by rfl)(hpl:(backTo pos (sf es X.env)).any (·.1)=false:=by rfl):PE X (.Call (.Name x p) (e::es) [] pos) (bP sp dvs E t):=by
 intro pins s σ H Q I h
 refine vC (Iy I hg hm ?_ hdb)
 refine yk (h₀:=X.base) I.ok.mod.kin hk (thn (ha pos pins s σ H _ I h) λus s1 ⟨vs,H1,I1,r,q⟩=>⟨I1.kIn,?_⟩) he hpl
 exact gX F hr hb hd hx I1 r q
structure Mk(K:Wp)(C f:sF):Prop where
 makes:PySem.W.makesIn K C=true
 init:uL K (.ref C) "__init__"=Fk (Fk (.ref f))
 fn:PySem.W.isFn K (.ref f)=true
 kp:vG K (.ref C)=true
end
section
variable{X:Cx}{CX:CXT}{k:Nat}{f C:sF}{fd:vD}{ps ks:Gc Str}{sp:Sp}{E:XK}{x m:Str}{p pos apos kpos:Pos}{e o:sk}{es:Gc sk}{kws:Gc yz}{te ta:TE}{t tk:TA}{nm:sD Str}
structure pU(K:Wp)(fd:vD)(ps ks:Gc Str)(g:Gc W1->Gc W1->Gc W1)(gV:Gc V->Gc V->Gc V):Prop where
 to:∀(s:sE) (us ws:Gc W1),K.In s.heap->(g us ws).length=ps.length->BindsTo s fd ⟨us,ks.zip ws⟩ (ps.zip (g us ws))
 rel:∀{vs:Gc V} {us:Gc W1} {zs:Gc V} {ws:Gc W1},Vals vs us->Vals zs ws->Vals (gV vs zs) (g us ws)
variable{g:Gc W1->Gc W1->Gc W1}{gV:Gc V->Gc V->Gc V}
end
structure BP(N P:Gc Str)(sc:uZ):Prop where
 kind:sc.kind=.function
 co:sc.isCoroutine=false
 gen:sc.isGenerator=false
 nd:N.Nodup
 pre:N.take P.length=P
 par:∀x∈P,sc.names.lookup x=Fk .local\/sc.names.lookup x=Fk .cell
 eH:∀y∈sc.names,y.2≠.free
theorem ON{kindOf:Str->sD wH}{x:Str}:∀{binds:Gc (Str×W1)} {m:Str->sD W1},(∀v,(x,v)∉binds)->bindL kindOf binds m x=m x
 | [],_,_=>rfl
 |(n,v)::r,m,h=>by
  unfold bindL
  rw[ON λw hw=>h w (sQ _ hw)]
  split
  .have:x≠n:=by rintro rfl;exact h v sZ
   simp[this]
  .rfl
theorem O2{kindOf:Str->sD wH}{x:Str}:∀{binds:Gc (Str×W1)} {m:Str->sD W1},(∀v,(x,v)∉binds)->bindC kindOf binds m x=m x
 | [],_,_=>rfl
 |(n,v)::r,m,h=>by
  unfold bindC
  rw[O2 λw hw=>h w (sQ _ hw)]
  split
  .rfl
  .have:x≠n:=by rintro rfl;exact h v sZ
   simp[this]
theorem OS{kindOf:Str->sD wH}{x:Str}{v:W1}:∀{P:Gc Str} {vs:Gc W1} {i:Nat} {m:Str->sD W1},P.Nodup->P[i]?=Fk x->vs[i]?=Fk v->kindOf x=Fk .local->bindL kindOf (P.zip vs) m x=Fk v
 | [],_,_,_,_,h,_,_=>by simp at h
 |_::_,[],_,_,_,_,h,_=>by simp at h
 |p::P,w::vs,0,m,nd,h1,h2,hk=>by
  simp at h1 h2;subst h1;subst h2
  show bindL kindOf ((p,w)::P.zip vs) m p=_
  unfold bindL
  rw[ON λv hv=>(va.mp nd).1 (vK hv).1,tK hk]
  simp
 |p::P,w::vs,i+1,m,nd,h1,h2,hk=>by
  show bindL kindOf ((p,w)::P.zip vs) m x=_
  unfold bindL
  exact OS (i:=i) (va.mp nd).2 (by simpa using h1) (by simpa using h2) hk
theorem OZ{kindOf:Str->sD wH}{x:Str}{v:W1}:∀{P:Gc Str} {vs:Gc W1} {i:Nat} {m:Str->sD W1},P.Nodup->P[i]?=Fk x->vs[i]?=Fk v->kindOf x≠Fk .local->bindC kindOf (P.zip vs) m x=Fk v
 | [],_,_,_,_,h,_,_=>by simp at h
 |_::_,[],_,_,_,_,h,_=>by simp at h
 |p::P,w::vs,0,m,nd,h1,h2,hk=>by
  simp at h1 h2;subst h1;subst h2
  show bindC kindOf ((p,w)::P.zip vs) m p=_
  unfold bindC
  rw[O2 λv hv=>(va.mp nd).1 (vK hv).1,tN hk]
  simp
 |p::P,w::vs,i+1,m,nd,h1,h2,hk=>by
  show bindC kindOf ((p,w)::P.zip vs) m x=_
  unfold bindC
  exact OZ (i:=i) (va.mp nd).2 (by simpa using h1) (by simpa using h2) hk
noncomputable def start(N:Gc Str)(vs:Gc V):St:=vs.map Fk++sS (N.length-vs.length) none
noncomputable def IK(CX:CXT)(P:sj)(w:tu)(K:Wp)(mg:Str->sD W1)(base:tT)(N:Gc Str)(qual:Str)(scope:uZ)(f:sF)(cd:W1)(A:tM)(outer:Gc Env)(s:sE)(H:Hp)(E:XK):Cx where
 prog:=P
 w:=w
 K:=K
 mg:=mg
 base:=base
 A:=A.deeper (envOfC qual scope s.heap.objs.size f cd)
 N:=N
 s₀:=s
 H₀:=H
 env:=envOfC qual scope s.heap.objs.size f cd
 outer:=outer
 stack:=envOfC qual scope s.heap.objs.size f cd::outer
 ex:=[]
 calm:=true
 fn:=λ_=>true
 pn:=[]
 xe:=λe s'=>wpAny (model P w) (A.deeper (envOfC qual scope s.heap.objs.size f cd)) (leaving (envOfC qual scope s.heap.objs.size f cd) e) (λ_ s''=>CX outer H s E e s'') (λe' s''=>CX outer H s E e' s'') s'
theorem Km{sc:uZ}{n:Nat}{x:Str}(h:sc.names.lookup x=Fk .cell):∃c,(cellsFrom n sc.names []).lookup x=Fk c:=by
 have q:=xg sc.names n [] (.inl h)
 exact Option.isSome_iff_exists.mp q
theorem O5{CX:CXT}{P:sj}{w:tu}{K:Wp}{mg:Str->sD W1}{base:tT}{N ps:Gc Str}{qual:Str}{scope:uZ}{f:sF}{cd:W1}{A:tM}{outer:Gc Env}{s s1:sE}{H:Hp}{E:XK}{us:Gc W1}{vs:Gc V}(S:BP N ps scope)(hd:A.handled=none)(e0:YW P w K mg base A outer s H)(hl:vs.length=ps.length)(r:Vals vs us)(x:InCallC s s.heap.objs.size (bindL (envOfC qual scope s.heap.objs.size f cd).kindOf (ps.zip us) λ_=>none) (cellsFrom (s.heap.objs.size+1) scope.names []) (bindC (envOfC qual scope s.heap.objs.size f cd).kindOf (ps.zip us) λ_=>none) s1):Inv (IK CX P w K mg base N qual scope f cd A outer s H E) [] (start N vs) H s1:=by
 have hpl:ps.length<=N.length:=by have:=congrArg vz S.pre;rw[yC]at this;lia
 obtain⟨h1,tk,rfl,hk⟩:=x.done
 have noA:∀b:sF,b∉(IK CX P w K mg base N qual scope f cd A outer s H E).ex:=λb z=>absurd (show b∈([]:Gc sF)from z) (by simp)
 refine⟨⟨e0.mod,S.kind,rfl,rfl,sM _,λy z c h1 h2=>?_,λy hy=>?_,λy c _ h=>?_,λ_=>hd,z8 e0.frames,.inr ⟨rfl,rfl⟩,λb z=>absurd z (noA b),e0.bs,e0.bsz,λb _ _=>noA b,λb z=>absurd z (noA b),e0.QM,e0.frf⟩,
  rfl,e0.bare,Un.kept hk,⟨_,x.toInCall.ns,λi y v h1 h2 h3=>?_⟩,λy c h=>⟨_,x.cell y c h⟩,e0.hok.fresh (sM _),λy c h=>?_,λp hp=>absurd (show p∈([]:Gc (sF×Obj))from hp) (by simp),e0.hok.kept hk,?_⟩
 .exact name_of_addr x.apart (uF h1) (uF h2)
 .have hy:scope.names.lookup y=Fk .cell\/scope.names.lookup y=Fk .free:=hy
  rcases hy with hy|hy
  .exact Km hy
  .exact absurd rfl (S.eH _ (uF hy))
 .exact xX (x.above y c (uF h))
 .have hi:i<vs.length:=by
   unfold start at h2
   by_cases hi:i<vs.length
   .exact hi
   .rw[uB (by simpa using hi)]at h2
    rw[xV]at h2
    split at h2<;>cases h2
  have ha:vs[i]?=Fk v:=by
   unfold start at h2
   rw[sH (by simpa using hi),sP]at h2
   cases e:vs[i]? with
   |none=>rw[e]at h2;cases h2
   |some a=>rw[e]at h2;cases h2;rfl
  obtain⟨u,hu,rv⟩:=r.get ha
  have hp:ps[i]?=Fk y:=by
   rw[<-S.pre,y9 (by lia)];exact h1
  have ndP:ps.Nodup:=by rw[<-S.pre];exact S.nd.sublist (List.take_sublist _ _)
  refine⟨u,rv,?_⟩
  rcases S.par y (se hp)with k|k
  .exact .inl ⟨k,OS ndP hp hu k⟩
  .obtain⟨c,e⟩:=Km (n:=s.heap.objs.size+1) k
   refine .inr ⟨.inl k,c,e,?_⟩
   have q:=x.cell y c e
   rw[OZ ndP hp hu (by show scope.names.lookup y≠_;rw[k];decide)]at q
   exact q
 .exact e0.hok.fresh (xX (x.above y c (uF h)))
 .unfold start
  show _=N.length
  rw[uN,tq,List.length_replicate]
  lia
theorem Z7{CX:CXT}{P:sj}{w:tu}{K:Wp}{mg:Str->sD W1}{base:tT}{k:Nat}{f:sF}{name qual:Str}{params:yg}{body:Gc tP}{scope:uZ}{dV kV doc pm cdv ct oc:W1}{an od:sD sF}{osl:uI (sD W1)}{N ps:Gc Str}{sp:Sp}(lk:K.lookup f=Fk ⟨oc,od,.func (v3 name qual params body scope dV kV doc pm an cdv ct),osl⟩)(hcd:xh K cdv qual=true)(S:BP N ps scope)(len:∀vs H Q E,sp vs H Q E->vs.length=ps.length)(hbody:∀(A:tM) (outer:Gc Env) (s:sE) (H:Hp) (vs:Gc V) (Q:VK) (E:XK),Eg k (A.deeper (envOfC qual scope s.heap.objs.size f cdv))->sp vs H Q E->∃t,PSs (IK CX P w K mg base N qual scope f cdv A outer s H E) body t/\t {nx:=λ_ H'=>Q .non H',rt:=Q} (start N vs) H):Pb P w K mg base CX (k+1) f (v3 name qual params body scope dV kV doc pm an cdv ct) ps sp:=by
 refine⟨len,λA outer s H args us vs Q E hr e0 hb r hsp=>?_⟩
 have hl:=len _ _ _ _ hsp
 have KX:K.In s.heap:=e0.mod.kin.keeps λb o e=>(e0.bs b o e).1
 have lim:s.heap.NoLimit:=e0.mod.nolimit.keeps λb o e=>(e0.bs b o e).1
 have hkind:∀y∈ps.zip us,scope.names.lookup y.1=Fk .local\/(scope.names.lookup y.1=Fk .cell/\((cellsFrom (s.heap.objs.size+1) scope.names []).lookup y.1).isSome=true):=λ⟨n,v⟩ hy=>by
  rcases S.par n (vK hy).1 with q|q
  .exact .inl q
  .exact .inr ⟨q,xg _ _ _ (.inl q)⟩
 refine zv hr.depth (KX _ _ lk) rfl S.co S.gen rfl (AAl KX hcd) (hb _ _ _ _ ?_)
 refine yl S.kind hkind λenv he s1 x=>?_
 subst he
 refine⟨lim.keeps x.toInCall.keep,codeAny_func ?_⟩
 obtain⟨t,ht,hq⟩:=hbody A outer s H vs Q E (hr.deeper _) hsp
 have I:Inv (IK CX P w K mg base N qual scope f cdv A outer s H E) [] (start N vs) H s1:=O5 S hr.hd e0 hl r x
 refine uh (ht [] s1 (start N vs) H _ I hq) (λfl s' hs=>?_) λe s' hs=>hs
 have fin:∀{σ':St} {H':Hp} {v:V} {u:W1},Inv (IK CX P w K mg base N qual scope f cdv A outer s H E) [] σ' H' s'->RelV v u->Q v H'->CE outer P w H s Q u s':=
  λ{σ' H' v u} J rv q=>⟨v,H',J.os,J.bare,J.base,J.hok,rv,q⟩
 cases fl with
 |ret u=>
  obtain⟨v,σ',H',J,rv,q⟩:=hs
  exact fin J rv q
 |next=>
  obtain⟨σ',H',J,q⟩:=hs
  exact fin (v:=V.non) (u:=tZ) J rfl q
 |brk=>
  obtain⟨_,_,_,q⟩:=hs
  exact uW q
 |cont=>
  obtain⟨_,_,_,q⟩:=hs
  exact uW q
end L2
namespace L2
open PySem PySem.Spec PyProof.Rows
section
variable{X:Cx}{x:Str}{p pos:Pos}{e:sk}{es:Gc sk}{t:TA}{id T:ug}{r:Gc V->Hp->VK->Prop}
noncomputable def tCB(r:Gc V->Hp->VK->Prop)(t:TA):TE:=λσ H Q=>t σ H λvs H1=>r vs H1 Q
theorem Xe(hc:El X (.builtin id) r)(hg:Gl X x)(hm:X.mg x=none)(hv:bootBuiltins x=Fk (.builtin id))(ha:PA X (e::es) t)(hn:x≠ "__name__":=by decide)(hdb:(x==("__debug__":Str))=false:=by decide)(he:sf (e::es) X.env=(false,eval e X.env)::sf es X.env:=by rfl)(hpl:(backTo pos (sf es X.env)).any (·.1)=false:=by rfl):PE X (.Call (.Name x p) (e::es) [] pos) (tCB r t):=by
 intro pins s σ H Q I h
 refine vC (Lg I hg hm hv ?_ hn hdb)
 exact PyProof.Rows.callWith_builtin1 (thn (ha pos pins s σ H _ I h) λus s1 ⟨vs,H1,I1,r1,q1⟩=>hc pins s1 σ H1 vs us Q I1 r1 q1) he hpl
theorem Ur(hc:El X (.type T) r)(hg:Gl X x)(hm:X.mg x=none)(hv:bootBuiltins x=Fk (.type T))(ha:PA X (e::es) t)(hn:x≠ "__name__":=by decide)(hdb:(x==("__debug__":Str))=false:=by decide)(he:sf (e::es) X.env=(false,eval e X.env)::sf es X.env:=by rfl)(hpl:(backTo pos (sf es X.env)).any (·.1)=false:=by rfl):PE X (.Call (.Name x p) (e::es) [] pos) (tCB r t):=by
 intro pins s σ H Q I h
 refine vC (Lg I hg hm hv ?_ hn hdb)
 exact wZ (thn (ha pos pins s σ H _ I h) λus s1 ⟨vs,H1,I1,r1,q1⟩=>hc pins s1 σ H1 vs us Q I1 r1 q1) he hpl
end
end L2
namespace HT
open PySem PyProof.Rows
noncomputable def lexLt:Gc Int->Gc Int->tV
 | [],[]=>false
 | [],_::_=>true
 |_::_,[]=>false
 |x::xs,y::ys=>if x=y then lexLt xs ys else decide (x<y)
theorem Rr(x y:Int)(xs ys:Gc Int):lexLt (x::xs) (y::ys)=if x=y then lexLt xs ys else decide (x<y):=rfl
theorem NG:lexLt [] []=false:=rfl
theorem L9(y:Int)(ys:Gc Int):lexLt [] (y::ys)=true:=rfl
theorem MH(x:Int)(xs:Gc Int):lexLt (x::xs) []=false:=rfl
theorem Wt(A:tM)(s:sE)(a:Int)(t:Tok)(c:Int)(u:Tok):∃e,SeqAt.EqAt A s (.int a t) (.int c u) e/\(e=true↔a=c):=
 ⟨(a==c),AAm a t c u,by simp⟩
theorem XM(A:tM)(s:sE)(a:Int)(t:Tok)(c:Int)(u:Tok)(prog:sj)(w:tu)(E:W1->sE->Prop)(Q:W1->sE->Prop)(h:Q (.bool (decide (a<c))) s):wpAny (model prog w) A (richCompare .Lt (.int a t) (.int c u)) Q E s:=
 (PyProof.Rows.lt_int h:wpAny (model prog w) A (compareOp .Lt (.int a t) (.int c u)) Q E s)
section
open PySem.SeqAt
open PySem.AutoSeq1 (wpAny_loadPart')
open PySem.MeetsSeq PySem.MeetsSeq2 PySem.MeetsSeq3
theorem NT(l b:sF)(items items2:uI W1)(n n2:Nat)(dd dd2:sD sF)(sl sl2:uI (sD W1))(ns ms:Gc Int)(hi:uz items.toList ns)(hj:uz items2.toList ms):Meets (xO.«tuple.__lt__» ⟨[.ref l,.ref b],[]⟩) (λ_ R s=>s.heap.get? l=Fk {cls:=.type "tuple",dict:=dd,data:=.seq items n,slots:=sl}/\s.heap.get? b=Fk {cls:=.type "tuple",dict:=dd2,data:=.seq items2 n2,slots:=sl2}/\R (.ok (.ret (.bool (lexLt ns ms)))) s):=
 .of_wp λprog w A R s h=>by
  obtain⟨hp,g,d,tk,os⟩:=s;obtain⟨hl,hb,h⟩:=h
  have f2:=zA
  have z1:items.size=ns.length:=by rw[<-hi.length];simp
  have z2:items2.size=ms.length:=by rw[<-hj.length];simp
  wp_walk using wpAny_loadPart' hl,wpAny_loadPart' hb,wpAny_forIn_list _ (λrest b s'=>b.1=none/\s'=⟨hp,g,d,tk,os⟩/\∃(vs ws:Gc W1) (ns' ms':Gc Int),rest=vs.zip ws/\
   uz vs ns'/\uz ws ms'/\ns'.length+items2.size=ms'.length+items.size/\R (.ok (.ret (.bool (lexLt ns' ms')))) ⟨hp,g,d,tk,os⟩) _
  case turn=>
   rintro ⟨y,x⟩ rest b s' ⟨hb',rfl,vs,ws,ns',ms',hz,hvi,hwi,hlen,hR⟩
   cases hvi with
   |nil=>rw[List.zip_nil_left]at hz;cases hz
   |cons a t hvi'=>
    cases hwi with
    |nil=>rw[List.zip_nil_right]at hz;cases hz
    |cons c u hwi'=>
     rw[ym]at hz
     injection hz with hyx hrest
     injection hyx with hy hx
     subst hy hx
     rw[Rr]at hR
     simp only[tY]at hlen
     obtain⟨e,he,hiff⟩:=Wt A.in1 ⟨hp,g,d,tk,os⟩ a t c u
     refine rz (he prog w _ _ ?_)
     cases e with
     |true=>
      rw[tK (hiff.mp rfl)]at hR
      wp_walk
      exact⟨rfl,rfl,_,_,_,_,hrest,hvi',hwi',by lia,hR⟩
     |false=>
      rw[tN (λq=>absurd (hiff.mpr q) uE)]at hR
      have hri:=XM A.in1 ⟨hp,g,d,tk,os⟩ a t c u prog w
      wp_walk using hri
      exact⟨_,rfl,by simpa using hR⟩
  case fin=>
   rintro ⟨b1,b2⟩ s' ⟨hb',rfl,vs,ws,ns',ms',hz,hvi,hwi,hlen,hR⟩
   simp only at hb'
   subst hb'
   have hv:lexLt ns' ms'=decide (items.size<items2.size):=by
    cases hvi with
    |nil=>
     cases hwi with
     |nil=>
      simp only[vA]at hlen
      rw[NG]
      exact(vZ (by lia)).symm
     |cons c u hw=>
      simp only[vA,tY]at hlen
      rw[L9]
      exact(vV (by lia)).symm
    |cons a t hv=>
     cases hwi with
     |nil=>
      simp only[vA,tY]at hlen
      rw[MH]
      exact(vZ (by lia)).symm
     |cons c u hw=>
      rw[ym]at hz
      cases hz
   rw[hv]at hR
   wp_walk
   exact⟨_,rfl,by simpa[Builtin.Tuple.tupleCompareSizes]using hR⟩
  case h=>
   exact⟨rfl,rfl,items.toList,items2.toList,ns,ms,rfl,hi,hj,by lia,h⟩
end
section
variable{prog:sj}{w:tu}{A:tM}{E:W1->sE->Prop}{s:sE}
theorem RU{l b:sF}{items items2:uI W1}{ns ms:Gc Int}{Q:W1->sE->Prop}(hl:zS s.heap l items)(hb:zS s.heap b items2)(hi:uz items.toList ns)(hj:uz items2.toList ms)(hu:A.units<cLine)(h:Q (.bool (lexLt ns ms)) s):wpAny (model prog w) A (compareOp .Lt (.ref l) (.ref b)) Q E s:=by
 obtain⟨⟨cls,dd,data,sl⟩,ho,hc,n,hd⟩:=id hl
 obtain⟨⟨cls2,dd2,data2,sl2⟩,ho2,hc2,n2,hd2⟩:=id hb
 simp only at hc hd hc2 hd2
 subst hc hd hc2 hd2
 exact richCompare_meets_room (op:=.Lt) ⟨_,ho,rfl⟩ ⟨_,ho2,rfl⟩ PySem.F.slot_tuple_lt PySem.F.entry_tuple_lt (PySem.F.args_tuple_lt_2 _ _) (NT l b items items2 n n2 dd dd2 sl sl2 ns ms hi hj)
  ⟨ho,ho2,show yh (lexLt ns ms)≠z9/\Q (.bool (lexLt ns ms)) s from⟨(λx=>nomatch x),h⟩⟩ hu
theorem bz{t b:sF}{vs ws:Gc W1}{Q:W1->sE->Prop}(ht:zS s.heap t vs.toArray)(hb:zS s.heap b ws.toArray)(hv:vs≠[])(h1:ws=[]->Q (.ref t) s)(h2:ws≠[]->Q (.ref s.heap.objs.size) {s with heap:=s.heap.push {cls:=.type "tuple",data:=.seq (vs++ws).toArray}})(hsz:vs.length+ws.length<=sizeLine):wpAny (model prog w) A (binaryOp .Add (.ref t) (.ref b)) Q E s:=by
 obtain⟨⟨cls,dd,data,sl⟩,ho,hc,n,hd⟩:=id ht
 obtain⟨⟨cls2,dd2,data2,sl2⟩,ho2,hc2,n2,hd2⟩:=id hb
 simp only at hc hd hc2 hd2
 subst hc hd hc2 hd2
 have e:vs.toArray++ws.toArray=(vs++ws).toArray:=by simp
 by_cases hw:ws=[]
 .exact concat_meets ⟨_,ho,rfl⟩ ⟨_,ho2,rfl⟩ zJ AAe xj xW (xH _ _)
   (tuple_addW1 t b vs.toArray ws.toArray n n2 dd dd2 sl sl2 (by simpa using hv) (by simp[hw])) ⟨ho,ho2,h1 hw⟩
 .refine concat_meets ⟨_,ho,rfl⟩ ⟨_,ho2,rfl⟩ zJ AAe xj xW (xH _ _)
   (tuple_addW2 t b vs.toArray ws.toArray n n2 dd dd2 sl sl2 (by simpa using hv) (by simpa using hw) (by rw[sY,sY];exact hsz)) ⟨ho,ho2,?_⟩
  rw[e]
  exact h2 hw
noncomputable def sIx(n d:Nat):sD Int->Nat
 |none=>d
 |some v=>if v<0 then(v+(n:Int)).toNat else min v.toNat n
theorem QC(n d k:Nat):sIx n d (Fk (k:Int))=min k n:=by
 show(if(k:Int)<0 then((k:Int)+(n:Int)).toNat else min (k:Int).toNat n)=min k n
 rw[tN (by lia),vX]
theorem gW(n d:Nat)(hd:d<=n)(o:sD Int):sIx n d o<=n:=by
 cases o with
 |none=>exact hd
 |some v=>
  show(if v<0 then(v+(n:Int)).toNat else min v.toNat n)<=n
  by_cases hv:v<0
  .rw[tK hv];lia
  .rw[tN hv];exact Nat.min_le_right _ _
theorem VZ(v:Int)(n d:Nat):(if v<0 then max (v+(n:Int)) 0 else min v (n:Int))=((sIx n d (Fk v):Nat):Int):=by
 show(if v<0 then max (v+(n:Int)) 0 else min v (n:Int))=(((if v<0 then(v+(n:Int)).toNat else min v.toNat n):Nat):Int)
 by_cases hv:v<0
 .simp only[tK hv];lia
 .simp only[tN hv];lia
theorem R1(lo hi:sD Int)(n:Nat):xA lo hi 1 (n:Int)=(((sIx n 0 lo:Nat):Int),((sIx n n hi:Nat):Int)):=by
 have h1:¬((1:Int)<0):=by lia
 unfold xA
 simp only[h1,xk]
 refine Prod.ext ?_ ?_
 .cases lo with
  |none=>rfl
  |some v=>exact VZ v n 0
 .cases hi with
  |none=>rfl
  |some v=>exact VZ v n n
theorem SJ(i j:Nat):vv (i:Int) (j:Int) 1=j-i:=by
 unfold vv
 have h1:(1:Int)>0:=by lia
 simp only[h1,xP,Int.ediv_one]
 split<;>lia
theorem Mj{v:W1}{o:sD Int}{Q:sD Int->sE->Prop}(p:zT v o)(h:Q o s):wpAny (model prog w) A (Builtin.Slice.slicePartIndex v) Q E s:=by
 cases p with
 |none=>exact slicePart_none h
 |int i t=>exact slicePart_int h
theorem G9{sl:sF}{vl vu:W1}{lo hi:sD Int}{n:Nat}{Q:Int×Int×Nat->sE->Prop}(hs:s.heap.IsSliceOf sl vl vu .none)(pl:zT vl lo)(pu:zT vu hi)(h:Q (((sIx n 0 lo:Nat):Int),1,sIx n n hi-sIx n 0 lo) s):wpAny (model prog w) A (yn (.ref sl) (pure (n:Int))) Q E s:=by
 obtain⟨os,hos,hcs,hds⟩:=id hs
 unfold yn Builtin.Slice.sliceFields
 refine rz (rz (uw hos hds (x:=vl) rfl (rz (uw hos hds (x:=vu) rfl (rz (uw hos hds (x:=.none) rfl (sR ?_)))))))
 refine rz (slicePart_none ?_)
 show wpAny _ _ (if((1:Int)==0)=true then _ else _) _ _ s
 rw[tN (by decide)]
 refine rz (Mj pl (rz (Mj pu (rz (sR ?_)))))
 show wpAny _ _ (match xA lo hi 1 (n:Int)with|(lo,hi)=>pure (lo,(1:Int),vv lo hi 1)) _ _ s
 rw[R1 lo hi n]
 show wpAny _ _ (pure (((sIx n 0 lo:Nat):Int),(1:Int),vv ((sIx n 0 lo:Nat):Int) ((sIx n n hi:Nat):Int) 1)) _ _ s
 rw[SJ]
 exact sR h
theorem YC(xs:uI W1)(i k:Nat):((tL k).filterMap λ(m:Nat)=>xs[((i:Int)+(m:Int)*1).toNat]?).toArray=((xs.toList.drop i).take k).toArray:=by
 have e:(λ(m:Nat)=>xs[((i:Int)+(m:Int)*1).toNat]?)=λm=>xs[i+m]?:=by
  funext m
  have:((i:Int)+(m:Int)*1).toNat=i+m:=by lia
  rw[this]
 rw[e]
 have:=pick_run xs i k
 rw[List.filterMap_map]at this
 have e2:((λx=>xs[x]?)∘λx=>i+x)=λm=>xs[i+m]?:=rfl
 rw[e2]at this
 rw[this]
theorem Jk{t sl:sF}{items:uI W1}{vl vu:W1}{lo hi:sD Int}{Q:W1->sE->Prop}(ht:zS s.heap t items)(hs:s.heap.IsSliceOf sl vl vu .none)(pl:zT vl lo)(pu:zT vu hi)(hw:¬(sIx items.size 0 lo=0/\sIx items.size items.size hi=items.size))(h:Q (.ref s.heap.objs.size) {s with heap:=s.heap.push {cls:=.type "tuple",data:=.seq ((items.toList.drop (sIx items.size 0 lo)).take (sIx items.size items.size hi-sIx items.size 0 lo)).toArray}})(hsz:items.size<=sizeLine):wpAny (model prog w) A (getItem (.ref t) (.ref sl)) Q E s:=by
 have htake:sizeOk (.seq ((items.toList.drop (sIx items.size 0 lo)).take (sIx items.size items.size hi-sIx items.size 0 lo)).toArray):=by
  show((items.toList.drop (sIx items.size 0 lo)).take (sIx items.size items.size hi-sIx items.size 0 lo)).toArray.size<=sizeLine
  rw[sY,yC,yD,yZ]
  lia
 have hj:sIx items.size items.size hi<=items.size:=gW _ _ (sM _) hi
 obtain⟨os,hos,hcs,hds⟩:=id hs
 have hTs:s.TypeIs (.ref sl) "slice":=⟨os,hos,hcs⟩
 unfold getItem
 try with_reducible refine ua ?_
 first|refine rz (sR ?_)|skip
 refine rz (wpAny_sequenceKey ht.typeIs (by decide) ?_)
 refine rz (vE (name:=ur "__getitem__") ht.typeIs uP
  (vN uP ht.typeIs AAT ?_ (AAn _ _)))
 show wpAny _ _ (yo (.ref t) >>= _) _ _ s
 refine rz (tupleItemsOf_ ht ?_)
 refine rz (zU hTs ?_)
 rw[tK (by decide)]
 refine rz (G9 hs pl pu ?_)
 have hno:¬((((sIx items.size 0 lo:Nat):Int)==0 && (1:Int)==1 && (sIx items.size items.size hi-sIx items.size 0 lo)==items.size)=true):=by
  intro q
  rw[sU,sU]at q
  have q1:((sIx items.size 0 lo:Nat):Int)=0:=eq_of_beq q.1.1
  have q2:sIx items.size items.size hi-sIx items.size 0 lo=items.size:=eq_of_beq q.2
  exact hw ⟨by lia,by lia⟩
 show wpAny _ _ (if(((sIx items.size 0 lo:Nat):Int)==0 && (1:Int)==1 && (sIx items.size items.size hi-sIx items.size 0 lo)==items.size)=true then _ else _) _ _ s
 rw[tN hno,YC]
 first
  |exact rz (m:=v8 _) (vF (sR ⟨_,rfl,sR h⟩) htake)
  |exact rz (m:=v8 _) (vF (rz (sR (sR ⟨_,rfl,sR h⟩))) htake)
  |exact rz (rz (m:=v8 _) (vF (sR (sR ⟨_,rfl,sR h⟩)) htake))
  |exact rz (rz (m:=v8 _) (vF (sR ⟨_,rfl,sR h⟩) htake))
end
end HT
namespace L2
open PySem PySem.Spec PyProof.Rows
abbrev TO:=St->Hp->(sD Int->Hp->Prop)->Prop
def PO(X:Cx)(e:sD sk)(t:TO):Prop:=
 ∀(pins:Gc (sF×Obj)) (s:sE) (σ:St) (H:Hp) (Q:sD Int->Hp->Prop),Inv X pins σ H s->t σ H Q->
  wpAny (model X.prog X.w) X.A (evalPart e X.env) (λu s'=>∃o H',Inv X pins σ H' s'/\zT u o/\Q o H') X.xe s
noncomputable def Zk:TO:=λ_ H Q=>Q none H
noncomputable def mB(t:TE):TO:=λσ H Q=>t σ H λx H1=>∃i,x=.int i/\Q (Fk i) H1
theorem intsAre_of{ns:Gc Int}:∀{us:Gc W1},Vals (ns.map V.int) us->uz us ns:=by
 induction ns with
 |nil=>intro us r;rw[vB]at r;cases r;exact .nil
 |cons n ns ih=>
  intro us r
  rw[su]at r
  cases r with
  |cons r1 r2=>
   obtain⟨t,e⟩:=r1
   subst e
   exact .cons n t (ih r2)
section
variable{X:Cx}{e:sk}{te:TE}{lo hi:sD sk}{tl th:TO}{pos p2:Pos}
theorem Ti:PO X none Zk:=by
 intro pins s σ H Q I h
 rw[evalPart_none]
 exact sR ⟨none,H,I,.none,h⟩
theorem NF(h:PE X e te):PO X (Fk e) (mB te):=by
 intro pins s σ H Q I hw
 rw[evalPart_some]
 refine thn (h pins s σ H _ I hw) λu s1 ⟨x,H1,I1,r1,q1⟩=>?_
 obtain⟨i,rfl,q⟩:=q1
 obtain⟨t,rfl⟩:=r1
 exact⟨Fk i,H1,I1,.int i t,q⟩
def SlR(X:Cx)(r:V->sD Int->sD Int->Hp->VK->Prop):Prop:=
 ∀(pins:Gc (sF×Obj)) (s:sE) (σ:St) (H:Hp) (x:V) (v vl vu:W1) (lo hi:sD Int) (sl:sF) (Q:VK),Inv X pins σ H s->RelV x v->s.heap.IsSliceOf sl vl vu .none->zT vl lo->zT vu hi->r x lo hi H Q->
  ∃T id,typeLookup (.type T) "__getitem__"=pure (Fk (.builtin id))/\s.TypeIs v T/\wpAny (model X.prog X.w) X.A (getItem v (.ref sl)) (EP X pins σ Q) X.xe s
noncomputable def tSl(r:V->sD Int->sD Int->Hp->VK->Prop)(te:TE)(tl th:TO):TE:=λσ H Q=>te σ H λx H1=>tl σ H1 λl H2=>th σ H2 λu H3=>r x l u H3 Q
theorem Nv{r:V->sD Int->sD Int->Hp->VK->Prop}(hr:SlR X r)(he:PE X e te)(hl:PO X lo tl)(hu:PO X hi th):PE X (.Subscript e (.Slice lo hi none p2) pos) (tSl r te tl th):=by
 intro pins s σ H Q I h
 refine Subscript_ (thn (he pins s σ H _ I h) λv s1 ⟨x,H1,I1,r1,q1⟩=>?_)
 refine wpAny_Slice (thn (hl pins s1 σ H1 _ I1 q1) λvl s2 ⟨l,H2,I2,pl,q2⟩=>thn (hu pins s2 σ H2 _ I2 q2) λvu s3 ⟨u,H3,I3,pu,q3⟩=>?_)
 rw[evalPart_none]
 refine sR ?_
 have I4:Inv X pins σ H3 {s3 with heap:=s3.heap.push {cls:=.type "slice",data:=.fields #[vl,vu,.none]}}:=I3.kept (t':=s3.toks) λb ob q=>sC _ q
 obtain⟨T,id,hT,ht,hg⟩:=hr pins {s3 with heap:=s3.heap.push {cls:=.type "slice",data:=.fields #[vl,vu,.none]}} σ H3 x v vl vu l u s3.heap.objs.size Q I4 r1 (Heap.IsSliceOf.new ..) pl pu q3
 show wpAny (model X.prog X.w) X.A (subscriptTail e (.Slice lo hi none p2) v (.ref s3.heap.objs.size)) (EP X pins σ Q) X.xe {s3 with heap:=s3.heap.push {cls:=.type "slice",data:=.fields #[vl,vu,.none]}}
 exact tail_any (ops:=[.ref s3.heap.objs.size,v]) ht hT hg (by with_unfolding_all rfl)
noncomputable def Yd(xs:Gc V)(lo hi:sD Int):Gc V:=(xs.drop (HT.sIx xs.length 0 lo)).take (HT.sIx xs.length xs.length hi-HT.sIx xs.length 0 lo)
theorem Lm(xs:Gc V)(lo hi:sD Int):(Yd xs lo hi).length<=xs.length:=by
 unfold Yd
 rw[yC,yD]
 lia
def qw(K:Wp):V->sD Int->sD Int->Hp->VK->Prop:=λx lo hi H Q=>∃a xs,x=.ref a/\SqT K H a xs/\
 ¬(HT.sIx xs.length 0 lo=0/\HT.sIx xs.length xs.length hi=xs.length)/\∀p,H p=none->Q (.ref p) (upd H p (.tup (Yd xs lo hi)))
theorem gi:SlR X (qw X.K):=by
 intro pins s σ H x v vl vu lo hi sl Q I rx hs pl pu h
 obtain⟨a,xs,rfl,hx,hw,q⟩:=h
 cases rx
 obtain⟨its,r,ht,hz⟩:=I.tuple hx
 have hlen:its.toArray.size=xs.length:=by rw[sY];exact r.length.symm
 refine⟨"tuple",_,uP.lookup,ht.typeIs,?_⟩
 refine HT.Jk ht hs pl pu (by rw[hlen];exact hw) ?_ (by rw[hlen];exact hz)
 rw[hlen]
 refine⟨.ref s.heap.objs.size,_,I.laid (t':=s.toks) (o:=.tup (Yd xs lo hi)) (λb ob q=>sC _ q) (sM _) ?_,rfl,q _ (I.hok.fresh (sM _))⟩
 exact⟨sL (Lm xs lo hi) hz,_,(r.drop (HT.sIx xs.length 0 lo)).take (HT.sIx xs.length xs.length hi-HT.sIx xs.length 0 lo),xE _ _⟩
noncomputable def k8(K:Wp):R2:=λx y H Q=>∃a b xs ys,x=.ref a/\y=.ref b/\SqT K H a xs/\SqT K H b ys/\xs≠[]/\xs.length+ys.length<=sizeLine/\
 (ys=[]->Q (.ref a) H)/\(ys≠[]->∀p,H p=none->Q (.ref p) (upd H p (.tup (xs++ys))))
theorem Vals.NJ{xs:Gc V}{us:Gc W1}(r:Vals xs us):us=[]↔xs=[]:=by
 cases r with
 |nil=>simp
 |cons _ _=>simp
theorem bH:OpR X (binaryOp .Add) (k8 X.K):=by
 intro pins s σ H x y v u Q I rx ry h
 obtain⟨a,b,xs,ys,rfl,rfl,ha,hb,hx,hz,q1,q2⟩:=h
 cases rx
 cases ry
 obtain⟨its,r1,p1,_⟩:=I.tuple ha
 obtain⟨its2,r2,p2,_⟩:=I.tuple hb
 refine HT.bz p1 p2 (λz=>hx (r1.NJ.mp z)) (λz=>⟨.ref a,H,I,rfl,q1 (r2.NJ.mp z)⟩) (λz=>?_) (by rw[<-r1.length,<-r2.length];exact hz)
 refine⟨.ref s.heap.objs.size,_,I.laid (t':=s.toks) (o:=.tup (xs++ys)) (λb ob q=>sC _ q) (sM _) ?_,rfl,q2 (λw=>z (r2.NJ.mpr w)) _ (I.hok.fresh (sM _))⟩
 exact⟨by rw[uN];exact hz,_,r1.append r2,xE _ _⟩
end
end L2
namespace L2
open PySem PySem.Spec PyProof.Rows
noncomputable def ixN(n:Nat)(i:Int):sD Nat:=if 0<=i then(if i<n then Fk i.toNat else none)else if-(n:Int)<=i then Fk (i+n).toNat else none
noncomputable def atI{α:Type}(xs:Gc α)(i:Int):sD α:=(ixN xs.length i).bind λj=>xs[j]?
theorem Tx{n:Nat}{i:Int}{j:Nat}(h:ixN n i=Fk j):seqIndex? i n=Fk j/\j<n/\ -(n:Int)<=i/\i<n:=by
 unfold ixN at h
 by_cases h0:0<=i
 .rw[tK h0]at h
  by_cases h1:i<n
  .rw[tK h1]at h
   have e:i.toNat=j:=uq h
   exact⟨by rw[seqIndex_of h0 h1,e],by lia,by lia,h1⟩
  .rw[tN h1]at h;cases h
 .rw[tN h0]at h
  by_cases h1: -(n:Int)<=i
  .rw[tK h1]at h
   have e:(i+n).toNat=j:=uq h
   exact⟨by rw[seqIndex_neg (by lia) h1,e],by lia,h1,by lia⟩
  .rw[tN h1]at h;cases h
theorem Tp{α:Type}{xs:Gc α}{i:Int}{v:α}(h:atI xs i=Fk v):∃j,seqIndex? i xs.length=Fk j/\xs[j]?=Fk v/\j<xs.length/\ -(xs.length:Int)<=i/\i<xs.length:=by
 unfold atI at h
 cases e:ixN xs.length i with
 |none=>rw[e]at h;cases h
 |some j=>
  rw[e]at h
  obtain⟨h1,h2,h3,h4⟩:=Tx e
  exact⟨j,h1,h,h2,h3,h4⟩
theorem aF{α:Type}{xs:Gc α}{j:Nat}{v:α}(h:xs[j]?=Fk v):atI xs (j:Int)=Fk v:=by
 have hj:j<xs.length:=(sO.mp h).1
 have e:ixN xs.length (j:Int)=Fk j:=by
  unfold ixN
  rw[tK (by lia),tK (by lia)];simp
 unfold atI;rw[e];exact h
theorem Mu{α:Type}(xs:Gc α)(v:α):atI (xs++[v]) (-1)=Fk v:=by
 have hl:(xs++[v]).length=xs.length+1:=by simp
 have e:ixN (xs++[v]).length (-1)=Fk xs.length:=by
  unfold ixN
  rw[hl,tN (by decide),tK (by lia)]
  congr 1
  lia
 unfold atI
 rw[e]
 show(xs++[v])[xs.length]?=Fk v
 simp
def Vk(b:sk):Prop:=∀o i,subscripted b false o i=operate [o,i] (getItem o i)
def IxR(X:Cx)(r:R2):Prop:=
 ∀(value slice:sk) (pins:Gc (sF×Obj)) (s:sE) (σ:St) (H:Hp) (x y:V) (v u:W1) (Q:VK),Inv X pins σ H s->RelV x v->RelV y u->r x y H Q->
  subscripted slice false v u=operate [v,u] (getItem v u)->wpAny (model X.prog X.w) X.A (subscriptTail value slice v u) (EP X pins σ Q) X.xe s
def MtR(X:Cx)(id:ug)(r:V->Gc V->Hp->VK->Prop):Prop:=
 ∀(pins:Gc (sF×Obj)) (s:sE) (σ:St) (H:Hp) (x:V) (xs:Gc V) (v:W1) (us:Gc W1) (Q:VK),Inv X pins σ H s->RelV x v->Vals xs us->r x xs H Q->
  wpAny (model X.prog X.w) X.A (call (.builtin id) (v::us)) (EP X pins σ Q) X.xe s
section
variable{X:Cx}{a b:sk}{ta tb:TE}{pos:Pos}
theorem mn{r:R2}(hr:IxR X r)(ha:PE X a ta)(hb:PE X b tb)(hs:Vk b):PE X (.Subscript a b pos) (tOp r ta tb):=by
 intro pins s σ H Q I h
 exact Subscript_ (lK ha hb I h λv u s2 x y H2 I2 rx ry q=>hr a b pins s2 σ H2 x y v u Q I2 rx ry q (hs _ _))
noncomputable def qt(K:Wp):R2:=λx y H Q=>∃p xs i v,x=.ref p/\y=.int i/\SqL K H p xs/\atI xs i=Fk v/\Q v H
noncomputable def qo(K:Wp):R2:=λx y H Q=>∃p xs i v,x=.ref p/\y=.int i/\SqT K H p xs/\atI xs i=Fk v/\Q v H
theorem bY:IxR X (qt X.K):=by
 intro value slice pins s σ H x y v u Q I rx ry h hs
 obtain⟨p,xs,i,z,rfl,rfl,hq,he,q⟩:=h
 cases rx
 obtain⟨t,rfl⟩:=ry
 obtain⟨its,r,pl,hz⟩:=I.list hq
 obtain⟨j,h1,h2,h3,h4,h5⟩:=Tp he
 obtain⟨w,ew,rw'⟩:=r.get h2
 have hl:=r.length
 have hn:=OT
 have fin:EP X pins σ Q w s:=⟨z,H,I,rw',q⟩
 by_cases h0:0<=i
 .have hj:i.toNat=j:=by
   rw[seqIndex_of h0 h5]at h1
   exact uq h1
  exact item_listR pl.isList h0 (by lia) (by rw[hj];simpa using ew) fin hs
 .have hj:(i+(its.toArray.size:Int)).toNat=j:=by
   rw[seqIndex_neg (by lia) h4]at h1
   rw[sY,<-hl]
   exact uq h1
  exact zV (x:=w) pl.isList.typeIs slot_list_getitem.lookup
   (wpAny_getItem_list_neg (Q:=λr s'=>r=w/\EP X pins σ Q r s') pl.isList (by lia) (by rw[sY]<;>lia) (by lia) (by rw[hj];simpa using ew) ⟨rfl,fin⟩) hs
theorem ip:IxR X (qo X.K):=by
 intro value slice pins s σ H x y v u Q I rx ry h hs
 obtain⟨p,xs,i,z,rfl,rfl,hq,he,q⟩:=h
 cases rx
 obtain⟨t,rfl⟩:=ry
 obtain⟨its,r,pl,hz⟩:=I.tuple hq
 obtain⟨j,h1,h2,h3,h4,h5⟩:=Tp he
 obtain⟨w,ew,rw'⟩:=r.get h2
 have hl:=r.length
 have hn:=OT
 have fin:EP X pins σ Q w s:=⟨z,H,I,rw',q⟩
 exact zV (x:=w) pl.typeIs uP.lookup
  (getItem_tuple (j:=j) (Q:=λr s'=>r=w/\EP X pins σ Q r s') pl (by lia) (by lia) (by rw[sY,<-hl];exact h1) (by simpa using ew) ⟨rfl,fin⟩) hs
theorem RQ(its:Gc W1)(n j:Nat)(u:W1):yp (·.setIfInBounds j u) {cls:=.type "list",data:=.seq its.toArray n}={cls:=.type "list",data:=.seq (its.set j u).toArray n}:=by
 simp[yp]
theorem Inv.lst{pins:Gc (sF×Obj)}{σ:St}{H:Hp}{s:sE}{p:sF}{xs:Gc V}(I:Inv X pins σ H s)(h:H p=Fk (.lst xs)):∃(its:Gc W1) (n:Nat),Vals xs its/\s.heap.get? p=Fk {cls:=.type "list",data:=.seq its.toArray n}/\xs.length<=sizeLine:=by
 obtain⟨z,its,n,r,e⟩:=I.hok p _ h
 exact⟨its,n,r,e,z⟩
theorem Inv.iG{pins:Gc (sF×Obj)}{σ:St}{H:Hp}{s:sE}{p:sF}{xs ys:Gc V}{its its':Gc W1}{n n':Nat}{f:Obj->Obj}(I:Inv X pins σ H s)(h:H p=Fk (.lst xs))(ho:s.heap.get? p=Fk {cls:=.type "list",data:=.seq its.toArray n})(hf:f {cls:=.type "list",data:=.seq its.toArray n}={cls:=.type "list",data:=.seq its'.toArray n'})(r:Vals ys its')(hz:ys.length<=sizeLine)(t:Nat):Inv X pins σ (upd H p (.lst ys)) {s with heap:=s.heap.update p f,toks:=t}:=by
 have e:(s.heap.update p f).get? p=Fk {cls:=.type "list",data:=.seq its'.toArray n'}:=by
  rw[uQ f ho (by rw[hf]<;>rfl),hf]
 refine I.write (x:=p) (e:=p) (by rw[h];trivial) (.inl rfl) (λb u hb q=>(tH _ _ (uO hb)).trans q) ⟨_,e⟩ ?_
 exact⟨hz,its',n',r,e⟩
def nB:V->V->V->Hp->(Hp->Prop)->Prop:=λo i v H Q=>∃p xs k j,o=.ref p/\i=.int k/\H p=Fk (.lst xs)/\ixN xs.length k=Fk j/\Q (upd H p (.lst (xs.set j v)))
theorem set_list:pR X nB:=by
 intro pins s σ H o i v ov iv u Q I ro ri rv h
 obtain⟨p,xs,k,j,rfl,rfl,hp,hj,q⟩:=h
 cases ro
 obtain⟨t,rfl⟩:=ri
 obtain⟨its,n,r,ho,hz⟩:=I.lst hp
 obtain⟨h1,h2,h3,h4⟩:=Tx hj
 have hl:=r.length
 have hn:=OT
 have I':Inv X pins σ (upd H p (.lst (xs.set j v))) {s with heap:=s.heap.update p (yp (·.setIfInBounds j u))}:=
  I.iG hp ho (RQ its n j u) (r.set rv j) (by rw[vb];exact hz) s.toks
 by_cases h0:0<=k
 .have hk:k.toNat=j:=by
   rw[seqIndex_of h0 h4]at h1
   exact uq h1
  exact PySem.W.ki_setAt ho h0 (by lia) (by rw[sY,<-hl];exact h4) (by rw[hk];exact⟨_,I',q⟩)
 .have hk:(k+(its.toArray.size:Int)).toNat=j:=by
   rw[seqIndex_neg (by lia) h3]at h1
   rw[sY,<-hl]
   exact uq h1
  exact PySem.W.ki_setBack ho (by lia) (by rw[sY,<-hl];exact h3) (by lia) (by rw[hk];exact⟨_,I',q⟩)
theorem OA(lo hi:sD Int)(n:Nat):(sliceBounds lo hi none n).1=((HT.sIx n 0 lo:Nat):Int)/\(sliceBounds lo hi none n).2.1=((HT.sIx n n hi:Nat):Int)/\(sliceBounds lo hi none n).2.2=1:=by
 refine⟨?_,?_,rfl⟩
 .cases lo with
  |none=>simp[sliceBounds,HT.sIx]
  |some i=>
   simp only[sliceBounds,HT.sIx,Option.getD_none,show(1:Int)>0 by decide,xP]
   by_cases h:i<0
   .simp only[h,xP]<;>lia
   .simp only[h,xk]<;>lia
 .cases hi with
  |none=>simp[sliceBounds,HT.sIx]
  |some i=>
   simp only[sliceBounds,HT.sIx,Option.getD_none,show(1:Int)>0 by decide,xP]
   by_cases h:i<0
   .simp only[h,xP]<;>lia
   .simp only[h,xk]<;>lia
theorem NL(its:Gc W1)(lo hi:sD Int):slicePick its.toArray lo hi none=((its.drop (HT.sIx its.length 0 lo)).take (HT.sIx its.length its.length hi-HT.sIx its.length 0 lo)).toArray:=by
 obtain⟨h1,h2,h3⟩:=OA lo hi its.toArray.size
 unfold slicePick
 rw[h1,h2,h3]
 simp only[sliceRange_one,pick_run,sY]<;>rfl
def q9(K:Wp):V->sD Int->sD Int->Hp->VK->Prop:=λx lo hi H Q=>∃a xs,x=.ref a/\SqL K H a xs/\∀p,H p=none->Q (.ref p) (upd H p (.lst (Yd xs lo hi)))
theorem aB:SlR X (q9 X.K):=by
 intro pins s σ H x v vl vu lo hi sl Q I rx hs pl pu h
 obtain⟨a,xs,rfl,hx,q⟩:=h
 cases rx
 obtain⟨its,r,ht,hz⟩:=I.list hx
 have hlen:=r.length
 refine⟨"list",_,slot_list_getitem.lookup,ht.isList.typeIs,?_⟩
 refine wpAny_getItem_list_slice ht.isList hs pl pu .none (by simp) ?_ (by rw[sY]<;>lia)
 rw[NL,<-hlen]
 refine⟨.ref s.heap.objs.size,_,I.laid (t':=s.toks) (o:=.lst (Yd xs lo hi)) (λb ob q=>sC _ q) (sM _) ?_,rfl,q _ (I.hok.fresh (sM _))⟩
 exact⟨sL (Lm xs lo hi) hz,_,0,(r.drop (HT.sIx xs.length 0 lo)).take (HT.sIx xs.length xs.length hi-HT.sIx xs.length 0 lo),sg _ rfl⟩
noncomputable def LV:V->tV
 | .non=>true
 | .bl _=>true
 | .int _=>true
 | .str _=>true
 |_=>false
noncomputable def eqV:V->V->tV
 | .non,.non=>true
 | .bl a,.bl b=>a==b
 | .bl a,.int b=>(if a then 1 else 0)==b
 | .int a,.bl b=>a==(if b then 1 else 0)
 | .int a,.int b=>a==b
 | .str a,.str b=>a==b
 |_,_=>false
theorem iQ{A:tM}{s:sE}{y x:V}{u v:W1}(ry:RelV y u)(rx:RelV x v)(fy:LV y=true)(fx:LV x=true):SeqAt.EqAt A s u v (eqV y x):=by
 cases y with
 |non=>
  cases ry
  cases x with
  |non=>cases rx;exact SeqAt.EqAt.same _
  |bl b=>cases rx;exact SeqAt.EqAt.none_bool b
  |int b=>obtain⟨t,rfl⟩:=rx;exact SeqAt.EqAt.none_int b t
  |str b=>obtain⟨t,rfl⟩:=rx;exact SeqAt.EqAt.none_str b t
  |_=>exact absurd (show false=true from fx) uE
 |bl a=>
  cases ry
  cases x with
  |non=>cases rx;exact SeqAt.EqAt.bool_none a
  |bl b=>cases rx;exact SeqAt.EqAt.bool_bool a b
  |int b=>obtain⟨t,rfl⟩:=rx;exact SeqAt.EqAt.bool_int a b t
  |str b=>obtain⟨t,rfl⟩:=rx;exact SeqAt.EqAt.bool_str a b t
  |_=>exact absurd (show false=true from fx) uE
 |int a=>
  obtain⟨t',rfl⟩:=ry
  cases x with
  |non=>cases rx;exact SeqAt.EqAt.int_none a t'
  |bl b=>cases rx;exact SeqAt.EqAt.int_bool a t' b
  |int b=>obtain⟨t,rfl⟩:=rx;exact AAm a t' b t
  |str b=>obtain⟨t,rfl⟩:=rx;exact AAg a t' b t
  |_=>exact absurd (show false=true from fx) uE
 |str a=>
  obtain⟨t',rfl⟩:=ry
  cases x with
  |non=>cases rx;exact SeqAt.EqAt.str_none a t'
  |bl b=>cases rx;exact SeqAt.EqAt.str_bool a t' b
  |int b=>obtain⟨t,rfl⟩:=rx;exact AAh a t' b t
  |str b=>obtain⟨t,rfl⟩:=rx;exact SeqAt.EqAt.str_str a t' b t
  |_=>exact absurd (show false=true from fx) uE
 |_=>exact absurd (show false=true from fy) uE
noncomputable def eqU(x:V)(u:W1):tV:=match u with
 | .none=>eqV .non x
 | .bool b=>eqV (.bl b) x
 | .int i _=>eqV (.int i) x
 | .str z _=>eqV (.str z) x
 |_=>false
theorem YX{x y:V}{u:W1}(r:RelV y u)(f:LV y=true):eqU x u=eqV y x:=by
 cases y with
 |non=>cases r;rfl
 |bl b=>cases r;rfl
 |int i=>obtain⟨t,rfl⟩:=r;rfl
 |str z=>obtain⟨t,rfl⟩:=r;rfl
 |_=>exact absurd (show false=true from f) uE
theorem Kv{x:V}:∀{xs:Gc V} {us:Gc W1},Vals xs us->xs.all LV=true->us.any (eqU x)=xs.any λy=>eqV y x
 |_,_,.nil,_=>rfl
 |y::xs,u::us,.cons r t,f=>by
  rw[wV,sU]at f
  rw[vh,vh,YX r f.1,Kv t f.2]
theorem JK{A:tM}{s:sE}{x:V}{v:W1}(rx:RelV x v)(fx:LV x=true):∀{xs:Gc V} {us:Gc W1},Vals xs us->xs.all LV=true->∀u∈us,SeqAt.EqAt A s u v (eqU x u)
 |_,_,.nil,_=>λu hu=>by cases hu
 |y::xs,u::us,.cons r t,f=>λu' hu=>by
  rw[wV,sU]at f
  rcases sN.mp hu with rfl|hu
  .rw[YX r f.1];exact iQ r rx f.1 fx
  .exact JK rx fx t f.2 u' hu
noncomputable def inV(x:V)(xs:Gc V):tV:=xs.any λy=>eqV y x
noncomputable def rIn(K:Wp)(neg:tV):R2:=λx y H Q=>∃p xs,y=.ref p/\(SqL K H p xs\/SqT K H p xs)/\LV x=true/\xs.all LV=true/\Q (.bl (if neg then !inV x xs else inV x xs)) H
theorem Vs:OpR X (compareOp .In) (rIn X.K false):=by
 intro pins s σ H x y v u Q I rx ry h
 obtain⟨p,xs,rfl,hq,fx,fs,q⟩:=h
 cases ry
 rcases hq with hq|hq
 .obtain⟨its,r,pl,hz⟩:=I.list hq
  refine SeqAt.in_listAt (eqU x) pl.isList (λw hw=>JK rx fx r fs w (by simpa using hw)) ⟨.bl _,H,I,rfl,?_⟩
  rw[show its.toArray.any (eqU x)=its.any (eqU x) by simp,Kv r fs]
  exact q
 .obtain⟨its,r,pl,hz⟩:=I.tuple hq
  refine SeqAt.in_tupleAt (eqU x) pl (λw hw=>JK rx fx r fs w (by simpa using hw)) ⟨.bl _,H,I,rfl,?_⟩
  rw[show its.toArray.any (eqU x)=its.any (eqU x) by simp,Kv r fs]
  exact q
theorem PC:OpR X (compareOp .NotIn) (rIn X.K true):=by
 intro pins s σ H x y v u Q I rx ry h
 obtain⟨p,xs,rfl,hq,fx,fs,q⟩:=h
 cases ry
 rcases hq with hq|hq
 .obtain⟨its,r,pl,hz⟩:=I.list hq
  refine SeqAt.notIn_listAt (eqU x) pl.isList (λw hw=>JK rx fx r fs w (by simpa using hw)) ⟨.bl _,H,I,rfl,?_⟩
  rw[show its.toArray.any (eqU x)=its.any (eqU x) by simp,Kv r fs]
  exact q
 .obtain⟨its,r,pl,hz⟩:=I.tuple hq
  refine SeqAt.notIn_tupleAt (eqU x) pl (λw hw=>JK rx fx r fs w (by simpa using hw)) ⟨.bl _,H,I,rfl,?_⟩
  rw[show its.toArray.any (eqU x)=its.any (eqU x) by simp,Kv r fs]
  exact q
theorem Ox:El X (.builtin "len") (λxs H Q=>∃p ys,xs=[.ref p]/\(SqL X.K H p ys\/SqT X.K H p ys)/\Q (.int ys.length) H):=by
 intro pins s σ H xs us Q I r h
 obtain⟨p,ys,rfl,hq,q⟩:=h
 obtain⟨u,rfl,rx⟩:=vals1 r
 cases rx
 have hn:=OT
 rcases hq with hq|hq
 .obtain⟨its,r',pl,hz⟩:=I.list hq
  have hlen:=r'.length
  exact Calls.call_len_list pl.isList (by simp only[sY]<;>lia) ⟨.int ys.length,H,I.tok _,⟨s.toks+1,by rw[sY,hlen]⟩,q⟩
 .obtain⟨its,r',pl,hz⟩:=I.tuple hq
  have hlen:=r'.length
  exact len_tuple pl (by simp only[sY]<;>lia) ⟨.int ys.length,H,I.tok _,⟨s.toks+1,by rw[sY,hlen]⟩,q⟩
theorem PD:El X (.builtin "len") (λxs H Q=>∃z,xs=[.str z]/\z.length<=sizeLine/\Q (.int z.length) H):=by
 intro pins s σ H xs us Q I r h
 obtain⟨z,rfl,hz,q⟩:=h
 obtain⟨u,rfl,t,rfl⟩:=vals1 r
 have hn:=OT
 exact len_str (by lia) ⟨.int z.length,H,I.tok _,⟨_,rfl⟩,q⟩
theorem OH:El X (.type "list") (λxs H Q=>∃p ys,xs=[.ref p]/\(SqL X.K H p ys\/SqT X.K H p ys)/\∀l,H l=none->Q (.ref l) (upd H l (.lst ys))):=by
 intro pins s σ H xs us Q I r h
 obtain⟨p,ys,rfl,hq,q⟩:=h
 obtain⟨u,rfl,rx⟩:=vals1 r
 cases rx
 have fin:∀(its:Gc W1),Vals ys its->ys.length<=sizeLine->∀(h':tT) (c':Nat),(∀b o',s.heap.get? b=Fk o'->h'.get? b=Fk o')->
   h'.get? s.heap.objs.size=Fk {cls:=.type "list",dict:=none,data:=.seq its.toArray c',slots:= #[]}->EP X pins σ Q (.ref s.heap.objs.size) {s with heap:=h'}:=λits r' hz h' c' kp e=>
  ⟨.ref s.heap.objs.size,_,I.laid (t':=s.toks) kp (sM _) (show DF X.prog X.w _ h' _ (.lst ys)from⟨hz,its,c',r',e⟩),rfl,q _ (I.hok.fresh (sM _))⟩
 rcases hq with hq|hq
 .obtain⟨its,r',pl,hz⟩:=I.list hq
  have hlen:=r'.length
  obtain⟨o,ho,hc,n,hd⟩:=pl.isList
  exact call_list_seq p (.inl rfl) ho hc hd (λh' c' kp e=>fin its r' hz h' c' kp e) (by simp only[sY]<;>lia)
 .obtain⟨its,r',pl,hz⟩:=I.tuple hq
  have hlen:=r'.length
  obtain⟨o,ho,hc,n,hd⟩:=pl
  exact call_list_seq p (.inr rfl) ho hc hd (λh' c' kp e=>fin its r' hz h' c' kp e) (by simp only[sY]<;>lia)
theorem Nf:El X (.type "tuple") (λxs H Q=>∃p ys,xs=[.ref p]/\((SqL X.K H p ys/\∀l,H l=none->Q (.ref l) (upd H l (.tup ys)))\/(SqT X.K H p ys/\Q (.ref p) H))):=by
 intro pins s σ H xs us Q I r h
 obtain⟨p,ys,rfl,h⟩:=h
 obtain⟨u,rfl,rx⟩:=vals1 r
 cases rx
 rcases h with⟨hq,q⟩|⟨hq,q⟩
 .obtain⟨its,r',pl,hz⟩:=I.list hq
  have hlen:=r'.length
  refine call_tuple_list pl.isList (λh' kp=>?_) (by simp only[sY]<;>lia)
  have I1:Inv X pins σ H {s with heap:=h'}:=I.kept (t':=s.toks) kp
  have I2:Inv X pins σ (upd H h'.objs.size (.tup ys)) {s with heap:=h'.push {cls:=.type "tuple",data:=.seq its.toArray}}:=
   I1.laid (t':=s.toks) (λb o e=>sC _ e) (sM _) (show DF X.prog X.w _ _ _ (.tup ys)from⟨hz,its,r',xE _ _⟩)
  exact⟨.ref h'.objs.size,_,I2,rfl,q _ (I1.hok.fresh (sM _))⟩
 .obtain⟨its,r',pl,hz⟩:=I.tuple hq
  exact call_tuple_same pl ⟨.ref p,H,I,rfl,q⟩
def tyV(K:Wp)(T:ug)(x:V)(H:Hp):Prop:=match x with
 | .str _=>T="str"
 | .int _=>T="int"
 | .ref p=>(T="list" /\∃xs,SqL K H p xs)\/(T="tuple" /\∃o,K.lookup p=Fk o/\o.cls=.type "tuple" /\o.dict=none)∨
    (T="dict" /\((∃kvs,H p=Fk (.dK kvs))\/∃kvs,H p=Fk (.dT kvs)))\/(T="set" /\∃S n,H p=Fk (.set S n))
 |_=>vS
theorem de{pins:Gc (sF×Obj)}{σ:St}{H:Hp}{s:sE}{T:ug}{x:V}{v:W1}(I:Inv X pins σ H s)(r:RelV x v)(ty:tyV X.K T x H):s.TypeIs v T/\∀a,v=.ref a->∃ob,s.heap.get? a=Fk ob/\ob.dict=none:=by
 cases x with
 |str z=>
  obtain⟨t,rfl⟩:=r
  cases (show T="str" from ty)
  exact⟨zW s z t,λ_ e=>nomatch e⟩
 |int i=>
  obtain⟨t,rfl⟩:=r
  cases (show T="int" from ty)
  exact⟨yE s i t,λ_ e=>nomatch e⟩
 |ref p=>
  cases r
  rcases ty with⟨rfl,xs,hq⟩|⟨rfl,o,hk,hc,hd⟩|⟨rfl,hk⟩|⟨rfl,S,n,hk⟩
  .obtain⟨its,_,pl,_⟩:=I.list hq
   refine⟨pl.isList.typeIs,λa e=>?_⟩
   cases e
   obtain⟨o,n,e,c,hd,_⟩:=pl
   exact⟨o,e,hd⟩
  .refine⟨⟨o,I.kIn p o hk,hc⟩,λa e=>?_⟩
   cases e
   exact⟨o,I.kIn _ o hk,hd⟩
  .have z:∃o,s.heap.get? p=Fk o/\o.ExactDict:=by
    rcases hk with⟨kvs,hk⟩|⟨kvs,hk⟩
    .obtain⟨_,_,_,_,o,_,_,e,ex,_⟩:=I.hok p _ hk
     exact⟨o,e,ex⟩
    .obtain⟨_,_,_,_,o,_,_,e,ex,_⟩:=I.hok p _ hk
     exact⟨o,e,ex⟩
   obtain⟨o,e,ex⟩:=z
   refine⟨⟨o,e,ex.1⟩,λa e2=>?_⟩
   cases e2
   exact⟨o,e,ex.2.1⟩
  .obtain⟨o,_,_,_,e,ex,_⟩:=I.hok p _ hk
   refine⟨⟨o,e,ex.1⟩,λa e2=>?_⟩
   cases e2
   exact⟨o,e,ex.2.1⟩
 |_=>exact uW ty
noncomputable def tBM(K:Wp)(T:ug)(r:V->Gc V->Hp->VK->Prop)(to:TE)(t:TA):TE:=λσ H Q=>to σ H λx H1=>tyV K T x H1/\t σ H1 λxs H2=>r x xs H2 Q
variable{o e:sk}{es:Gc sk}{to:TE}{t:TA}{name:Str}{apos cpos:Pos}{T id:ug}{r:V->Gc V->Hp->VK->Prop}
theorem mI(pa:PlainAttrs T)(slot:Slot T name id)(hty:typeOf (.builtin id)=pure (.type "method_descriptor"))(hm:MtR X id r)(ho:PE X o to)(ha:PA X (e::es) t)(hbase:attributeBase o name X.env (eval o X.env)=eval o X.env:=by rfl)(hfew:((backTo cpos (sf (e::es) X.env)).all (λx=> !x.1) && (backToKw cpos (keywordEach [] X.env)).all (λx=>x.1.isSome) && decide ((e::es).length+([]:Gc yz).length+(if([]:Gc yz).isEmpty then 0 else 1)<30))=true:=by rfl)(hline:(apos.endLine==cpos.line)=true:=by rfl)(hs:sf (e::es) X.env=(false,eval e X.env)::sf es X.env:=by rfl)(hplain:(backTo cpos (sf es X.env)).any (·.1)=false:=by rfl):PE X (.Call (.Attribute o name apos) (e::es) [] cpos) (tBM X.K T r to t):=by
 intro pins s σ H Q I h
 refine wpAny_Call_method_late hbase hfew hline rfl (thn (ho pins s σ H _ I h) λv s1 ⟨x,H1,I1,r1,ty,q1⟩=>?_)
 obtain⟨h1,h2⟩:=de I1 r1 ty
 refine⟨T,id,pa,slot,hty,h1,h2,?_⟩
 have hA:=ha cpos pins s1 σ H1 _ I1 q1
 rw[hs]at hA⊢
 refine zX (by show(false||(backTo cpos (sf es X.env)).any (·.1))=false;rw[hplain]<;>rfl) (wq ?_)
 exact thn hA λus s2 ⟨vs,H2,I2,r2,q2⟩=>hm pins s2 σ H2 x vs v us Q I2 r1 r2 q2
end
end L2
namespace L2
open PySem PySem.Spec PyProof.Rows
def MtM(X:Cx)(id:ug)(r:V->Gc V->Hp->VK->Prop):Prop:=
 ∀(pins:Gc (sF×Obj)) (s:sE) (σ:St) (H:Hp) (x:V) (xs:Gc V) (v:W1) (us:Gc W1) (Q:VK),Inv X pins σ H s->RelV x v->Vals xs us->r x xs H Q->
  wpAny (model X.prog X.w) X.A (call (.builtin id) (v::us)) (EP X pins σ Q) X.xe s
theorem Vals.one:∀{x:V} {us:Gc W1},Vals [x] us->∃u,us=[u]/\RelV x u:=λh=>by
 cases h with
 |cons r t=>cases t;exact⟨_,rfl,r⟩
theorem Vals.two:∀{x y:V} {us:Gc W1},Vals [x,y] us->∃u v,us=[u,v]/\RelV x u/\RelV y v:=λh=>by
 cases h with
 |cons r t=>
  cases t with
  |cons q t=>cases t;exact⟨_,_,rfl,r,q⟩
theorem Vals.rep{xs:Gc V}{us:Gc W1}(h:Vals xs us):∀k:Nat,Vals (sS k xs).flatten (sS k us).flatten
 |0=>.nil
 |k+1=>by
  rw[uv,uv,v5,v5]
  exact Vals.append h (Vals.rep h k)
theorem foldl_rep(its:Gc W1):∀(k:Nat) (acc:Gc W1),AAo (λx1 x2=>x1++x2) acc.toArray (sS k its.toArray)=(acc++(sS k its).flatten).toArray
 |0,acc=>by simp
 |k+1,acc=>by
  have e:acc.toArray++its.toArray=(acc++its).toArray:=by simp
  have e2:(acc++its)++(sS k its).flatten=acc++(sS (k+1) its).flatten:=by
   rw[uv,v5,xl]
  rw[<-e2,<-foldl_rep its k (acc++its),<-e,uv,List.foldl_cons]
section
variable{X:Cx}{pins:Gc (sF×Obj)}{σ:St}{H:Hp}{s:sE}{l b:sF}{xs ys zs:Gc V}
theorem Inv.kh{its its':Gc W1}{n:Nat}{f:uI W1->uI W1}{t':Nat}(I:Inv X pins σ H s)(hH:H l=Fk (.lst xs))(e:s.heap.get? l=Fk {cls:=.type "list",data:=.seq its.toArray n})(hf:f its.toArray=its'.toArray)(hv:Vals ys its')(hz:ys.length<=sizeLine):Inv X pins σ (upd H l (.lst ys)) {s with heap:=s.heap.update l (yp f),toks:=t'}:=by
 have q:=PySem.IsL.update e f
 rw[hf]at q
 refine I.write (x:=l) (e:=l) (by rw[hH];exact trivial) (.inl rfl) (λb' u hb hu=>(tH s.heap (yp f) (uO hb)).trans hu) ⟨_,q⟩ ?_
 exact⟨hz,its',_,hv,q⟩
theorem Inv.pC{its:Gc W1}{t':Nat}(I:Inv X pins σ H s)(hv:Vals ys its)(hz:ys.length<=sizeLine):Inv X pins σ (upd H s.heap.objs.size (.lst ys)) {s with heap:=s.heap.push {cls:=.type "list",data:=.seq its.toArray},toks:=t'}:=
 I.laid (λ_ _ q=>sC _ q) (sM _) ⟨hz,its,0,hv,sg _ rfl⟩
theorem Inv.fresh(I:Inv X pins σ H s):H s.heap.objs.size=none:=I.hok.fresh (sM _)
theorem Inv.Yy(I:Inv X pins σ H s)(hH:H l=Fk (.lst xs)):xs.length<=sizeLine/\∃(its:Gc W1) (n:Nat),Vals xs its/\xs.length=its.length/\s.heap.get? l=Fk {cls:=.type "list",data:=.seq its.toArray n}:=by
 obtain⟨z,its,n,r,e⟩:=I.hok l _ hH
 exact⟨z,its,n,r,r.length,e⟩
theorem NU{n:Nat}(h:n<=sizeLine):u6 n=false:=by
 unfold u6
 exact vZ (by lia)
end
section
variable{X:Cx}
def Zq:V->Gc V->Hp->VK->Prop:=λx vs H Q=>∃l xs y,x=.ref l/\vs=[y]/\H l=Fk (.lst xs)/\xs.length<sizeLine/\Q .non (upd H l (.lst (xs++[y])))
theorem Oe:MtM X "list.append" Zq:=by
 intro pins s σ H x vs v us Q I rx rv h
 obtain⟨l,xs,y,rfl,rfl,hH,hz,q⟩:=h
 cases rx
 obtain⟨u,rfl,ru⟩:=rv.one
 obtain⟨z,its,n,r,hl,e⟩:=I.Yy hH
 refine yF F.slot_list_append ⟨_,e,rfl⟩ F.entry_list_append (F.args_list_append_2 _ _) (PySem.list_append l its.toArray n u (by rw[sY];lia)) ⟨e,?_⟩
 refine⟨.non,_,I.kh (its':=its++[u]) hH e (by simp) (r.append (.cons ru .nil)) ?_,rfl,q⟩
 rw[uN,zw]
 lia
def aZ:V->Gc V->Hp->VK->Prop:=λx vs H Q=>∃l b xs zs,x=.ref l/\vs=[.ref b]/\H l=Fk (.lst xs)/\H b=Fk (.lst zs)/\xs.length+zs.length<=sizeLine/\Q .non (upd H l (.lst (xs++zs)))
theorem To:MtM X "list.extend" aZ:=by
 intro pins s σ H x vs v us Q I rx rv h
 obtain⟨l,b,xs,zs,rfl,rfl,hH,hB,hz,q⟩:=h
 cases rx
 obtain⟨u,rfl,ru⟩:=rv.one
 cases ru
 obtain⟨z,its,n,r,hl,e⟩:=I.Yy hH
 obtain⟨z2,its2,n2,r2,hl2,e2⟩:=I.Yy hB
 have hsz:its.toArray.size+its2.toArray.size<=sizeLine:=by rw[sY,sY];lia
 have hlong:¬(!its.toArray.isEmpty && u6 (its.toArray.size+its2.toArray.size))=true:=by
  rw[NU hsz,Bool.and_false]
  exact uE
 refine yF AAp ⟨_,e,rfl⟩ AAU (AAA _ _)
  (AutoSeq1.list_extend_list_list_0 l its.toArray n b its2.toArray n2 hlong (by rw[sY];lia) (by lia)) ⟨e,e2,?_⟩
 refine⟨.non,_,I.kh (its':=its++its2) hH e (by simp) (r.append r2) ?_,rfl,q⟩
 rw[uN]
 lia
noncomputable def qF:R2:=λx y H Q=>∃l b xs zs,x=.ref l/\y=.ref b/\H l=Fk (.lst xs)/\H b=Fk (.lst zs)/\xs.length+zs.length<=sizeLine/\∀p,H p=none->Q (.ref p) (upd H p (.lst (xs++zs)))
theorem iZ:OpR X (binaryOp .Add) qF:=by
 intro pins s σ H x y v u Q I rx ry h
 obtain⟨l,b,xs,zs,rfl,rfl,hH,hB,hz,q⟩:=h
 cases rx
 cases ry
 obtain⟨z,its,n,r,hl,e⟩:=I.Yy hH
 obtain⟨z2,its2,n2,r2,hl2,e2⟩:=I.Yy hB
 refine PySem.P.add_list e e2 ?_ (by rw[sY,sY];lia)
 have ea:its.toArray++its2.toArray=(its++its2).toArray:=by simp
 rw[ea]
 exact⟨.ref _,_,I.pC (t':=s.toks) (r.append r2) (by rw[uN];lia),rfl,q _ I.fresh⟩
noncomputable def ql:R2:=λx y H Q=>∃l k xs,x=.ref l/\y=.int k/\H l=Fk (.lst xs)/\ -(2^63)<=k/\k<2^63/\xs.length*k.toNat<=sizeLine/\
 ∀p,H p=none->Q (.ref p) (upd H p (.lst (sS k.toNat xs).flatten))
theorem len_rep{α:Type}(xs:Gc α)(k:Nat):(sS k xs).flatten.length=k*xs.length:=by
 induction k with
 |zero=>simp
 |succ k ih=>rw[uv,v5,uN,ih,Nat.succ_mul,zY]
theorem gO:OpR X (binaryOp .Mult) ql:=by
 intro pins s σ H x y v u Q I rx ry h
 obtain⟨l,k,xs,rfl,rfl,hH,h1,h2,hz,q⟩:=h
 cases rx
 obtain⟨t,rfl⟩:=ry
 obtain⟨z,its,n,r,hl,e⟩:=I.Yy hH
 have hlen:its.toArray.size*k.toNat<=sizeLine:=by rw[sY,<-hl];exact hz
 have hcap:¬its.toArray.size*k.toNat>(2^63-1) / 8:=by
  have:(sizeLine:Nat)<=(2^63-1) / 8:=by decide
  lia
 have hfit:¬(!Builtin.List.listFitsIndex k)=true:=by
  rw[fitsIndex_both h1 h2]
  exact uE
 have hlong:¬u6 (its.toArray.size*k.toNat)=true:=by
  rw[NU hlen]
  exact uE
 have hnew:AAo (λx1 x2=>x1++x2) #[] (sS (if its.toArray.isEmpty=true then 0 else k.toNat) its.toArray)=(sS k.toNat its).flatten.toArray:=by
  have f0:∀m:Nat,AAo (λx1 x2=>x1++x2) #[] (sS m its.toArray)=(sS m its).flatten.toArray:=λm=>by
   have:=foldl_rep its m []
   rw[tF]at this
   exact this
  rw[f0]
  cases its with
  |nil=>simp
  |cons a r'=>rw[tN (by simp)]
 refine xB (T:="list") (U:="int") (by decide) ⟨_,e,rfl⟩ (λs'=>yE s' k t) noFill_list_mul zl wR repeat_list zK.lookup
  (yF wR (yE s k t) zL (y0 _ _) (int___rmul___int_list k t l its.toArray n)
    ⟨e,rfl,⟨_,e,rfl⟩,yF F.slot_list_mul ⟨_,e,rfl⟩ F.entry_list_mul (F.args_list_mul_2 _ _) (AutoListH.list___mul___list_int_3 l its.toArray n k t hfit hcap hlong) ⟨e,?_⟩⟩)
 rw[hnew]
 exact⟨.ref _,_,I.pC (t':=s.toks) (r.rep k.toNat) (by rw[len_rep,wN];exact hz),rfl,q _ I.fresh⟩
end
section
variable{prog:sj}{w:tu}{A:tM}{E:W1->sE->Prop}{s:sE}
end
section
variable{X:Cx}
end
end L2
namespace Att
open PySem PySem.W PySem.Calls PyProof.Rows
theorem ints_of_wellAll{P:Params}{h:tT}:∀(ns:Gc Int) (vs:Gc W1),WellAll P h vs (ns.map WData.int)->uz vs ns:=by
 intro ns
 induction ns with
 |nil=>
  intro vs w
  rw[vB]at w
  cases w
  exact .nil
 |cons n ns ih=>
  intro vs w
  rw[su]at w
  cases w with
  |cons a b=>
   cases a
   exact .cons _ _ (ih _ b)
theorem script_of{l:zQ}{n:Nat}(hn:l.most=Fk n){P:Params}{h:tT}{args:Gc WData}{vals:Gc W1}(hpre:l.row.toRowW.claim.pre args=true)(hwl:WellAll P h vals args):∃a vs ns,vals=[tw a]/\args=[WData.list (ns.map WData.int)]/\h.get? a=Fk {cls:=.type "list",data:=.seq vs.toArray}/\uz vs ns/\ns.length<=n:=by
 have hsh:WShape.hasAll [] args [.list .int]=true:=(pre_splitW hpre).1
 have hc:l.pre.holds [] {args:=args}=true:=(pre_splitW hpre).2
 obtain⟨d,r,rfl,h1,h2⟩:=hasAllW_cons hsh
 obtain rfl:=hasAllW_nil h2
 obtain⟨xs,rfl,h3⟩:=hasW_list h1
 obtain⟨ns,rfl⟩:=items_int h3
 have hlen:ns.length<=n:=by
  unfold OpenLaw.pre at hc
  have h4:(WTm.not (.lt (.lit (.int (n:Int))) (.len (.arg 0)))).holds [] {args:=[.list (ns.map .int)]}=true:=by
   have h4:=(holds_andW hc).1
   rw[hn]at h4
   exact h4
  have h5:=condW_of h4 (w_not (w_lt w_lit (w_len_list (w_arg rfl))))
  rw[tq]at h5
  refine Nat.le_of_not_lt λq=>?_
  have q':(n:Int)<((ns.length:Nat):Int):=by lia
  first
   |(rw[vV q']at h5;exact absurd h5 (by decide))
   |(simp at h5;lia)
 cases hwl with
 |cons w1 w2=>
  cases w2
  cases w1 with
  |list ho hall=>exact⟨_,_,ns,rfl,rfl,ho,ints_of_wellAll ns _ hall,hlen⟩
theorem post_true(l:zQ)(args:Gc WData):l.row.toRowW.claim.post args (.bool true) args=true:=
 postW_of (r:=l.row.toRowW) (X:=(true==true))
  (show WShape.has [] (.bool true) .bool=true by first|rfl|decide|simp[WShape.has,WShape.arms,WShape.armsAll])
  (show(WTm.eq .res (.lit (.bool true))).value [] {args:=args,res:=Fk (.bool true),after:=args}=Fk (.bool (true==true))from w_eq_bool (w_res rfl) w_lit) rfl
theorem attach_call{l:zQ}{n:Nat}{q:sj}{loose:Gc Str}{XP:(Str->sD W1)->tT->Prop}{YP:tu->tT->Prop}{d:DefRec}(hn:l.most=Fk n)(hdf:d.params.defaults=[])(call:∀(w:tu) (s₀ s₁:sE) (mg mb:Str->sD W1) (fa:sF) (o:Obj) (pm cd doc:W1) (a:sF) (vs:Gc W1) (ns:Gc Int),Ground q loose [] XP w s₀ mg mb s₁.heap->YP w s₁.heap->s₁.heap.get? fa=Fk o->o.data=.func (docDef d.name d.params d.body d.scope pm cd doc)->s₁.heap.CodeRec cd d.name->mg d.name=Fk (.ref fa)->s₁.heap.get? a=Fk {cls:=.type "list",data:=.seq vs.toArray}->uz vs ns->ns.length<=n->s₁.gens= #[]->codeAny (model l.prog w) callerA (.call (.ref fa) ⟨[.ref a],[]⟩) (λr s'=>r=.ok (.ret (.bool true))/\OldK s₁.heap s'.heap/\s'.os=s₁.os/\xU s'.gens) s₁):WalkO q loose XP YP l.row.toRowW d [] (λf vs=>PySem.call f vs):=by
 intro w s₀ s₁ mg mb G Y fa o pm cd doc dV kV ho hd hcd hD hmg hg args vals as hpre hlay hrd hwl hlo
 obtain rfl:dV=.none:=Dflts.none hD hdf
 obtain rfl:kV=.none:=Dflts.noKw hD
 obtain⟨a,vs,ns,rfl,rfl,hobj,hints,hlen⟩:=script_of hn hpre hwl
 refine enter_call (yb (call w s₀ s₁ mg mb fa o pm cd doc a vs ns G Y ho (fd_plain hd) hcd hmg hobj hints hlen hg) λr s' hq=>?_)
 obtain⟨rfl,h2,h3,h4⟩:=hq
 exact⟨.inl ⟨.bool true,.bool true,[],rfl,λ_=>rfl,.bool true,post_true l _,λ_=>⟨List.Pairwise.nil,λ_ hm=>(nomatch hm)⟩⟩,h2,h3,h4⟩
section
variable{prog:sj}{w:tu}{A:tM}{E:W1->sE->Prop}{s:sE}{K:Wp}
end
end Att
namespace L2
open PySem PySem.Spec PyProof.Rows
theorem OE:∀{vs:Gc W1} {ns:Gc Int},uz vs ns->Vals (ns.map V.int) vs
 |_,_,.nil=>.nil
 |_,_,.cons n t h=>.cons ⟨t,rfl⟩ (OE h)
end L2
namespace L2
open PySem PySem.Spec PyProof.Rows
abbrev KOf{K:Wp}{h:tT}(_:K.In h):Wp:=K
end L2
namespace L2
open PySem PySem.Spec PyProof.Rows
noncomputable def Ir(s:tP):yg:=match s with
 | .FunctionDef _ a _ _ _ _ _ _ _ _=>a
 |_=>{posonlyargs:=[],args:=[],vararg:=none,kwonlyargs:=[],kw_defaults:=[],kwarg:=none,defaults:=[]}
noncomputable def Ba(s:tP):Gc tP:=match s with
 | .FunctionDef _ _ b _ _ _ _ _ _ _=>b
 |_=>[]
noncomputable def AF(s:tP):uZ:=match s with
 | .FunctionDef _ _ _ _ _ _ sc _ _ _=>sc
 |_=>{kind:=.function,names:=[],isGenerator:=false,isCoroutine:=false}
abbrev CX0:CXT:=λ_ _ _ _ _ _=>vS
abbrev E0:XK:=λ_ _ _=>vS
theorem mH{X:Cx}:Passes CX0 X E0:=λ_ _ _ _ _ _ _ h=>h.elim
structure Fun(K:Wp)(x qual:Str)(st:tP)(f:sF)(fd:vD):Prop where
 ex:∃(oc:W1) (od:sD sF) (kV doc pm:W1) (an:sD sF) (cdv ct:W1) (osl:uI (sD W1)),
  fd=v3 x qual (Ir st) (Ba st) (AF st) .none kV doc pm an cdv ct/\K.lookup f=Fk ⟨oc,od,.func fd,osl⟩/\xh K cdv qual=true
 kp:vG K (.ref f)=true
section
variable{P:sj}{w:tu}{K:Wp}{mg:Str->sD W1}{base:tT}
theorem Fun.ok{x qual:Str}{st:tP}{f:sF}{fd:vD}{N ps:Gc Str}{k:Nat}{sp:Sp}(F:Fun K x qual st f fd)(S:BP N ps (AF st))(len:∀vs H Q E,sp vs H Q E->vs.length=ps.length)(hbody:∀(cdv:W1) (A:tM) (outer:Gc Env) (s:sE) (H:Hp) (vs:Gc V) (Q:VK) (E:XK),Eg k (A.deeper (envOfC qual (AF st) s.heap.objs.size f cdv))->sp vs H Q E->∃t,PSs (IK CX0 P w K mg base N qual (AF st) f cdv A outer s H E).nox (Ba st) t/\t {nx:=λ_ H'=>Q .non H',rt:=Q} (start N vs) H):Pb P w K mg base CX0 (k+1) f fd ps sp:=by
 obtain⟨oc,od,kV,doc,pm,an,cdv,ct,osl,rfl,lk,hcd⟩:=F.ex
 refine Z7 lk hcd S len λA outer s H vs Q E hr hsp=>?_
 obtain⟨t,h,q⟩:=hbody cdv A outer s H vs Q E hr hsp
 exact⟨t,h.nox,q⟩
theorem Fun.binds{x qual:Str}{st:tP}{f:sF}{fd:vD}{ps:Gc Str}(F:Fun K x qual st f fd)(h:∀(kV doc pm:W1) (an:sD sF) (cdv ct:W1) (us:Gc W1),us.length=ps.length->bindArgs (v3 x qual (Ir st) (Ba st) (AF st) .none kV doc pm an cdv ct) ⟨us,[]⟩=pure (ps.zip us)):Binds K fd ps []:=by
 obtain⟨oc,od,kV,doc,pm,an,cdv,ct,osl,rfl,lk,hcd⟩:=F.ex
 exact .all (h kV doc pm an cdv ct)
theorem g9{x qual:Str}{st:tP}{f:sF}{oc:W1}{od an:sD sF}{osl:uI (sD W1)}{kV doc pm cdv ct:W1}(l:K.lookup f=Fk ⟨oc,od,.func (v3 x qual (Ir st) (Ba st) (AF st) .none kV doc pm an cdv ct),osl⟩)(c:xh K cdv qual=true)(k:vG K (.ref f)=true):Fun K x qual st f (v3 x qual (Ir st) (Ba st) (AF st) .none kV doc pm an cdv ct):=⟨⟨oc,od,kV,doc,pm,an,cdv,ct,osl,rfl,l,c⟩,k⟩
end
section
variable{X:Cx}
theorem pv(i:Nat){x:Str}{pos:Pos}(hN:X.N[i]?=Fk x:=by rfl)(hv:Vis X.env.scope x:=by first|exact Or.inl rfl|exact Or.inr (Or.inl rfl)|exact Or.inr (Or.inr rfl))(hd:(x==("__debug__":Str))=false:=by decide)(hcd:(x==("__classdict__":Str))=false:=by decide):PE X (.Name x pos) (oB i):=KN hN hv hd hcd
end
theorem bQ{A B:Prop}(h:B):if false=true then A else B:=by
 rw[tN uE]
 exact h
theorem bT{A B:Prop}(h:A):if true=true then A else B:=by
 rw[tK rfl]
 exact h
def By(H H':Hp):Prop:=∀b o,H b=Fk o->H' b=Fk o
end L2
end
noncomputable section
namespace L2
open PySem PySem.Spec PyProof.Rows
noncomputable def FW(cells:Gc (Str×sF)):Gc (Str×wH)->Gc (Str×sF)->Gc (Str×sF)
 | [],cs=>cs
 |(n,k)::r,cs=>if(k==ub)=true then FW cells r ((n,(cells.lookup n).getD 0)::cs)else FW cells r cs
theorem PB{env:Env}:∀(names:Gc (Str×wH)) (cs:Gc (Str×sF)),(∀y∈names,y.2=.free->∃a,env.cells.lookup y.1=Fk a)->(forIn names cs λ(x:Str×wH) r=>match x with|(name,kind)=>if(kind==ub)=true then(do let a<-cellOf env name;pure (yR ((name,a)::r)))else pure (yR r):Sem (Gc (Str×sF)))=pure (FW env.cells names cs)
 | [],cs,_=>by simp[FW]
 |(n,k)::r,cs,h=>by
  rw[zm]
  have ih:=λcs=>PB r cs λy hy=>h y (sQ _ hy)
  by_cases hk:(k==ub)=true
  .obtain⟨a,ha⟩:=h (n,k) sZ (by simpa using hk)
   have ha':env.cells.lookup n=Fk a:=ha
   have e:cellOf env n=pure a:=by unfold cellOf;rw[ha']
   simp only[hk,xP,e,pure_bind,FW,ha',Option.getD_some]
   exact ih _
  .simp only[hk,xk,pure_bind,FW]
   exact ih _
theorem Ny{scope:uZ}{env:Env}(h:∀y∈scope.names,y.2=.free->∃a,env.cells.lookup y.1=Fk a):closureFor scope env=pure (FW env.cells scope.names []):=by
 unfold closureFor
 have:=PB (env:=env) scope.names [] h
 simp only[bind_pure]at this⊢
 exact this
theorem JY{cells:Gc (Str×sF)}{x:Str}{c:sF}:∀{names:Gc (Str×wH)} {cs:Gc (Str×sF)},(∀y∈names,y.2=.free->∃a,cells.lookup y.1=Fk a)->(FW cells names cs).lookup x=Fk c->cs.lookup x=Fk c\/cells.lookup x=Fk c
 | [],cs,_,h=>.inl h
 |(n,k)::r,cs,hh,h=>by
  have hr:∀y∈r,y.2=.free->∃a,cells.lookup y.1=Fk a:=λy hy=>hh y (sQ _ hy)
  unfold FW at h
  by_cases hk:(k==ub)=true
  .rw[tK hk]at h
   rcases JY hr h with q|q
   .obtain⟨a,ha⟩:=hh (n,k) sZ (by simpa using hk)
    have ha':cells.lookup n=Fk a:=ha
    rw[uu]at q
    cases hx:x==n with
    |true=>
     rw[hx,ha']at q
     have e:x=n:=by simpa using hx
     subst e
     cases q
     exact .inr ha'
    |false=>
     rw[hx]at q
     exact .inl q
   .exact .inr q
  .rw[tN hk]at h
   exact JY hr h
theorem GO{cells:Gc (Str×sF)}{x:Str}:∀{names:Gc (Str×wH)} {cs:Gc (Str×sF)},((x,ub)∈names\/∃c,cs.lookup x=Fk c)->∃c,(FW cells names cs).lookup x=Fk c
 | [],cs,h=>h.elim (λz=>nomatch z) id
 |(n,k)::r,cs,h=>by
  unfold FW
  by_cases hk:(k==ub)=true
  .rw[tK hk]
   refine GO ?_
   by_cases hx:x=n
   .subst hx
    exact .inr ⟨_,by rw[uu,beq_self_eq_true]⟩
   .rcases h with h|⟨c,h⟩
    .rcases sN.mp h with e|e
     .cases e;exact absurd rfl hx
     .exact .inl e
    .refine .inr ⟨c,?_⟩
     rw[uu,show(x==n)=false by simpa using hx]
     exact h
  .rw[tN hk]
   refine GO ?_
   rcases h with h|h
   .rcases sN.mp h with e|e
    .cases e;exact absurd rfl hk
    .exact .inl e
   .exact .inr h
theorem J8{env:Env}{x:Str}:∀{names:Gc (Str×wH)},names.lookup x=Fk .free->(names.map λ(n,k)=>if(k==ub && env.scope.kind== .function && env.kindOf n==Fk .cell)then(n,wW)else(n,k)).lookup x=Fk .cell\/(names.map λ(n,k)=>if(k==ub && env.scope.kind== .function && env.kindOf n==Fk .cell)then(n,wW)else(n,k)).lookup x=Fk .free
 | [],h=>by simp at h
 |(n,k)::r,h=>by
  have ih:= @J8 env x r
  show yL x ((if(k==ub && env.scope.kind== .function && env.kindOf n==Fk .cell)=true then(n,wW)else(n,k))::_)=_\/yL x ((if(k==ub && env.scope.kind== .function && env.kindOf n==Fk .cell)=true then(n,wW)else(n,k))::_)=_
  cases hx:x==n with
  |true=>
   simp only[uu,hx]at h
   cases h
   by_cases hc:(ub==ub && env.scope.kind== .function && env.kindOf n==Fk .cell)=true
   .rw[tK hc];simp only[uu,hx];exact .inl trivial
   .rw[tN hc];simp only[uu,hx];exact .inr trivial
  |false=>
   simp only[uu,hx]at h
   by_cases hc:(k==ub && env.scope.kind== .function && env.kindOf n==Fk .cell)=true
   .rw[tK hc];simp only[uu,hx];exact ih h
   .rw[tN hc];simp only[uu,hx];exact ih h
theorem LF{env:Env}{scope:uZ}{x:Str}{k':wH}(hk:k'=.cell\/k'=.free)(h:(relabel scope env).names.lookup x=Fk k'):(x,ub)∈scope.names\/(x,wW)∈scope.names:=by
 have hm:=uF h
 obtain⟨⟨n,k⟩,hy,e⟩:=uG.mp (show(x,k')∈scope.names.map _ from hm)
 by_cases hc:(k==ub && env.scope.kind== .function && env.kindOf n==Fk .cell)=true
 .simp only[hc,xP]at e
  cases e
  have:k=.free:=by
   have:=((sU _ _).mp hc).1
   exact vc.mp ((sU _ _).mp this).1
  subst this
  exact .inl hy
 .simp only[hc,xk]at e
  cases e
  rcases hk with rfl|rfl
  .exact .inr hy
  .exact .inl hy
theorem B2:∀(names:Gc (Str×wH)) (n:Nat) (cs:Gc (Str×sF)),cellsFrom n names cs=cellsFrom n names []++cs
 | [],_,_=>rfl
 |(x,k)::r,n,cs=>by
  unfold cellsFrom
  split
  .rw[B2 r _ ((x,n)::cs),B2 r _ [(x,n)]];simp
  .exact B2 r n cs
theorem Gk{x:Str}{c:sF}:∀{names:Gc (Str×wH)} {n:Nat},(x,c)∈cellsFrom n names []->(x,wW)∈names
 | [],_,h=>nomatch h
 |(y,k)::r,n,h=>by
  unfold cellsFrom at h
  split at h
  .rename_i hk
   rw[B2]at h
   rcases sx.mp h with z|z
   .exact sQ _ (Gk z)
   .have e:=tJ.mp z
    cases e
    rw[vc.mp hk]
    exact sZ
  .exact sQ _ (Gk h)
theorem Jn{M:AAd}{A:tM}{E:W1->sE->Prop}{s:sE}{scope:uZ}{globals:sF}{cl:Gc (Str×sF)}{qual:Str}{env:Env}{Q:Env->sE->Prop}(hQ:∀h':tT,h'.Ns s.heap.objs.size (λ_=>none)->(∀b o,s.heap.get? b=Fk o->h'.get? b=Fk o)->CellsOk h' (s.heap.objs.size+1) (cellsFrom (s.heap.objs.size+1) scope.names [])->Q (newEnv scope s.heap.objs.size globals (cellsFrom (s.heap.objs.size+1) scope.names cl) qual none .none (Fk env) builtinsNs) {s with heap:=h'}):wpAny M A (newFunctionEnv scope globals cl [] qual none .none (Fk env)) Q E s:=by
 simp only[newFunctionEnv,Option.isSome_some,xP]
 refine rz (wpAny_alloc ?_)
 refine rz (wpAny_layCells _ (λname kind cells=>by cases hkc:kind==wW<;>simp[hkc]) _ _ _ _ ?_)
 have ok:=cellsFrom_ok scope.names (s.heap.push {cls:=.type "dict",data:=.dict #[]}) (s.heap.objs.size+1) [] ⟨λ_ _ hm=>(nomatch hm),List.Pairwise.nil⟩ (by rw[uo];exact sM _)
 rw[uo]at ok
 rw[show({s with heap:=s.heap.push {cls:=.type "dict",data:=.dict #[]}}:sE).heap.objs.size=s.heap.objs.size+1 from uo ..]
 rw[AAB]
 refine rz (sR (sR ?_))
 exact hQ _ ((Heap.Ns.new s.heap (.type "dict")).keeps (pushCells_keeps _ _)) (λb o e=>pushCells_keeps _ _ b o (sC _ e)) ok
end L2
end
noncomputable section
namespace L2
open PySem PySem.Spec PyProof.Rows
noncomputable def Qc(N:Gc Str)(osc scope:uZ):Gc Str->Gc (sD Nat)->tV
 | [],[]=>true
 |_::r,none::q=>Qc N osc scope r q
 |x::r,Fk i::q=>decide (N[i]?=Fk x) && (decide (osc.names.lookup x=Fk .cell)||decide (osc.names.lookup x=Fk .free)) && decide (scope.names.lookup x=Fk .free) && Qc N osc scope r q
 |_,_=>false
theorem Ux{N:Gc Str}{osc scope:uZ}:∀{N':Gc Str} {ix:Gc (sD Nat)},Qc N osc scope N' ix=true->ix.length=N'.length
 | [],[],_=>rfl
 |_::r,none::q,h=>by
  unfold Qc at h
  simp[Ux h]
 |x::r,Fk i::q,h=>by
  unfold Qc at h
  have:=((sU _ _).mp h).2
  simp[Ux this]
 | [],_::_,h=>by simp[Qc]at h
 |_::_,[],h=>by simp[Qc]at h
theorem aR{N:Gc Str}{osc scope:uZ}:∀{N':Gc Str} {ix:Gc (sD Nat)},Qc N osc scope N' ix=true->∀{j i:Nat} {x:Str},N'[j]?=Fk x->ix[j]?=Fk (Fk i)->N[i]?=Fk x/\(osc.names.lookup x=Fk .cell\/osc.names.lookup x=Fk .free)/\scope.names.lookup x=Fk .free
 | [],[],_,j,_,_,h,_=>by simp at h
 |_::r,none::q,h,j,i,x,h1,h2=>by
  unfold Qc at h
  cases j with
  |zero=>simp at h2
  |succ j=>exact aR h (by simpa using h1) (by simpa using h2)
 |y::r,Fk k::q,h,j,i,x,h1,h2=>by
  unfold Qc at h
  obtain⟨ha,hr⟩:=(sU _ _).mp h
  obtain⟨ha,h3⟩:=(sU _ _).mp ha
  obtain⟨h4,h5⟩:=(sU _ _).mp ha
  cases j with
  |zero=>
   simp at h1 h2
   subst h1 h2
   refine⟨sd h4,?_,sd h3⟩
   rcases(uU _ _).mp h5 with z|z
   .exact .inl (sd z)
   .exact .inr (sd z)
  |succ j=>exact aR hr (by simpa using h1) (by simpa using h2)
 | [],_::_,h,_,_,_,_,_=>by simp[Qc]at h
 |_::_,[],h,_,_,_,_,_=>by simp[Qc]at h
structure AO(N:Gc Str)(osc:uZ)(N':Gc Str)(ix:Gc (sD Nat))(scope:uZ):Prop where
 kind:scope.kind=.function
 cells:∀y∈scope.names,y.2=.cell->scope.names.lookup y.1=Fk .cell
 names:∀y∈scope.names,y.2=.local->scope.names.lookup y.1=Fk .local
 free:∀y∈scope.names,y.2=.free->(osc.names.lookup y.1=Fk .cell\/osc.names.lookup y.1=Fk .free)
 ok:Qc N osc scope N' ix=true
noncomputable def sig(ix:Gc (sD Nat))(σ:St):St:=ix.map λo=>o.bind λi=>(σ[i]?).join
noncomputable def HQ(X:Cx)(N':Gc Str)(scope:uZ)(s:sE)(H:Hp)(fp:Gc sF):Cx where
 prog:=X.prog
 w:=X.w
 K:=X.K
 mg:=X.mg
 base:=X.base
 A:=X.A
 N:=N'
 s₀:=s
 H₀:=H
 env:=compEnvC scope (cellsFrom (s.heap.objs.size+1) scope.names (FW X.env.cells scope.names [])) s.heap.objs.size X.env
 outer:=X.stack
 stack:=X.stack
 ex:=fp
 fn:=λx=>decide (scope.names.lookup x=Fk .cell)
 calm:=true
 pn:=[]
 xe:=λ_ _=>vS
section
variable{X:Cx}{pins:Gc (sF×Obj)}{σ:St}{H:Hp}{s:sE}{N':Gc Str}{ix:Gc (sD Nat)}{scope:uZ}{fp:Gc sF}
theorem Inv.cellsOf(I:Inv X pins σ H s)(S:AO X.N X.env.scope N' ix scope):∀y∈scope.names,y.2=.free->∃a,X.env.cells.lookup y.1=Fk a:=λy hy hk=>I.ok.has y.1 (S.free y hy hk)
theorem Xt(S:AO X.N X.env.scope N' ix scope)(hc:X.calm=true)(I:Inv X pins σ H s)(hf:∀b∈fp,QB X pins H b)(hlt:∀b∈fp,b<s.heap.objs.size){h1:tT}{m1:Str->sD W1}{tk:Nat}(hn:h1.Ns s.heap.objs.size m1)(hk:∀b o,s.heap.get? b=Fk o->h1.get? b=Fk o)(hC:CellsOk h1 (s.heap.objs.size+1) (cellsFrom (s.heap.objs.size+1) scope.names [])):Inv (HQ X N' scope s H fp) [] (sig ix σ) H {s with heap:=h1,toks:=tk}:=by
 have hcl:=I.cellsOf S
 have sub:∀{x:Str} {c:sF},(FW X.env.cells scope.names []).lookup x=Fk c->X.env.cells.lookup x=Fk c:=λ{x c} h=>by
  rcases JY hcl h with z|z
  .simp at z
  .exact z
 have old:∀{x:Str} {c:sF},X.env.cells.lookup x=Fk c->c<s.heap.objs.size:=λ{x c} h=>by
  obtain⟨v,oc,ho,_⟩:=I.cell x c h
  exact sW ho
 have look:∀{x:Str} {c:sF},(cellsFrom (s.heap.objs.size+1) scope.names (FW X.env.cells scope.names [])).lookup x=Fk c->(x,c)∈cellsFrom (s.heap.objs.size+1) scope.names []\/X.env.cells.lookup x=Fk c:=λ{x c} h=>by
  rw[B2,xR]at h
  cases e:(cellsFrom (s.heap.objs.size+1) scope.names []).lookup x with
  |some a=>rw[e]at h;cases h;exact .inl (uF e)
  |none=>rw[e]at h;exact .inr (sub h)
 refine⟨⟨I.ok.mod,S.kind,I.ok.glob,I.ok.blt,sM _,λx y c h1 h2=>?_,λx hx=>?_,λx c hx h=>?_,λ_=>I.ok.hd hc,I.ok.frames,.inl rfl,λb hb=>?_,I.bs,sL I.ok.bsz I.sz,λb o e hb=>?_,λb hb hs=>?_,I.stack,I.P7⟩,
  rfl,I.bare,Un.kept hk,⟨m1,hn,λj x v h1 h2 h3=>?_⟩,λx c h=>?_,I.hok.fresh (sM _),λx c h=>?_,λp hp=>absurd (show p∈([]:Gc (sF×Obj))from hp) (by simp),I.hok.kept hk,?_⟩
 . -- inj
   rcases look h1 with a|a<;>rcases look h2 with b|b
   .exact name_of_addr hC.apart a b
   .exact absurd (sI (old b) (wc (hC.empty _ _ a).2)) (uj _)
   .exact absurd (sI (old a) (wc (hC.empty _ _ b).2)) (uj _)
   .exact I.ok.inj x y c a b
 . -- has
   have hx':(relabel scope X.env).names.lookup x=Fk .cell\/(relabel scope X.env).names.lookup x=Fk .free:=hx
   show∃c,(cellsFrom (s.heap.objs.size+1) scope.names (FW X.env.cells scope.names [])).lookup x=Fk c
   rw[B2,xR]
   cases e:(cellsFrom (s.heap.objs.size+1) scope.names []).lookup x with
   |some a=>exact⟨a,rfl⟩
   |none=>
    rcases(hx'.elim (LF (.inl rfl)) (LF (.inr rfl)))with z|z
    .exact GO (.inl z)
    .obtain⟨c,hc⟩:=Km (n:=s.heap.objs.size+1) (S.cells _ z rfl)
     rw[e]at hc;cases hc
 . -- cab
   obtain⟨c',hc'⟩:=Km (n:=s.heap.objs.size+1) (sd hx)
   have h:(cellsFrom (s.heap.objs.size+1) scope.names (FW X.env.cells scope.names [])).lookup x=Fk c:=h
   rw[B2,xR,hc']at h
   cases h
   exact wc (hC.empty _ _ (uF hc')).2
 . -- exf
   refine⟨tE (hlt b hb),λx c h=>?_⟩
   rcases look h with a|a
   .exact λe=>absurd (sI (e▸hlt b hb) (wc (hC.empty _ _ a).2)) (uj _)
   .exact(hf b hb).2.2.2.2.1 x c a
 . -- Yn
   rcases(hf b hb).2.2.2.1 with z|z
   .exact I.ok.Yn b o e z
   .exact absurd (sI (sW (I.ok.bs b o e).1) z) (uj _)
 . -- cJ
   rcases sN.mp (I.TU b hs)with z|z
   .exact(hf b hb).2.1 z
   .exact(hf b hb).2.2.1 z
 . -- loc
   unfold sig at h2
   rw[sP]at h2
   cases e:ix[j]? with
   |none=>rw[e]at h2;cases h2
   |some o=>
    rw[e]at h2
    cases o with
    |none=>cases h2
    |some i=>
     have h2':(σ[i]?).join=Fk v:=by simpa using h2
     have h4:σ[i]?=Fk (Fk v):=by
      cases e4:σ[i]? with
      |none=>rw[e4]at h2';cases h2'
      |some q=>rw[e4]at h2';exact congrArg Fk h2'
     obtain⟨q1,q2,q3⟩:=aR S.ok h1 e
     obtain⟨m,_,hl⟩:=I.loc
     obtain⟨u,r,l⟩:=hl i x v q1 h4 (q2.elim (λz=>.inr (.inl z)) λz=>.inr (.inr z))
     refine⟨u,r,?_⟩
     rcases l with⟨l,_⟩|⟨_,c,lc,z⟩
     .have l':X.env.scope.names.lookup x=Fk .local:=l
      rcases q2 with z|z<;>(rw[z]at l';cases l')
     .refine .inr ⟨J8 q3,?_⟩
      obtain⟨c',hc'⟩:=GO (cells:=X.env.cells) (cs:=[]) (.inl (uF q3))
      have ec:=sub hc'
      rw[lc]at ec
      cases ec
      have no:(cellsFrom (s.heap.objs.size+1) scope.names []).lookup x=none:=by
       cases e:(cellsFrom (s.heap.objs.size+1) scope.names []).lookup x with
       |none=>rfl
       |some a=>
        have q:=S.cells _ (Gk (uF e)) rfl
        rw[q3]at q;cases q
      refine⟨c,(by show(cellsFrom (s.heap.objs.size+1) scope.names (FW X.env.cells scope.names [])).lookup x=Fk c;rw[B2,xR,no];exact hc'),?_⟩
      obtain⟨oc,ho,hd⟩:=z
      exact⟨oc,hk _ _ ho,hd⟩
 .rcases look h with a|a
  .exact⟨_,(hC.empty _ _ a).1⟩
  .obtain⟨v,oc,ho,hd⟩:=I.cell x c a
   exact⟨v,oc,hk _ _ ho,hd⟩
 .rcases look h with a|a
  .exact I.hok.fresh (wc (hC.empty _ _ a).2)
  .exact I.Iq x c a
 .show(sig ix σ).length=N'.length
  unfold sig
  rw[tq]
  exact Ux S.ok
end
end L2
end
noncomputable section
namespace L2
open PySem PySem.Spec PyProof.Rows
def PTs(X:Cx)(ifs:Gc sk)(t:TT):Prop:=
 ∀(pins:Gc (sF×Obj)) (s:sE) (σ:St) (H:Hp) (Q:tV->Hp->Prop),Inv X pins σ H s->t σ H Q->
  wpAny (model X.prog X.w) X.A (forIn ifs true λc r=>if r=true then do let ok<-isTrue c X.env (eval c X.env);pure (yR ok)else pure (yR r)) (TP X pins σ Q) X.xe s
noncomputable def ki:TT:=λ_ H Q=>Q true H
theorem bZ{X:Cx}:PTs X [] ki:=λ_ _ _ H _ I h=>wpAny_tests_nil ⟨H,I,h⟩
theorem bO{X:Cx}{c:sk}{t:TT}(h:PT X c t):PTs X [c] t:=λpins s σ H Q I q=>wpAny_tests_one (h pins s σ H Q I q)
theorem W0{α:Type}{M:AAd}{A:tM}{t:Sem α}{Q:α->sE->Prop}{E:W1->sE->Prop}{s:sE}(h:wpAny M A t Q (λ_ _=>vS) s):wpAny M A t Q E s:=uh h (λ_ _ q=>q) λ_ _ f=>f.elim
def hJ(ix:Gc (sD Nat))(g:TG)(tc:TT)(te:TE)(J:It)(σ:St)(H:Hp)(Q:VK):Prop:=
 ∀D,H D=none->∃W:Nat->Nat->St->Hp->Gc V->Prop,(∃m,W 0 m (sig ix σ) (upd H D (.lst [])) [])/\∀i m σ H ys,W i m σ H ys->H D=Fk (.lst ys)/\
  ((J.stop i H/\Q (.ref D) H)\/(J.go i H/\ys.length<sizeLine/\∀x H',J.yld i H x H'->g x σ H' λσ2 H2=>tc σ2 H2 λb H3=>
    if b=true then te σ2 H3 λy H4=>H4 D=Fk (.lst ys)/\∃m',m'<m/\W (i+1) m' σ2 (upd H4 D (.lst (ys++[y]))) (ys++[y])else∃m',m'<m/\W (i+1) m' σ2 H3 ys))
noncomputable def Zl(ix:Gc (sD Nat))(wi:TI)(g:TG)(tc:TT)(te:TE):TE:=λσ H Q=>wi σ H λJ H1=>hJ ix g tc te J σ H1 Q
section
variable{X:Cx}{pins:Gc (sF×Obj)}{σ:St}{s₂:sE}{N':Gc Str}{ix:Gc (sD Nat)}{scope:uZ}{elt tg iter:sk}{ifs:Gc sk}{pos:Pos}{g:TG}{tc:TT}{te:TE}
def Block(X:Cx)(N':Gc Str)(scope:uZ)(tg:sk)(ifs:Gc sk)(elt:sk)(g:TG)(tc:TT)(te:TE):Prop:=
 ∀(s:sE) (H:Hp) (fp:Gc sF),PG (HQ X N' scope s H fp) tg g/\PTs (HQ X N' scope s H fp) ifs tc/\PE (HQ X N' scope s H fp) elt te
theorem VN {X' : Cx} {it : sF} {fp : Gc sF} {tn : Nat -> tT -> Prop} {J : It} {D : sF} {Q : VK} {R : Result -> sE -> Prop} {W : Nat -> Nat -> St -> Hp -> Gc V -> Prop} {s : sE} {e : Env} {n : Nat} (he : X'.env = e) (hx : X'.xe = fun _ _ => vS) (hcm : X'.calm = true) (T : Turn X'.prog X'.w X'.K tg J fp it tn) (hfp : ∀ H : Hp, (∀ b ∈ fp, H b = none) -> ∀ b ∈ fp, QB X' [] H b) (hg : PG X' tg g) (ht : PTs X' ifs tc) (hb : PE X' elt te) (turn : ∀ i m σ H ys, W i m σ H ys -> H D = Fk (.lst ys) /\ ((J.stop i H /\ Q (.ref D) H) ∨ (J.go i H /\ ys.length < sizeLine /\ ∀ x H', J.yld i H x H' -> g x σ H' fun σ2 H2 => tc σ2 H2 fun b H3 =>
        if b = true then te σ2 H3 fun y H4 => H4 D = Fk (.lst ys) /\ ∃ m', m' < m /\ W (i + 1) m' σ2 (upd H4 D (.lst (ys ++ [y]))) (ys ++ [y]) else ∃ m', m' < m /\ W (i + 1) m' σ2 H3 ys)))
    (hR : ∀ s' σ' H', Inv X' [] σ' H' s' -> Q (.ref D) H' -> R (.ok .next) s')
    (h0 : ∃ i σ' H' ys, Inv X' [] σ' H' s /\ tn i s.heap /\ (∀ b ∈ fp, H' b = none) /\ W i n σ' H' ys) :
    codeAny (model X'.prog X'.w) X'.A (.compLoop (.ListComp elt [⟨tg, iter, ifs, 0⟩] scope pos) 0 (.ref it) (.ref D) e) R s := by
  subst he
  refine codeAny_loop rfl (fun n s => ∃ i σ' H' ys, Inv X' [] σ' H' s /\ tn i s.heap /\ (∀ b ∈ fp, H' b = none) /\ W i n σ' H' ys) (fun n s3 hI => ?_) n h0
  show wpAny _ X'.A ((compTurn (.ListComp elt [⟨tg, iter, ifs, 0⟩] scope pos) 0 (.ref it) (.ref D) X'.env).onRaise (fun x => do noteFrame x X'.env; theTreesLotGoes x)) _ _ s3
  refine wpAny_noted (W0 ?_)
  rw [compTurn_list]
  obtain ⟨i, σ3, H3, ys, I3, st3, fr3, w3⟩ := hI
  obtain ⟨hD, alt⟩ := turn i n σ3 H3 ys w3
  rcases alt with ⟨stop, q⟩ | ⟨go, hlen, step⟩
  · refine rz (vg (rz (thn (T.done X' rfl rfl rfl hcm i [] s3 σ3 H3 _ I3 (hfp H3 fr3) st3 stop) fun r s4 ⟨hr, I4⟩ => ?_)))
    subst hr
    exact sR (hR s4 σ3 H3 I4 q)
  · refine rz (vg (rz (thn (T.item X' rfl rfl rfl hcm i [] s3 σ3 H3 _ I3 (hfp H3 fr3) st3 go) fun r s4 ⟨u, hr, h4⟩ => ?_)))
    subst hr
    refine rz (thn h4 fun _ s5 ⟨x, H5, I5, r5, y5, st5, fr5⟩ => ?_)
    have I5' := I5.pinned (hfp H5 fr5) (T.obj _ _ st5)
    have hg' := hg _ s5 σ3 H5 x u _ I5' r5 (step x H5 y5)
    rw [hx] at hg'
    refine rz (thn hg' fun _ s6 ⟨σ6, H6, I6, q6⟩ => ?_)
    have ht' := ht _ s6 σ6 H6 _ I6 q6
    rw [hx] at ht'
    refine rz (thn ht' fun ok s7 ⟨H7, I7, q7⟩ => ?_)
    have again : ∀ {s8 : sE} {H8 : Hp} {zs : Gc V} {m' : Nat}, Inv X' ([] ++ PM fp s5.heap) σ6 H8 s8 -> m' < n -> W (i + 1) m' σ6 H8 zs -> ∃ m, m < n /\ ∃ i σ' H' ys, Inv X' [] σ' H' s8 /\ tn i s8.heap /\ (∀ b ∈ fp, H' b = none) /\ W i m σ' H' ys := fun {s8 H8 zs m'} I8 hm w8 => by
      refine ⟨m', hm, i + 1, σ6, H8, zs, I8.Ki, T.keep _ _ _ st5 fun b hb o e => (I8.pin (b, o) (uJ _ (uJ _ (IG hb e)))).1, fun b hb => ?_, w8⟩
      obtain ⟨o, e, d⟩ := T.obj _ _ st5 b hb
      exact (I8.pin (b, o) (uJ _ (uJ _ (IG hb e)))).2.1
    cases ok with
    | false =>
      rw [tN (by decide)] at q7
      obtain ⟨m', hm, w7⟩ := q7
      exact sR ⟨rfl, again I7 hm w7⟩
    | true =>
      rw [tK rfl] at q7
      have hb' := hb _ s7 σ6 H7 _ I7 q7
      rw [hx] at hb'
      refine rz (rz (thn hb' fun v s8 ⟨y, H8, I8, r8, hD8, m', hm, w8⟩ => ?_))
      have ha := Oe (X := X') _ s8 σ6 H8 (.ref D) [y] (.ref D) [v] (fun _ H9 => H9 = upd H8 D (.lst (ys ++ [y]))) I8 rfl (.cons r8 .nil) ⟨D, ys, y, rfl, rfl, hD8, hlen, rfl⟩
      rw [hx] at ha
      refine rz (thn ha fun _ s9 ⟨_, H9, I9, _, e9⟩ => ?_)
      subst e9
      exact sR (sR ⟨rfl, again I9 hm w8⟩)
theorem Qv(hc:X.calm=true)(S:AO X.N X.env.scope N' ix scope)(hb:Block X N' scope tg ifs elt g tc te){it:sF}{fp:Gc sF}{tn:Nat->tT->Prop}{J:It}{H₂:Hp}{Q:VK}{E:W1->sE->Prop}{RR:W1->sF->Result->sE->Prop}(I2:Inv X pins σ H₂ s₂)(T:Turn X.prog X.w X.K tg J fp it tn)(st2:tn 0 s₂.heap)(f2:∀b∈fp,QB X pins H₂ b)(hW:hJ ix g tc te J σ H₂ Q)(hRR:∀D C H' s',Inv X pins σ H' s'->(∃m,s'.heap.Ns C m)->QB X pins H' C->Q (.ref D) H'->RR (.ref D) C (.ok .next) s'):wpAny (model X.prog X.w) X.A (newList []) (λacc s₃=>wpAny (model X.prog X.w) X.A (newFunctionEnv scope X.env.globals (FW X.env.cells scope.names []) [] X.env.qual none .none (Fk X.env)) (λcenv s₄=>
  codeAny (model X.prog X.w) X.A (.compStart (.ListComp elt [⟨tg,iter,ifs,0⟩] scope pos) 0 (.ref it) acc {cenv with scope:=relabel scope X.env}) (RR acc cenv.locals) s₄) E s₃) E s₂:=by
 have hD0:H₂ s₂.heap.objs.size=none:=I2.hok.fresh (sM _)
 have hlt2:∀b∈fp,b<s₂.heap.objs.size:=λb hb=>by
  obtain⟨o,e,_⟩:=T.obj _ _ st2 b hb
  exact sW e
 refine vF (Jn (λh₁ hns₁ hsb₁ hcl₁=>?_))
 have I3:Inv X pins σ (upd H₂ s₂.heap.objs.size (.lst [])) {s₂ with heap:=s₂.heap.push {cls:=.type "list",dict:=none,data:=.seq ([]:Gc W1).toArray}}:=
  I2.laid (t':=s₂.toks) (λb u e=>sC _ e) (sM _) ⟨ux _,[],0,.nil,sg _ rfl⟩
 have f3:∀b∈fp,QB X pins (upd H₂ s₂.heap.objs.size (.lst [])) b:=λb hb=>⟨by rw[Ad (tE (hlt2 b hb))];exact(f2 b hb).1,(f2 b hb).2⟩
 have k3:∀b o,s₂.heap.get? b=Fk o->(s₂.heap.push {cls:=.type "list",dict:=none,data:=.seq ([]:Gc W1).toArray}).get? b=Fk o:=λb o e=>sC _ e
 dsimp only at hns₁ hsb₁ hcl₁⊢
 generalize hs3:({s₂ with heap:=s₂.heap.push {cls:=.type "list",dict:=none,data:=.seq ([]:Gc W1).toArray}}:sE)=s₃ at I3
 have eh:s₂.heap.push {cls:=.type "list",dict:=none,data:=.seq ([]:Gc W1).toArray}=s₃.heap:=by rw[<-hs3]
 have et:s₂.toks=s₃.toks:=by rw[<-hs3]
 have es:∀(h:tT) (t:Nat),({s₂ with heap:=h,toks:=t}:sE)={s₃ with heap:=h,toks:=t}:=λh t=>by rw[<-hs3]
 rw[eh]at hns₁ hsb₁ hcl₁ k3⊢
 have hlt3:∀b∈fp,b<s₃.heap.objs.size:=λb hb=>by
  obtain⟨o,e,_⟩:=T.obj _ _ st2 b hb
  exact sW (k3 b o e)
 have k4:∀b o,s₃.heap.get? b=Fk o->h₁.get? b=Fk o:=hsb₁
 obtain⟨W,⟨m0,w0⟩,turn⟩:=hW _ hD0
 have I4:∀tk,Inv (HQ X N' scope s₃ (upd H₂ s₂.heap.objs.size (.lst [])) fp) [] (sig ix σ) (upd H₂ s₂.heap.objs.size (.lst [])) {s₃ with heap:=h₁,toks:=tk}:=λtk=>Xt S hc I3 f3 hlt3 hns₁ k4 hcl₁
 have st4:tn 0 h₁:=T.keep _ _ _ st2 λb hb o e=>k4 b o (k3 b o e)
 obtain⟨bg,bt,be⟩:=hb s₃ (upd H₂ s₂.heap.objs.size (.lst [])) fp
 have noX:∀(H:Hp),(∀b∈fp,H b=none)->∀b∈fp,QB (HQ X N' scope s₃ (upd H₂ s₂.heap.objs.size (.lst [])) fp) [] H b:=λH hn b hb=>by
  obtain⟨_,h2,h3⟩:=f3 b hb
  refine⟨hn b hb,tE (hlt3 b hb),λhs=>(I4 0).ok.cJ b hb hs,.inl hb,λx c h=>?_,λp hp=>absurd (show p∈([]:Gc (sF×Obj))from hp) (by simp)⟩
  exact((I4 0).ok.exf b hb).2 x c h
 have fin:∀(s':sE) (σ':St) (H':Hp),Inv (HQ X N' scope s₃ (upd H₂ s₂.heap.objs.size (.lst [])) fp) [] σ' H' s'->Q (.ref s₂.heap.objs.size) H'->RR (.ref s₂.heap.objs.size) s₃.heap.objs.size (.ok .next) s':=λs' σ' H' I' q=>by
  refine hRR _ _ H' s' ?_ (let⟨m,hn,_⟩:=I'.loc;⟨m,hn⟩) (I3.ZY (sM _) I'.free) q
  exact I3.aw I'.os I'.base I'.hok I'.bare λb hb=>⟨(f3 b hb).2.2.2.1,(f3 b hb).2.1,(f3 b hb).2.2.2.2.1,(f3 b hb).2.2.2.2.2⟩
 have loop:∀tk,codeAny (model X.prog X.w) X.A (.compLoop (.ListComp elt [⟨tg,iter,ifs,0⟩] scope pos) 0 (.ref it) (.ref s₂.heap.objs.size) (compEnvC scope (cellsFrom (s₃.heap.objs.size+1) scope.names (FW X.env.cells scope.names [])) s₃.heap.objs.size X.env)) (RR (.ref s₂.heap.objs.size) s₃.heap.objs.size) {s₃ with heap:=h₁,toks:=tk}:=λtk=>
  VN (X':=HQ X N' scope s₃ (upd H₂ s₂.heap.objs.size (.lst [])) fp) (D:=s₂.heap.objs.size) (Q:=Q) (W:=W) rfl rfl rfl T noX bg bt be turn fin ⟨0,_,_,_,I4 tk,st4,λb hb=>(f3 b hb).1,w0⟩
 rw[es]
 exact codeAny_compStart_list (loop _) (T.self _ 0 _ _ _ st4 (loop _))
theorem aI{wi:TI}(hc:X.calm=true)(S:AO X.N X.env.scope N' ix scope)(hi:PI X tg iter wi)(hb:Block X N' scope tg ifs elt g tc te)(hs:∀x,foldedSetIterable iter X.env x=pure x:=by intro _;rfl):PE X (.ListComp elt [⟨tg,iter,ifs,0⟩] scope pos) (Zl ix wi g tc te):=by
 intro pins s σ H Q I h
 rw[eval_ListComp]
 refine zB (use:=none) rfl hs (Ny (I.cellsOf S)) S.kind S.names (thn (hi pins s σ H _ I h) λv s1 h1=>thn h1 λitv s2 h2=>?_)
 obtain⟨it,fp,tn,J,H2,e,I2,T,st2,f2,hW⟩:=h2
 subst e
 refine Qv (RR:=λacc C=>compPost (model X.prog X.w) X.A X.xe none (EP X pins σ Q) acc C) hc S hb I2 T st2 f2 hW ?_
 intro D C H' s' I' hm hC q
 obtain⟨m,hm⟩:=hm
 refine⟨m,hm,λh' hs'=>⟨.ref D,H',I'.turned (it:=C) (t':=s'.toks) (λb o hb e=>hs'.extBut b o hb e) hC.1 hC.2.1 hC.2.2.2.1 hC.2.2.2.2.1 hC.2.2.2.2.2,rfl,q⟩⟩
end
end L2
end
noncomputable section
namespace L2
open PySem PySem.Spec PyProof.Rows
section
variable{X:Cx}{N':Gc Str}{ix:Gc (sD Nat)}{scope:uZ}{elt tg iter:sk}{ifs:Gc sk}{pos spos py:Pos}{g:TG}{tc:TT}{te:TE}{wi:TI}{i:Nat}{y:Str}
theorem Ra(hc:X.calm=true)(hN:X.N.Nodup)(hi':X.N[i]?=Fk y)(hx:X.env.scope.names.lookup y=Fk .local)(S:AO X.N X.env.scope N' ix scope)(hi:PI X tg iter wi)(hb:Block X N' scope tg ifs elt g tc te)(hsw:swapsWith (.ListComp elt [⟨tg,iter,ifs,0⟩] scope pos) (Fk (.Name y py)) spos.line X.env=pure true:=by rfl)(hs:∀x,foldedSetIterable iter X.env x=pure x:=by intro _;rfl):PS X (.Assign [.Name y py] (.ListComp elt [⟨tg,iter,ifs,0⟩] scope pos) spos) (my (Zl ix wi g tc te) (bu i)):=by
 intro pins s σ H D I h
 rw[exec_Assign_Name_used _ _ _ _ hsw]
 refine rz (vg (rz ?_))
 show wpAny _ X.A (do let _<-comprehension (.ListComp elt [⟨tg,iter,ifs,0⟩] scope pos) scope X.env _ (newList []) false (eval iter X.env) (Fk (assign (.Name y py) X.env))) _ _ s
 refine rz (uh (zB (use:=Fk (assign (.Name y py) X.env)) (Q:=λ_ s'=>SP X pins D .next s') rfl hs (Ny (I.cellsOf S)) S.kind S.names
  (thn (hi pins s σ H _ I h) λv s1 h1=>thn h1 λitv s2 h2=>?_)) (λ_ s' hq=>sR (sR hq)) λ_ _ e=>e)
 obtain⟨it,fp,tn,J,H2,e,I2,T,st2,f2,hW⟩:=h2
 subst e
 refine Qv (RR:=λacc C=>compPost (model X.prog X.w) X.A X.xe (Fk (assign (.Name y py) X.env)) (λ_ s'=>SP X pins D .next s') acc C) hc S hb I2 T st2 f2 hW ?_
 intro L C H' s' I' hm hC q
 obtain⟨m,hm⟩:=hm
 show wpAny _ X.A (assign (.Name y py) X.env (.ref L)) _ _ _
 refine wpAny_assign_Name (PH I' hN hi' (.inl hx) (v:=.ref L) rfl (λs'' I'' ⟨a,sb,ha⟩=>?_) (.inr hx))
 have hCa:C≠a:=by
  rcases ha with rfl|ha
  .exact hC.2.1
  .exact uO (hC.2.2.2.2.1 y a ha)
 refine⟨m,hm.sameBut sb hCa,λh' hs'=>?_⟩
 exact⟨_,H',I''.turned (it:=C) (t':=s''.toks) (λb o hb e=>hs'.extBut b o hb e) hC.1 hC.2.1 hC.2.2.2.1 hC.2.2.2.2.1 hC.2.2.2.2.2,q⟩
end
end L2
end
noncomputable section
namespace L2
open PySem PySem.Spec PyProof.Rows
section
variable{κ:Type} [DecidableEq κ]
noncomputable def putK(kvs:Gc (κ×V))(k:κ)(v:V):Gc (κ×V):=
 if(kvs.any λkv=>decide (kv.1=k))=true then kvs.map (λkv=>if kv.1=k then(kv.1,v)else kv)else kvs++[(k,v)]
theorem Py(kvs:Gc (κ×V))(k:κ)(v:V):(putK kvs k v).length<=kvs.length+1:=by
 unfold putK
 split
 .rw[tq];lia
 .rw[uN,tY,vA];lia
theorem KV.any{kvs:Gc (κ×V)}{vs:Gc (κ×W1)}(r:KV kvs vs)(k:κ):(kvs.any λkv=>decide (kv.1=k))=vs.any λkv=>decide (kv.1=k):=by
 unfold KV at r
 induction r with
 |nil=>rfl
 |cons h t ih=>rw[vh,vh,ih,h.1]
theorem KV.iR{kvs:Gc (κ×V)}{vs:Gc (κ×W1)}(r:KV kvs vs)(k:κ){y:V}{u:W1}(ry:RelV y u):KV (kvs.map λkv=>if kv.1=k then(kv.1,y)else kv) (vs.map λkv=>if kv.1=k then(kv.1,u)else kv):=by
 unfold KV at r⊢
 induction r with
 |nil=>exact .nil
 | @cons p q ps qs h t ih=>
   rw[su,su]
   refine .cons ?_ ih
   obtain⟨h1,h2⟩:=h
   by_cases e:p.1=k
   .rw[tK e,tK (h1.symm.trans e)];exact⟨h1,ry⟩
   .rw[tN e,tN (λz=>e (h1.trans z))];exact⟨h1,h2⟩
theorem KV.put{kvs:Gc (κ×V)}{vs:Gc (κ×W1)}(r:KV kvs vs)(k:κ){y:V}{u:W1}(ry:RelV y u):KV (putK kvs k y) (stored vs k u):=by
 unfold putK stored
 rw[r.any k]
 by_cases e:(vs.any λkv=>decide (kv.1=k))=true
 .rw[tK e,tK e];exact r.iR k ry
 .rw[tN e,tN e];exact Paired.snoc r ⟨rfl,ry⟩
end
theorem fE{P:sj}{w:tu}{k:Key}{u:W1}(r:RelV (kV k) u):(Dg P w).is k u=true:=by
 cases k with
 |inl i=>obtain⟨t,e⟩:=(show∃t,u=zG i t from r);subst e;exact QJ P w i t
 |inr x=>obtain⟨t,e⟩:=(show∃t,u=zH x t from r);subst e;exact QE P w x t
theorem Ot{P:sj}{w:tu}:∀{ks:Gc Key} {us:Gc W1},Vals (ks.map kV) us->ItemsAre (Dg P w) ks us
 | [],_,r=>by rw[vB]at r;cases r;exact .nil
 |k::ks,_,r=>by
  rw[su]at r
  cases r with
  |cons h t=>exact .cons (fE h) (Ot t)
abbrev KT(H:Hp):Gc (Gc Key×V)->Gc (Gc Key×sF×W1)->Prop:=Paired λp q=>p.1=q.1/\H q.2.1=Fk (.tup (p.1.map kV))/\RelV p.2 q.2.2
section
variable{P:sj}{w:tu}{H:Hp}{h:tT}{a:sF}
theorem fA{u:HO}(ok:HOk P w H h)(e:Rd H a u):DF P w H h a u:=e.ok ok
theorem lM{kvs:Gc (Key×V)}(ok:HOk P w H h)(e:Rd H a (.dK kvs)):kvs.length<=sizeLine/\(a==sysModules)=false/\∃vs,KV kvs vs/\h.DictOf (Dg P w) a vs:=
 show DF P w H h a (.dK kvs)from fA ok e
theorem nN{kvs:Gc (Key×V)}(ok:HOk P w H h)(e:H a=Fk (.dK kvs)):kvs.length<=sizeLine/\(a==sysModules)=false/\∃vs,KV kvs vs/\h.DictOf (Dg P w) a vs:=lM ok (.inl e)
theorem iu{ks:Gc Key}(ok:HOk P w H h)(e:H a=Fk (.tup (ks.map kV))):(tupleKind (Dg P w)).is h ks a:=by
 obtain⟨_,its,r,o,h1,h2,n,h3⟩:=(show DF P w H h a (.tup (ks.map kV))from ok a _ e)
 exact⟨o,its.toArray,n,h1,h2,h3,by simpa using Ot r⟩
theorem mW{kvs:Gc (Gc Key×V)}(ok:HOk P w H h)(e:Rd H a (.dT kvs)):kvs.length<=sizeLine/\(a==sysModules)=false/\∃xs,KT H kvs xs/\h.DictOfH (tupleKind (Dg P w)) a xs:=by
 obtain⟨z,y,xs,r,o,es,ep,h1,h2,h3,h4,h5⟩:=(show DF P w H h a (.dT kvs)from fA ok e)
 refine⟨z,y,xs,r,o,es,ep,h1,h2,h3,h4,λx hx=>?_,h5⟩
 have all:∀{l:Gc (Gc Key×V)} {m:Gc (Gc Key×sF×W1)},KT H l m->∀x∈m,(tupleKind (Dg P w)).is h x.1 x.2.1:=by
  intro l m q
  induction q with
  |nil=>intro x hx;exact nomatch hx
  | @cons p q ps qs hq t ih=>
    intro x hx
    rcases sN.mp hx with e|hx
    .subst e
     exact iu ok (by rw[<-hq.1];exact hq.2.1)
    .exact ih x hx
 exact all r x hx
theorem Zj{kvs:Gc (Gc Key×V)}(ok:HOk P w H h)(e:H a=Fk (.dT kvs)):kvs.length<=sizeLine/\(a==sysModules)=false/\∃xs,KT H kvs xs/\h.DictOfH (tupleKind (Dg P w)) a xs:=mW ok (.inl e)
end
section
variable{X:Cx}{pins:Gc (sF×Obj)}{σ:St}{H:Hp}{s:sE}{a:sF}{y v:V}{u r:W1}{o:sD V}{A:tM}{E:W1->sE->Prop}
theorem Inv.big(I:Inv X pins σ H s):sysModules<s.heap.objs.size:=by
 have h:mainGlobals<s.heap.objs.size:=(I.mod.glob.keeps I.bk).lt
 exact Nat.lt_trans (by decide) h
theorem Zw{h':tT}{t':Nat}{ob:HO}(I:Inv X pins σ H s)(mu:Mut (H a))(hs:xY a s.heap h')(he:∃q,h'.get? a=Fk q)(new:DF X.prog X.w (upd H a ob) h' a ob):Inv X pins σ (upd H a ob) {s with heap:=h',toks:=t'}:=
 I.write (x:=a) (e:=a) mu (.inl rfl) (λb q hb z=>(hs.2 b hb).trans z) he new
theorem fV{P:sj}{w:tu}{H':Hp}{h':tT}{kvs:Gc (Key×V)}{vs:Gc (Key×W1)}(z:kvs.length<=sizeLine)(hd:(a==sysModules)=false)(rel:KV kvs vs)(dd:h'.DictOf (Dg P w) a vs):DF P w H' h' a (.dK kvs):=⟨z,hd,vs,rel,dd⟩
end
section
variable{X:Cx}{pins:Gc (sF×Obj)}{σ:St}{H:Hp}{s:sE}{a:sF}{kvs:Gc (Key×V)}{k:Key}{u:W1}{A:tM}{E:W1->sE->Prop}
end
section
variable{X:Cx}{o i e value:sk}{pos pos' tpos:Pos}{td ty tv:TE}
end
theorem Wy{P:sj}{w:tu}{H:Hp}(h:tT)(hb:sysModules<h.objs.size):DF P w H (h.push {cls:=.type "dict",data:=.dict #[]}) h.objs.size (.dK []):=
 ⟨ux _,xD.mpr (uO (tE hb)),[],.nil,Heap.DictOf.new h⟩
section
variable{X:Cx}{pos:Pos}
end
def Qp:Gc (TE×TE)->St->Hp->(Gc (V×V)->Hp->Prop)->Prop
 | [],_,H,Q=>Q [] H
 |(tk,tv)::r,σ,H,Q=>tk σ H λx H1=>tv σ H1 λy H2=>Qp r σ H2 λps H3=>Q ((x,y)::ps) H3
abbrev VV:Gc (V×V)->Gc (W1×W1)->Prop:=Paired λp q=>RelV p.1 q.1/\RelV p.2 q.2
def PPs(X:Cx)(pos:Pos)(keys:Gc (sD sk))(values:Gc sk)(trs:Gc (TE×TE)):Prop:=
 ∀(pins:Gc (sF×Obj)) (s:sE) (σ:St) (H:Hp) (Q:Gc (V×V)->Hp->Prop),Inv X pins σ H s->Qp trs σ H Q->
  wpAny (model X.prog X.w) X.A (evalPairs (pairTrees keys values X.env pos)) (λvs s'=>∃ps H',Inv X pins σ H' s'/\VV ps vs/\Q ps H') X.xe s
theorem aq{X:Cx}{pos:Pos}:PPs X pos [] [] []:=λpins s σ H Q I h=>pairTrees_nil_walk ⟨[],H,I,.nil,h⟩
theorem Wg{X:Cx}{pos:Pos}{k v:sk}{ks:Gc (sD sk)}{vs:Gc sk}{tk tv:TE}{trs:Gc (TE×TE)}(hk:PE X k tk)(hv:PE X v tv)(hr:PPs X pos ks vs trs):PPs X pos (Fk k::ks) (v::vs) ((tk,tv)::trs):=λpins s σ H Q I h=>
 pairTrees_cons_walk (thn (hk pins s σ H _ I h) λu s1 ⟨x,H1,I1,rx,q1⟩=>thn (hv pins s1 σ H1 _ I1 q1) λw2 s2 ⟨y,H2,I2,ry,q2⟩=>
  thn (hr pins s2 σ H2 _ I2 q2) λws s3 ⟨ps,H3,I3,rel,q3⟩=>⟨(x,y)::ps,H3,I3,.cons ⟨rx,ry⟩ rel,q3⟩)
noncomputable def K4(kvs more:Gc (Key×V)):Gc (Key×V):=more.foldl (λacc kv=>putK acc kv.1 kv.2) kvs
theorem KV.merge:∀{more:Gc (Key×V)} {rs:Gc (Key×W1)} {kvs:Gc (Key×V)} {vs:Gc (Key×W1)},KV more rs->KV kvs vs->KV (K4 kvs more) (merged vs rs):=by
 intro more rs kvs vs r
 unfold KV at r
 induction r generalizing kvs vs with
 |nil=>intro q;exact q
 | @cons p q ps qs h t ih=>
   intro r0
   have e:KV (putK kvs p.1 p.2) (stored vs q.1 q.2):=by
    have:=r0.put p.1 h.2
    rw[<-h.1];exact this
   exact ih e
theorem JP:∀(more kvs:Gc (Key×V)),(K4 kvs more).length<=kvs.length+more.length
 | [],kvs=>by show kvs.length<=kvs.length+0;lia
 |p::r,kvs=>by
  have h1:=JP r (putK kvs p.1 p.2)
  have h2:=Py kvs p.1 p.2
  show(K4 (putK kvs p.1 p.2) r).length<=_
  rw[tY];lia
theorem MM{P:sj}{w:tu}:∀{kvs:Gc (Key×V)} {ws:Gc (W1×W1)},VV (kvs.map λkv=>(kV kv.1,kv.2)) ws->∃rs,Carries (Dg P w) ws rs/\KV kvs rs
 | [],_,r=>by rw[vB]at r;cases r;exact⟨[],yB,.nil⟩
 |p::kvs,_,r=>by
  rw[su]at r
  cases r with
  | @cons a b as bs h t=>
    obtain⟨rs,c,q⟩:=MM (P:=P) (w:=w) t
    obtain⟨b1,b2⟩:=b
    exact⟨(p.1,b2)::rs,⟨fE h.1,rfl,c⟩,.cons ⟨rfl,h.2⟩ q⟩
noncomputable def mJ(trs:Gc (TE×TE)):TE:=λσ H Q=>∀p,H p=none->Qp trs σ (upd H p (.dK [])) λps H2=>H2 p=Fk (.dK [])/\∃kvs:Gc (Key×V),ps=kvs.map (λkv=>(kV kv.1,kv.2))/\kvs.length<=15/\Q (.ref p) (upd H2 p (.dK (K4 [] kvs)))
theorem cX{X:Cx}{pos:Pos}{keys:Gc (sD sk)}{values:Gc sk}{trs:Gc (TE×TE)}(h:PPs X pos keys values trs)(hall:keys.all (·.isSome)=true)(hl:keys.length=values.length)(h0:keys≠[])(h15:keys.length<=15):PE X (.Dict keys values pos) (mJ trs):=by
 intro pins s σ H Q I q
 have hn:=I.hok.fresh (sM s.heap.objs.size)
 have I1:=I.laid (a:=s.heap.objs.size) (o:=.dK []) (h':=s.heap.push {cls:=.type "dict",data:=.dict #[]}) (t':=s.toks) (λ_ _ q=>sC _ q) (sM _) (Wy s.heap I.big)
 refine wpAny_Dict_walk (knd:=Dg X.prog X.w) hall hl h0 h15 (thn (h pins _ σ _ _ I1 (q _ hn)) λws s2 ⟨ps,H2,I2,rel,e,kvs,ep,lk,q2⟩=>?_)
 subst ep
 obtain⟨rs,c,rk⟩:=MM (P:=X.prog) (w:=X.w) rel
 obtain⟨z,hd,vs0,r0,dd⟩:=nN I2.hok e
 cases r0
 refine⟨rs,c,dd,λh' dd' hs=>⟨.ref s.heap.objs.size,_,?_,rfl,q2⟩⟩
 have hz:(K4 [] kvs).length<=sizeLine:=by
  have h1:=JP kvs []
  rw[vA]at h1
  rw[wk];lia
 have he:∃q,h'.get? s.heap.objs.size=Fk q:=let⟨q,_,_,hq,_⟩:=dd';⟨q,hq⟩
 exact Zw I2 (by rw[e];exact yB) hs he (fV hz hd (rk.merge .nil) dd')
structure M1(X:Cx)(o:sk)(m:Str)(apos:Pos)(e:sk)(cpos:Pos):Prop where
 base:attributeBase o m X.env (eval o X.env)=eval o X.env
 few:((backTo cpos (sf [e] X.env)).all (λx=> !x.1) && (backToKw cpos (keywordEach [] X.env)).all (λx=>x.1.isSome)
  && decide (([e]:Gc sk).length+([]:Gc yz).length+(if([]:Gc yz).isEmpty then 0 else 1)<30))=true
 line:(apos.endLine==cpos.line)=true
 trees:backTo cpos (sf [e] X.env)=[(false,eval e X.env)]
structure M2(X:Cx)(o:sk)(m:Str)(apos:Pos)(e f:sk)(cpos:Pos):Prop where
 base:attributeBase o m X.env (eval o X.env)=eval o X.env
 few:((backTo cpos (sf [e,f] X.env)).all (λx=> !x.1) && (backToKw cpos (keywordEach [] X.env)).all (λx=>x.1.isSome)
  && decide (([e,f]:Gc sk).length+([]:Gc yz).length+(if([]:Gc yz).isEmpty then 0 else 1)<30))=true
 line:(apos.endLine==cpos.line)=true
 trees:backTo cpos (sf [e,f] X.env)=[(false,eval e X.env),(false,eval f X.env)]
def IsD(H:Hp)(a:sF):Prop:=(∃kvs,Rd H a (.dK kvs))\/∃kvs,Rd H a (.dT kvs)
section
variable{X:Cx}{pins:Gc (sF×Obj)}{σ:St}{H:Hp}{s:sE}{a:sF}{y d:V}{u r:W1}{o:sD V}{A:tM}{E:W1->sE->Prop}
end
section
variable{X:Cx}{o e f:sk}{apos cpos:Pos}{td ty tx:TE}
end
section
variable{X:Cx}{pins:Gc (sF×Obj)}{σ:St}{H:Hp}{s:sE}{a:sF}{kvs:Gc (Key×V)}{A:tM}{E:W1->sE->Prop}
end
section
variable{X:Cx}{pins:Gc (sF×Obj)}{σ:St}{H:Hp}{s:sE}{a:sF}{y:V}{u:W1}{A:tM}{E:W1->sE->Prop}
end
end L2
end
noncomputable section
namespace L2
open PySem PySem.Spec PyProof.Rows
section
variable{prog:sj}{w:tu}{A:tM}{E:W1->sE->Prop}{s:sE}
theorem Rg{h:tT}{it t:sF}{i:Nat}{o:Obj}(ho:h.get? it=Fk o)(hc:o.cls=.type "tuple_iterator")(hd:o.data=.fields #[.ref t,.int i 0]){h':tT}(e:h'=h.update it (λo=>o.mapFields λa=>a.setIfInBounds 1 (rawInt ((i:Int)+1)))):h'.IsTupleIter it t (i+1):=by
 subst e
 have d:=vm hd λa=>a.setIfInBounds 1 (rawInt ((i:Int)+1))
 refine⟨_,uQ _ ho (vL d),?_,?_⟩
 .rw[Obj.cls_mapFields];exact hc
 .rw[d];simp[rawInt]
theorem Xo{it t:sF}{i:Nat}{items:uI W1}{x:W1}{Q:W1->sE->Prop}(hit:s.heap.IsTupleIter it t i)(ht:s.heap.IsTuple t items)(hx:items[i]?=Fk x)(hQ:∀h',h'.IsTupleIter it t (i+1)->xY it s.heap h'->Q x {s with heap:=h'}):wpAny (model prog w) A (uD (.ref it)) Q E s:=by
 obtain⟨⟨c,dd,dt,sl⟩,ho,hc,hd⟩:=id hit
 obtain⟨⟨c2,dd2,dt2,sl2⟩,ho2,hc2,n2,hd2⟩:=id ht
 simp only at hc hd hc2 hd2
 subst hc hd hc2 hd2
 unfold uD
 refine rz (vE (name:=ur "__next__") hit.typeIs vn (vN vn hit.typeIs yc ?_ (yS _)))
 unfold xO.«tuple_iterator.__next__»
 wp_walk using sv ho,sv ho2
 have e:items[(i:Int).toNat]?=Fk x:=by rw[vX];exact hx
 rw[e]
 refine rz (wI ho rfl (by simp) ?_)
 exact sR ⟨x,rfl,sR (hQ _ (Rg ho rfl rfl rfl) (AAV ..))⟩
theorem XX{it t:sF}{i:Nat}{items:uI W1}{Q:W1->sE->Prop}(hh:A.handled=none)(hit:s.heap.IsTupleIter it t i)(ht:s.heap.IsTuple t items)(hx:items[i]?=none)(hE:∀h' e,y2 it s.heap h'->(∃o,h'.get? e=Fk o/\o.cls=.type "StopIteration")->E (.ref e) {s with heap:=h'}):wpAny (model prog w) A (uD (.ref it)) Q E s:=by
 obtain⟨⟨c,dd,dt,sl⟩,ho,hc,hd⟩:=id hit
 obtain⟨⟨c2,dd2,dt2,sl2⟩,ho2,hc2,n2,hd2⟩:=id ht
 simp only at hc hd hc2 hd2
 subst hc hd hc2 hd2
 unfold uD
 refine rz (vE (name:=ur "__next__") hit.typeIs vn (vN vn hit.typeIs yc ?_ (yS _)))
 unfold xO.«tuple_iterator.__next__»
 wp_walk using sv ho,sv ho2
 have e:items[(i:Int).toNat]?=none:=by rw[vX];exact hx
 rw[e]
 refine rz (yj (rz (wI ho rfl (by simp) ?_)))
 have hh1:A.in1.handled=none:=hh
 unfold Builtin.SmallTypes.stopIteration
 simp only[newExc,newTuple,raiseNew]
 wp_walk
 refine hE _ _ ?_ ⟨_,sg _ rfl,rfl⟩
 have a:=(AAV (a:=it) (h:=s.heap) (f:=uk λx=>x.setIfInBounds 0 tZ)).extBut
 exact(a.push _).push _
theorem TJ(l:sF)(items:uI W1)(n:Nat)(dct:sD sF)(sl:uI (sD W1)):Meets (xO.«enumerate.__new__» ⟨[.type "enumerate",.ref l],[]⟩) (λ_ R s=>s.heap.get? l=Fk {cls:=.type "tuple",dict:=dct,data:=.seq items n,slots:=sl}/\R (.ok (.ret (.ref (s.heap.objs.size+1)))) {s with heap:=(s.heap.push {cls:=.type "tuple_iterator",data:=.fields #[.ref l,.int 0 0]}).push {cls:=.type "enumerate",data:=.fields #[.none,.bool false,.ref s.heap.objs.size,rawInt 0,.none,.none]}}):=
 .of_wp λprog w A R s h=>by
  obtain⟨hp,g,d,tk,os⟩:=s
  obtain⟨hl,h⟩:=h
  have hsub:=sub_enumerate
  have hT:yd (v7 ⟨hp,g,d,tk,os⟩) l items:=⟨_,hl,rfl,n,rfl⟩
  wp_walk using sv hl
  refine wpAny_stack_any λst=>sR ?_
  split
  .rename_i c _ _ _ _ _
   cases (c==zR "enumerate")<;>(wp_walk using sv hl,vO hT)<;>(refine⟨_,rfl,?_⟩;rw[uo];exact h)
  .wp_walk using sv hl,vO hT
   refine⟨_,rfl,?_⟩
   rw[uo]
   exact h
theorem Rt{l:sF}{items:uI W1}{Q:W1->sE->Prop}(hT:s.heap.IsTuple l items)(h:∀h',IsEnum h' (s.heap.objs.size+1) s.heap.objs.size 0 .none->h'.IsTupleIter s.heap.objs.size l 0->(∀b o,s.heap.get? b=Fk o->h'.get? b=Fk o)->Q (.ref (s.heap.objs.size+1)) {s with heap:=h'}):wpAny (model prog w) A (call (.type "enumerate") [.ref l]) Q E s:=by
 obtain⟨⟨c,dct,dt,sl⟩,hl,hc,n,hd⟩:=hT
 simp only at hc hd
 subst hc hd
 refine callType_new F.called_enumerate (by decide) (F.typeCall_enumerate_1 _) (F.newCall_enumerate_1 _) (λobj=>F.args_object_init_2 obj _) F.entry_enumerate_new (TJ l items n dct sl) ⟨hl,?_⟩
 have z:=sg (s.heap.push {cls:=.type "tuple_iterator",data:=.fields #[.ref l,.int 0 0]}) (o:={cls:=.type "enumerate",data:=.fields #[.none,.bool false,.ref s.heap.objs.size,rawInt 0,.none,.none]}) rfl
 rw[uo]at z
 exact⟨⟨_,z,rfl⟩,h _ z ⟨_,sC _ (sg _ rfl),rfl,rfl⟩ λb o x=>sC _ (sC _ x)⟩
end
section
variable{X:Cx}
end
end L2
end
noncomputable section
namespace L2
open PySem PySem.Spec PyProof.Rows
structure TopD(K:Wp)(w:tu)(a:sF)(kvs:Gc (Str×V)):Prop where
 ex:∃(es:uI DictEntry) (n:Nat),K.lookup a=Fk ⟨.type "dict",none,.dict es n, #[]⟩/\PySem.W.KeysLit w.params es.toList/\(a==sysModules)=false/\∀x,ji (kvs.lookup x) (findBy AAc es x)
section
variable{X:Cx}
end
end L2
end
noncomputable section
namespace L2
open PySem PySem.Spec PyProof.Rows
def SIt(h:tT)(j l:sF)(i:Nat)(its:uI W1):Prop:=(h.IsListIter j l i/\h.IsList l its)\/(h.IsTupleIter j l i/\h.IsTuple l its)
section
variable{prog:sj}{w:tu}{A:tM}{E:W1->sE->Prop}{s:sE}{h h':tT}{j l:sF}{i:Nat}{its:uI W1}
theorem SIt.at(q:SIt h j l i its)(k1:∀o,h.get? j=Fk o->h'.get? j=Fk o)(k2:∀o,h.get? l=Fk o->h'.get? l=Fk o):SIt h' j l i its:=by
 rcases q with⟨a,b⟩|⟨a,b⟩
 .exact .inl ⟨a.at k1,b.at k2⟩
 .exact .inr ⟨a.at k1,let⟨o,e,r⟩:=b;⟨o,k2 o e,r⟩⟩
theorem SIt.but{c:sF}(q:SIt h j l i its)(sb:y2 c h h')(n1:j≠c)(n2:l≠c):SIt h' j l i its:=q.at (λo e=>sb _ o n1 e) λo e=>sb _ o n2 e
theorem SIt.live(q:SIt h j l i its):∃o,h.get? j=Fk o/\∀v,o.data≠.cell v:=by
 rcases q with⟨⟨o,a,b,c⟩,_⟩|⟨⟨o,a,b,c⟩,_⟩
 .exact⟨o,a,λv z=>by rw[c]at z;cases z⟩
 .exact⟨o,a,λv z=>by rw[c]at z;cases z⟩
theorem SIt.ne(q:SIt h j l i its):l≠j:=by
 rcases q with⟨⟨o,a,b,_⟩,⟨o2,a2,b2,_⟩⟩|⟨⟨o,a,b,_⟩,⟨o2,a2,b2,_⟩⟩
 .intro z;subst z;rw[a]at a2;cases a2;rw[b]at b2;injection b2 with q;exact absurd q (by decide)
 .intro z;subst z;rw[a]at a2;cases a2;rw[b]at b2;injection b2 with q;exact absurd q (by decide)
theorem Kq{x:W1}{Q:W1->sE->Prop}(q:SIt s.heap j l i its)(hx:its[i]?=Fk x)(k:∀h',SIt h' j l (i+1) its->xY j s.heap h'->Q x {s with heap:=h'}):wpAny (model prog w) A (uD (.ref j)) Q E s:=by
 have n:=q.ne
 rcases q with⟨a,b⟩|⟨a,b⟩
 .exact wpAny_nextOf_list_item a b hx λh' a' sb=>k h' (.inl ⟨a',b.extBut sb.extBut n⟩) sb
 .exact Xo a b hx λh' a' sb=>k h' (.inr ⟨a',let⟨o,e,r⟩:=b;⟨o,sb.extBut _ o n e,r⟩⟩) sb
theorem Kl{Q:W1->sE->Prop}(hh:A.handled=none)(q:SIt s.heap j l i its)(hx:its[i]?=none)(k:∀h' e,y2 j s.heap h'->(∃o,h'.get? e=Fk o/\o.cls=.type "StopIteration")->E (.ref e) {s with heap:=h'}):wpAny (model prog w) A (uD (.ref j)) Q E s:=by
 rcases q with⟨a,b⟩|⟨a,b⟩
 .exact wpAny_nextOf_list_end hh a b hx k
 .exact XX hh a b hx k
theorem VP{z ti tt j1 j2 l1 l2:sF}{m:Nat}{xs ys:uI W1}{x y u1 u2:W1}{Q:W1->sE->Prop}(D:ZipApart z ti tt j1 j2 l1 l2)(oz:yq s.heap z ti tt .none)(oi:v9 s.heap ti (.ref j1) (.ref j2))(ot:v9 s.heap tt u1 u2)(q1:SIt s.heap j1 l1 m xs)(q2:SIt s.heap j2 l2 m ys)(ex:xs[m]?=Fk x)(ey:ys[m]?=Fk y)(k:∀h',yq h' z ti tt (rawInt s.heap.objs.size)->v9 h' tt x y->SIt h' j1 l1 (m+1) xs->SIt h' j2 l2 (m+1) ys->v9 h' s.heap.objs.size x y->(∀c o,c≠z->c≠tt->c≠j1->c≠j2->s.heap.get? c=Fk o->h'.get? c=Fk o)->Q (.ref s.heap.objs.size) {s with heap:=h'}):wpAny (model prog w) A (xO.«zip.__next__» ⟨[.ref z],[]⟩) (λfin s'=>∃v,fin=.done (.ret v)/\Q v s') E s:=by
 show wpAny _ _ (field (.ref z) 2 >>= _) _ _ _
 refine rz (uw oz rfl (x:=.bool false) rfl ?_)
 show wpAny _ _ (field (.ref z) 3 >>= _) _ _ _
 refine rz (uw oz rfl (x:=.ref ti) rfl (rz (vH oi rfl ?_)))
 show wpAny _ _ (u7 (.ref z) >>= _) _ _ _
 refine rz ?_
 unfold u7
 refine rz (uw oz rfl (x:=.none) rfl (sR ?_))
 simp only[xP]
 refine rz (yj (rz (uw oz rfl (x:=.ref tt) rfl (rz (vo oz (by simp) λg1 oz1 b1=>?_)))))
 have oz1:yq g1 z ti tt .ellipsis:=oz1
 refine rz ?_
 simp only[List.zipIdx_cons,List.zipIdx_nil,zm,AAB]
 refine rz (rz (zC ?_))
 show wpAny _ _ (uD (.ref j1) >>= _) _ _ _
 refine rz (Kq (q1.but b1.extBut D.i1z D.l1z) ex λg2 q12 b2=>sR ?_)
 have ot2:v9 g2 tt u1 u2:=b2.extBut _ _ D.TOi1 (b1.extBut _ _ D.TOz ot)
 refine rz (vH ot2 rfl (rz (yM ot2 λg3 ot3 b3=>?_)))
 have ot3:v9 g3 tt x u2:=ot3
 refine rz (wu (sR (rz (rz (zC ?_)))))
 show wpAny _ _ (uD (.ref j2) >>= _) _ _ _
 refine rz (Kq (((q2.but b1.extBut D.i2z D.l2z).but b2.extBut D.i12.symm D.l2i1).but b3.extBut D.TOi2.symm D.l2TO) ey λg4 q24 b4=>sR ?_)
 have ot4:v9 g4 tt x u2:=b4.extBut _ _ D.TOi2 ot3
 refine rz (vH ot4 rfl (rz (yM ot4 λg5 ot5 b5=>?_)))
 have ot5:v9 g5 tt x y:=ot5
 refine rz (wu (sR (sR (rz (vH ot5 rfl (rz (wpAny_newTuple ?_)))))))
 have sz:g5.objs.size=s.heap.objs.size:=by rw[b5.1,b4.1,b3.1,b2.1,b1.1]
 have oz5:yq g5 z ti tt .ellipsis:=b5.extBut _ _ D.TOz.symm (b4.extBut _ _ D.i2z.symm (b3.extBut _ _ D.TOz.symm (b2.extBut _ _ D.i1z.symm oz1)))
 have k5:∀c o,c≠z->c≠tt->c≠j1->c≠j2->s.heap.get? c=Fk o->g5.get? c=Fk o:=λc o c1 c2 c3 c4 e=>b5.extBut _ _ c2 (b4.extBut _ _ c4 (b3.extBut _ _ c2 (b2.extBut _ _ c3 (b1.extBut _ _ c1 e))))
 have q15:SIt g5 j1 l1 (m+1) xs:=((q12.but b3.extBut D.TOi1.symm D.l1TO).but b4.extBut D.i12 D.l1i2).but b5.extBut D.TOi1.symm D.l1TO
 have q25:SIt g5 j2 l2 (m+1) ys:=q24.but b5.extBut D.TOi2.symm D.l2TO
 have zlt:z<g5.objs.size:=sW oz5
 show wpAny _ _ (xF (.ref z) (.ref g5.objs.size) >>= _) _ _ _
 refine rz ?_
 unfold xF
 have oz6:yq (g5.push {cls:=.type "tuple",data:=.seq #[x,y]}) z ti tt .ellipsis:=sC _ oz5
 refine rz (vo oz6 (by simp) λg7 oz7 b7=>?_)
 have oz7:yq g7 z ti tt (rawInt g5.objs.size):=oz7
 refine vo oz7 (by simp) λg8 oz8 b8=>?_
 have oz8:yq g8 z ti tt (rawInt g5.objs.size):=oz8
 have up:∀c o,c≠z->g5.get? c=Fk o->g8.get? c=Fk o:=λc o c1 e=>b8.extBut _ _ c1 (b7.extBut _ _ c1 (sC _ e))
 have op8:v9 g8 g5.objs.size x y:=b8.extBut _ _ (wM zlt) (b7.extBut _ _ (wM zlt) (sg _ rfl))
 rw[sz]at oz8 op8
 refine sR ⟨_,rfl,?_⟩
 show Q (.ref g5.objs.size) _
 rw[sz]
 exact k g8 oz8 (up _ _ D.TOz ot5) (q15.at (λo e=>up _ o D.i1z e) λo e=>up _ o D.l1z e) (q25.at (λo e=>up _ o D.i2z e) λo e=>up _ o D.l2z e) op8 λc o c1 c2 c3 c4 e=>up c o c1 (k5 c o c1 c2 c3 c4 e)
theorem Wj{z ti tt j1 j2 l1 l2:sF}{m:Nat}{xs ys:uI W1}{u1 u2:W1}{Q:Fin->sE->Prop}(hh:A.handled=none)(D:ZipApart z ti tt j1 j2 l1 l2)(oz:yq s.heap z ti tt .none)(oi:v9 s.heap ti (.ref j1) (.ref j2))(ot:v9 s.heap tt u1 u2)(q1:SIt s.heap j1 l1 m xs)(q2:SIt s.heap j2 l2 m ys)(en:xs[m]?=none\/ys[m]?=none)(k:∀h' e,(∀c o,c≠z->c≠tt->c≠j1->c≠j2->s.heap.get? c=Fk o->h'.get? c=Fk o)->(∃o,h'.get? e=Fk o/\o.cls=.type "StopIteration")->E (.ref e) {s with heap:=h'}):wpAny (model prog w) A (xO.«zip.__next__» ⟨[.ref z],[]⟩) Q E s:=by
 show wpAny _ _ (field (.ref z) 2 >>= _) _ _ _
 refine rz (uw oz rfl (x:=.bool false) rfl ?_)
 show wpAny _ _ (field (.ref z) 3 >>= _) _ _ _
 refine rz (uw oz rfl (x:=.ref ti) rfl (rz (vH oi rfl ?_)))
 show wpAny _ _ (u7 (.ref z) >>= _) _ _ _
 refine rz ?_
 unfold u7
 refine rz (uw oz rfl (x:=.none) rfl (sR ?_))
 simp only[xP]
 refine rz (yj (rz (uw oz rfl (x:=.ref tt) rfl (rz (vo oz (by simp) λg1 oz1 b1=>?_)))))
 have oz1:yq g1 z ti tt .ellipsis:=oz1
 refine rz ?_
 simp only[List.zipIdx_cons,List.zipIdx_nil,zm,AAB]
 refine rz (rz (zC ?_))
 show wpAny _ _ (uD (.ref j1) >>= _) _ _ _
 cases ex:xs[m]? with
 |none=>
  refine rz (Kl hh (q1.but b1.extBut D.i1z D.l1z) ex λg2 e b2 he=>?_)
  obtain⟨oe,e1,e2⟩:=he
  have oz2:yq g2 z ti tt .ellipsis:=b2 _ _ D.i1z.symm oz1
  have nez:e≠z:=λx=>by subst x;rw[oz2]at e1;cases e1;simp at e2
  exact vo oz2 (by simp) λg3 _ b3=>k g3 e (λc o c1 _ c3 _ x=>b3.extBut _ _ c1 (b2 _ _ c3 (b1.extBut _ _ c1 x))) ⟨oe,b3.extBut _ _ nez e1,e2⟩
 |some x=>
  have ey:ys[m]?=none:=by
   rcases en with z|z
   .rw[ex]at z;cases z
   .exact z
  refine rz (Kq (q1.but b1.extBut D.i1z D.l1z) ex λg2 q12 b2=>sR ?_)
  have ot2:v9 g2 tt u1 u2:=b2.extBut _ _ D.TOi1 (b1.extBut _ _ D.TOz ot)
  refine rz (vH ot2 rfl (rz (yM ot2 λg3 ot3 b3=>?_)))
  refine rz (wu (sR (rz (rz (zC ?_)))))
  show wpAny _ _ (uD (.ref j2) >>= _) _ _ _
  refine rz (Kl hh (((q2.but b1.extBut D.i2z D.l2z).but b2.extBut D.i12.symm D.l2i1).but b3.extBut D.TOi2.symm D.l2TO) ey λg4 e b4 he=>?_)
  obtain⟨oe,e1,e2⟩:=he
  have oz4:yq g4 z ti tt .ellipsis:=b4 _ _ D.i2z.symm (b3.extBut _ _ D.TOz.symm (b2.extBut _ _ D.i1z.symm oz1))
  have nez:e≠z:=λx=>by subst x;rw[oz4]at e1;cases e1;simp at e2
  exact vo oz4 (by simp) λg5 _ b5=>k g5 e (λc o c1 c2 c3 c4 x=>b5.extBut _ _ c1 (b4 _ _ c4 (b3.extBut _ _ c2 (b2.extBut _ _ c3 (b1.extBut _ _ c1 x))))) ⟨oe,b5.extBut _ _ nez e1,e2⟩
theorem SM{z ti tt j1 j2 l1 l2:sF}{m:Nat}{xs ys:uI W1}{x y u1 u2:W1}{Q:sD W1->sE->Prop}(D:ZipApart z ti tt j1 j2 l1 l2)(oz:yq s.heap z ti tt .none)(oi:v9 s.heap ti (.ref j1) (.ref j2))(ot:v9 s.heap tt u1 u2)(q1:SIt s.heap j1 l1 m xs)(q2:SIt s.heap j2 l2 m ys)(ex:xs[m]?=Fk x)(ey:ys[m]?=Fk y)(k:∀h',yq h' z ti tt (rawInt s.heap.objs.size)->v9 h' tt x y->SIt h' j1 l1 (m+1) xs->SIt h' j2 l2 (m+1) ys->v9 h' s.heap.objs.size x y->(∀c o,c≠z->c≠tt->c≠j1->c≠j2->s.heap.get? c=Fk o->h'.get? c=Fk o)->Q (Fk (.ref s.heap.objs.size)) {s with heap:=h'}):wpAny (model prog w) A (pyNext (.ref z)) Q E s:=by
 have ht:s.TypeIs (.ref z) "zip":=⟨_,oz,rfl⟩
 unfold pyNext
 exact rz (wpAny_attempt (vE (name:=ur "__next__") ht yT (vN yT ht F.entry_zip_next
  (VP D oz oi ot q1 q2 ex ey λh' a1 a2 a3 a4 a5 a6=>sR (k h' a1 a2 a3 a4 a5 a6)) (F.args_zip_next_1 _))))
theorem Vt{z ti tt j1 j2 l1 l2:sF}{m:Nat}{xs ys:uI W1}{u1 u2:W1}{Q:sD W1->sE->Prop}(hh:A.handled=none)(D:ZipApart z ti tt j1 j2 l1 l2)(oz:yq s.heap z ti tt .none)(oi:v9 s.heap ti (.ref j1) (.ref j2))(ot:v9 s.heap tt u1 u2)(q1:SIt s.heap j1 l1 m xs)(q2:SIt s.heap j2 l2 m ys)(en:xs[m]?=none\/ys[m]?=none)(k:∀h',(∀c o,c≠z->c≠tt->c≠j1->c≠j2->s.heap.get? c=Fk o->h'.get? c=Fk o)->Q none {s with heap:=h'}):wpAny (model prog w) A (pyNext (.ref z)) Q E s:=by
 have ht:s.TypeIs (.ref z) "zip":=⟨_,oz,rfl⟩
 unfold pyNext
 refine rz (wpAny_attempt (vE (name:=ur "__next__") ht yT (vN yT ht F.entry_zip_next
  (Wj hh D oz oi ot q1 q2 en λh' e kp he=>?_) (F.args_zip_next_1 _))))
 obtain⟨o,e1,e2⟩:=he
 exact rz (wpAny_isInstance (T:="StopIteration") (b:=true) ⟨o,e1,e2⟩ isSubtype_stop (sR (k _ kp)))
end
end L2
end
noncomputable section
namespace L2
open PySem PySem.Spec PyProof.Rows
def MB(h:tT)(b:tV)(l:sF)(its:uI W1):Prop:=match b with|true=>h.IsTuple l its|false=>h.IsList l its
noncomputable def gU:tV->ug|true=>"tuple_iterator" |false=>"list_iterator"
noncomputable def zh1(h:tT)(b:tV)(l:sF):tT:=h.push {cls:=.type (gU b),data:=.fields #[.ref l,.int 0 0]}
noncomputable def zh2(h:tT)(b c:tV)(l m:sF):tT:=zh1 (zh1 h b l) c m
noncomputable def zh3(h:tT)(b c:tV)(l m:sF):tT:=(zh2 h b c l m).push {cls:=.type "tuple",data:=.seq #[.ref h.objs.size,.ref (zh1 h b l).objs.size]}
noncomputable def zh4(h:tT)(b c:tV)(l m:sF):tT:=(zh3 h b c l m).push {cls:=.type "tuple",data:=.seq #[.none,.none]}
noncomputable def zh5(h:tT)(b c:tV)(l m:sF):tT:=(zh4 h b c l m).push {cls:=.type "zip",data:=.fields #[.none,.bool false,.bool false,.ref (zh2 h b c l m).objs.size,.ref (zh3 h b c l m).objs.size]}
theorem MB.push{h:tT}{b:tV}{l:sF}{its:uI W1}(q:MB h b l its)(o:Obj):MB (h.push o) b l its:=by
 cases b
 .exact Heap.IsList.push q _
 .obtain⟨u,e,r⟩:=(show h.IsTuple l its from q)
  exact⟨u,sC _ e,r⟩
theorem Xb(b c:tV)(l m:sF)(xs ys:uI W1):Meets (xO.«zip.__new__» ⟨[.type "zip",.ref l,.ref m],[]⟩) (λ_ R s=>MB s.heap b l xs/\MB s.heap c m ys/\R (.ok (.ret (.ref (zh4 s.heap b c l m).objs.size))) {s with heap:=zh5 s.heap b c l m}):=
 .of_wp λprog w A R s hyp=>by
  obtain⟨hp,gs,dr,tk,os⟩:=s
  obtain⟨i1,i2,hyp⟩:=hyp
  have hsub:=sub_zip
  have i3:MB (v7 ⟨zh1 hp b l,gs,dr,tk,os⟩) c m ys:=MB.push i2 _
  cases b<;>cases c
  .have a1:AAC (v7 ⟨hp,gs,dr,tk,os⟩) l xs:=i1
   have a2:AAC (v7 ⟨hp.push {cls:=.type "list_iterator",data:=.fields #[.ref l,.int 0 0]},gs,dr,tk,os⟩) m ys:=i3
   wp_walk using uy a1,uy a2
   exact⟨_,rfl,hyp⟩
  .have a1:AAC (v7 ⟨hp,gs,dr,tk,os⟩) l xs:=i1
   have a2:yd (v7 ⟨hp.push {cls:=.type "list_iterator",data:=.fields #[.ref l,.int 0 0]},gs,dr,tk,os⟩) m ys:=i3
   wp_walk using uy a1,vO a2
   exact⟨_,rfl,hyp⟩
  .have a1:yd (v7 ⟨hp,gs,dr,tk,os⟩) l xs:=i1
   have a2:AAC (v7 ⟨hp.push {cls:=.type "tuple_iterator",data:=.fields #[.ref l,.int 0 0]},gs,dr,tk,os⟩) m ys:=i3
   wp_walk using vO a1,uy a2
   exact⟨_,rfl,hyp⟩
  .have a1:yd (v7 ⟨hp,gs,dr,tk,os⟩) l xs:=i1
   have a2:yd (v7 ⟨hp.push {cls:=.type "tuple_iterator",data:=.fields #[.ref l,.int 0 0]},gs,dr,tk,os⟩) m ys:=i3
   wp_walk using vO a1,vO a2
   exact⟨_,rfl,hyp⟩
section
variable{prog:sj}{w:tu}{A:tM}{E:W1->sE->Prop}{s:sE}
theorem Yh{h h':tT}{b:tV}{l j:sF}{its:uI W1}(q:MB h b l its)(k:∀c o,h.get? c=Fk o->h'.get? c=Fk o)(e:h'.get? j=Fk {cls:=.type (gU b),data:=.fields #[.ref l,.int 0 0]}):SIt h' j l 0 its:=by
 cases b
 .exact .inl ⟨⟨_,e,rfl,rfl⟩,(show h.IsList l its from q).at λo z=>k _ o z⟩
 .exact .inr ⟨⟨_,e,rfl,rfl⟩,let⟨o,z,r⟩:=(show h.IsTuple l its from q);⟨o,k _ o z,r⟩⟩
theorem V7{b c:tV}{l m:sF}{xs ys:uI W1}{Q:W1->sE->Prop}(i1:MB s.heap b l xs)(i2:MB s.heap c m ys)(k:∀h',yq h' (s.heap.objs.size+4) (s.heap.objs.size+2) (s.heap.objs.size+3) .none->v9 h' (s.heap.objs.size+2) (.ref s.heap.objs.size) (.ref (s.heap.objs.size+1))->v9 h' (s.heap.objs.size+3) .none .none->SIt h' s.heap.objs.size l 0 xs->SIt h' (s.heap.objs.size+1) m 0 ys->(∀c o,s.heap.get? c=Fk o->h'.get? c=Fk o)->Q (.ref (s.heap.objs.size+4)) {s with heap:=h'}):wpAny (model prog w) A (call (.type "zip") [.ref l,.ref m]) Q E s:=by
 refine callType_new F.called_zip (by decide) (F.typeCall_zip_2 _ _) (F.newCall_zip_2 _ _) (λobj=>F.args_object_init_3 obj _ _) F.entry_zip_new (Xb b c l m xs ys) ⟨i1,i2,?_⟩
 have z1:(zh1 s.heap b l).objs.size=s.heap.objs.size+1:=uo ..
 have z2:(zh2 s.heap b c l m).objs.size=s.heap.objs.size+2:=by unfold zh2 zh1;rw[uo];exact congrArg (· +1) z1
 have z3:(zh3 s.heap b c l m).objs.size=s.heap.objs.size+3:=by unfold zh3;rw[uo,z2]
 have z4:(zh4 s.heap b c l m).objs.size=s.heap.objs.size+4:=by unfold zh4;rw[uo,z3]
 have kp:∀d o,s.heap.get? d=Fk o->(zh5 s.heap b c l m).get? d=Fk o:=λd o e=>by
  unfold zh5 zh4 zh3 zh2 zh1
  exact sC _ (sC _ (sC _ (sC _ (sC _ e))))
 have g5:(zh5 s.heap b c l m).get? (zh4 s.heap b c l m).objs.size=Fk _:=sg _ rfl
 have g4:(zh5 s.heap b c l m).get? (zh3 s.heap b c l m).objs.size=Fk _:=sC _ (sg _ rfl)
 have g3:(zh5 s.heap b c l m).get? (zh2 s.heap b c l m).objs.size=Fk _:=sC _ (sC _ (sg _ rfl))
 have g2:(zh5 s.heap b c l m).get? (zh1 s.heap b l).objs.size=Fk _:=sC _ (sC _ (sC _ (sg _ rfl)))
 have g1:(zh5 s.heap b c l m).get? s.heap.objs.size=Fk _:=sC _ (sC _ (sC _ (sC _ (sg _ rfl))))
 show _/\_
 rw[z2,z3,z4]at g5
 rw[z1,z2]at g3
 rw[z3]at g4
 rw[z1]at g2
 rw[z4]
 exact⟨⟨_,g5,rfl⟩,k _ g5 g3 g4 (Yh i1 kp g1) (Yh i2 kp g2) kp⟩
end
end L2
end
noncomputable section
namespace L2
open PySem PySem.Spec PyProof.Rows
def SqB(K:Wp)(H:Hp)(k:tV)(a:sF)(xs:Gc V):Prop:=match k with|true=>SqT K H a xs|false=>SqL K H a xs
def JIt(h:tT)(k:tV)(j l:sF)(i:Nat):Prop:=match k with|true=>h.IsTupleIter j l i|false=>h.IsListIter j l i
theorem JIt.at{h h':tT}{k:tV}{j l:sF}{i:Nat}(q:JIt h k j l i)(e:∀o,h.get? j=Fk o->h'.get? j=Fk o):JIt h' k j l i:=by
 cases k
 .exact Heap.IsListIter.at q e
 .exact Heap.IsTupleIter.at q e
theorem JIt.sit{h:tT}{k:tV}{j l:sF}{i:Nat}{its:uI W1}(q:JIt h k j l i)(p:MB h k l its):SIt h j l i its:=by
 cases k
 .exact .inl ⟨q,p⟩
 .exact .inr ⟨q,p⟩
theorem SIt.jit{h:tT}{k:tV}{j l:sF}{i:Nat}{its:uI W1}(q:SIt h j l i its)(p:MB h k l its):JIt h k j l i:=by
 rcases q with⟨q,r⟩|⟨q,r⟩
 .cases k
  .exact q
  .obtain⟨o,e,c,_⟩:=r;obtain⟨o',e',c',_⟩:=(show h.IsTuple l its from p)
   rw[e]at e';cases e';rw[c]at c';injection c' with z;exact absurd z (by decide)
 .cases k
  .obtain⟨o,e,c,_⟩:=r;obtain⟨o',e',c',_⟩:=(show h.IsList l its from p)
   rw[e]at e';cases e';rw[c]at c';injection c' with z;exact absurd z (by decide)
  .exact q
theorem Inv.sqB{X:Cx}{pins:Gc (sF×Obj)}{σ:St}{H:Hp}{s:sE}{k:tV}{a:sF}{xs:Gc V}(I:Inv X pins σ H s)(h:SqB X.K H k a xs):∃its:Gc W1,Vals xs its/\MB s.heap k a its.toArray:=by
 cases k
 .obtain⟨its,h1,⟨o,n,q1,q2,_,q3⟩,h3⟩:=I.list h
  exact⟨its,h1,o,q1,q2,n,q3⟩
 .obtain⟨its,h1,h2,h3⟩:=I.tuple h
  exact⟨its,h1,h2⟩
theorem Inv.QD{X:Cx}{pins:Gc (sF×Obj)}{σ:St}{H:Hp}{s:sE}{k:tV}{a:sF}{xs ys:Gc V}(I:Inv X pins σ H s)(h:SqB X.K H k a xs)(g:SqB X.K H k a ys):xs=ys:=by
 cases k
 .exact I.Qd h g
 .exact I.OM h g
noncomputable def Itz(K:Wp)(k:tV)(a:sF)(m:tV)(b:sF):It:=
 ⟨λi H=>∃(xs ys:Gc V) (x y:V),SqB K H k a xs/\SqB K H m b ys/\xs[i]?=Fk x/\ys[i]?=Fk y,
  λi H v H'=>∃(p:sF) (x y:V),H p=none/\v=.ref p/\(∀xs,SqB K H k a xs->xs[i]?=Fk x)/\(∀ys,SqB K H m b ys->ys[i]?=Fk y)/\H'=upd H p (.tup [x,y]),
  λi H=>∃(xs ys:Gc V),SqB K H k a xs/\SqB K H m b ys/\(xs.length<=i\/ys.length<=i)⟩
structure ZSt(h:tT)(z ti tt j1 j2:sF)(k:tV)(a:sF)(m:tV)(b:sF)(i:Nat):Prop where
 oz:yq h z ti tt .none
 oi:v9 h ti (.ref j1) (.ref j2)
 ot:∃u v,v9 h tt u v
 q1:JIt h k j1 a i
 q2:JIt h m j2 b i
structure ZNe(z ti tt j1 j2:sF):Prop where
 n1:ti≠z
 n2:tt≠z
 n3:j1≠z
 n4:j2≠z
 n5:ti≠tt
 n6:ti≠j1
 n7:ti≠j2
 n8:tt≠j1
 n9:tt≠j2
 n10:j1≠j2
theorem ZNe.apart{z ti tt j1 j2 a b:sF}(N:ZNe z ti tt j1 j2)(ha:a∉ [z,tt,j1,j2])(hb:b∉ [z,tt,j1,j2]):ZipApart z ti tt j1 j2 a b:=by
 simp only[sN,si,uX,zZ]at ha hb
 exact⟨N.n1,N.n2,N.n3,N.n4,N.n5,N.n6,N.n7,N.n8,N.n9,N.n10,ha.1,ha.2.1,ha.2.2.1,ha.2.2.2,hb.1,hb.2.1,hb.2.2.1,hb.2.2.2⟩
theorem BZ{X:Cx}{pins:Gc (sF×Obj)}{σ:St}{H:Hp}{s:sE}{k:tV}{a c:sF}{xs:Gc V}(I:Inv X pins σ H s)(q:SqB X.K H k a xs)(f:QB X pins H c):a≠c:=by
 intro e
 subst e
 have rd:∀o,Rd H a o->vS:=λo r=>by
  rcases r with r|⟨_,r⟩<;>(rw[f.1]at r;cases r)
 have kk:∀o,X.K.lookup a=Fk o->vS:=λo hk=>by
  have b:=I.ok.mod.kin a o hk
  rcases f.2.2.2.1 with z|z
  .exact I.ok.Yn a o b z
  .exact absurd (sI (sW (I.ok.bs a o b).1) z) (uj _)
 cases k
 .rcases(show SqL X.K H a xs from q)with q|⟨o,_,_,hk,_⟩
  .exact rd _ q
  .exact kk o hk
 .rcases(show SqT X.K H a xs from q)with q|⟨o,_,_,hk,_⟩
  .exact rd _ q
  .exact kk o hk
theorem YE{P:sj}{w:tu}{K:Wp}{elts:Gc sk}{n:Nat}{pos:Pos}(k:tV)(a:sF)(m:tV)(b:sF)(z ti tt j1 j2:sF)(N:ZNe z ti tt j1 j2):Turn P w K (.Tuple elts n pos) (Itz K k a m b) [z,ti,tt,j1,j2] z (λi h=>ZSt h z ti tt j1 j2 k a m b i) where
 mem:=by simp
 obj:=λi h st c hc=>by
  have jl:∀{q:tV} {j l:sF},JIt h q j l i->∃o,h.get? j=Fk o/\∀v,o.data≠.cell v:=λ{q j l} x=>by
   cases q
   .obtain⟨o,e,_,d⟩:=(show h.IsListIter j l i from x)
    exact⟨o,e,λv z=>by rw[d]at z;cases z⟩
   .obtain⟨o,e,_,d⟩:=(show h.IsTupleIter j l i from x)
    exact⟨o,e,λv z=>by rw[d]at z;cases z⟩
  simp only[sN,si,uX]at hc
  rcases hc with rfl|rfl|rfl|rfl|rfl
  .exact⟨_,st.oz,λv z=>nomatch z⟩
  .exact⟨_,st.oi,λv z=>nomatch z⟩
  .obtain⟨u,v,e⟩:=st.ot
   exact⟨_,e,λv z=>nomatch z⟩
  .exact jl st.q1
  .exact jl st.q2
 keep:=λi h h' st kp=>⟨kp z (by simp) _ st.oz,kp ti (by simp) _ st.oi,let⟨u,v,e⟩:=st.ot;⟨u,v,kp tt (by simp) _ e⟩,st.q1.at λo e=>kp j1 (by simp) o e,st.q2.at λo e=>kp j2 (by simp) o e⟩
 item:=by
  intro X hP hw hK hc i pins s σ H E I hf st hg
  subst hP hw hK
  obtain⟨xs,ys,x,y,s1,s2,e1,e2⟩:=hg
  obtain⟨i1,r1,p1⟩:=I.sqB s1
  obtain⟨i2,r2,p2⟩:=I.sqB s2
  obtain⟨u1,h1,ru1⟩:=r1.get e1
  obtain⟨u2,h2,ru2⟩:=r2.get e2
  have fz:=hf z (by simp);have fi:=hf ti (by simp);have ft:=hf tt (by simp);have f1:=hf j1 (by simp);have f2:=hf j2 (by simp)
  have ap:=N.apart (a:=a) (b:=b) (by simp[BZ I s1 fz,BZ I s1 ft,BZ I s1 f1,BZ I s1 f2]) (by simp[BZ I s2 fz,BZ I s2 ft,BZ I s2 f1,BZ I s2 f2])
  obtain⟨v1,v2,ot⟩:=st.ot
  refine SM ap st.oz st.oi ot (st.q1.sit p1) (st.q2.sit p2) (x:=u1) (y:=u2) (by simpa using h1) (by simpa using h2) λh' oz ot' q1 q2 op kp=>⟨_,rfl,wpAny_letOwnedTupleGo_zip oz λg oz' sb=>?_⟩
  have lt:∀c o,s.heap.get? c=Fk o->c≠s.heap.objs.size:=λc o q=>tE (sW q)
  have nz:z≠s.heap.objs.size:=lt _ _ st.oz
  have nt:tt≠s.heap.objs.size:=lt _ _ ot
  have n1:j1≠s.heap.objs.size:=by obtain⟨o,e,_⟩:=(st.q1.sit p1).live;exact lt _ _ e
  have n2:j2≠s.heap.objs.size:=by obtain⟨o,e,_⟩:=(st.q2.sit p2).live;exact lt _ _ e
  have kp2:∀c o,c≠z->c≠tt->c≠j1->c≠j2->s.heap.get? c=Fk o->g.get? c=Fk o:=λc o c1 c2 c3 c4 q=>(sb.2 c c1).trans (kp c o c1 c2 c3 c4 q)
  have fr:H s.heap.objs.size=none:=I.hok.fresh (sM _)
  have op2:g.get? s.heap.objs.size=Fk {cls:=.type "tuple",data:=.seq #[u1,u2]}:=(sb.2 _ (uO nz)).trans op
  have ne:∀c u,c∈ [z,ti,tt,j1,j2]->∀d,H d=Fk u->d≠c:=λc u hc d q e=>by rw[e,(hf c hc).1]at q;cases q
  have kpH:∀c u,H c=Fk u->∀o,s.heap.get? c=Fk o->g.get? c=Fk o:=λc u q o e=>kp2 c o (ne z u (by simp) c q) (ne tt u (by simp) c q) (ne j1 u (by simp) c q) (ne j2 u (by simp) c q) e
  have ka:∀o,s.heap.get? a=Fk o->g.get? a=Fk o:=λo e=>kp2 a o (BZ I s1 fz) (BZ I s1 ft) (BZ I s1 f1) (BZ I s1 f2) e
  have kb:∀o,s.heap.get? b=Fk o->g.get? b=Fk o:=λo e=>kp2 b o (BZ I s2 fz) (BZ I s2 ft) (BZ I s2 f1) (BZ I s2 f2) e
  have sq:∀{q:tV} {d:sF} {is:uI W1},MB s.heap q d is->(∀o,s.heap.get? d=Fk o->h'.get? d=Fk o)->MB h' q d is:=λ{q d is} x kd=>by
   cases q
   .exact(show s.heap.IsList d is from x).at kd
   .obtain⟨o,e,r⟩:=(show s.heap.IsTuple d is from x)
    exact⟨o,kd o e,r⟩
  have ka1:∀o,s.heap.get? a=Fk o->h'.get? a=Fk o:=λo e=>kp a o (BZ I s1 fz) (BZ I s1 ft) (BZ I s1 f1) (BZ I s1 f2) e
  have kb1:∀o,s.heap.get? b=Fk o->h'.get? b=Fk o:=λo e=>kp b o (BZ I s2 fz) (BZ I s2 ft) (BZ I s2 f1) (BZ I s2 f2) e
  refine⟨.ref s.heap.objs.size,upd H s.heap.objs.size (.tup [x,y]),?_,rfl,⟨_,x,y,fr,rfl,λzs hz=>by rw[I.QD hz s1];exact e1,λzs hz=>by rw[I.QD hz s2];exact e2,rfl⟩,⟨oz',(sb.2 _ N.n1).trans (kp ti _ N.n1 N.n5 N.n6 N.n7 st.oi),⟨_,_,(sb.2 _ N.n2).trans ot'⟩,(q1.jit (sq p1 ka1)).at λo e=>(sb.2 _ N.n3).trans e,(q2.jit (sq p2 kb1)).at λo e=>(sb.2 _ N.n4).trans e⟩,?_⟩
  .show Inv X pins σ _ {s with heap:=g,gens:=s.gens,drawn:=s.drawn,toks:=s.toks}
   refine I.step (g':=s.gens) (d':=s.drawn) (ch:=[z,tt,j1,j2]) ?_ ?_ ?_ ?_ ?_ ?_ ?_ ?_ ?_ ?_ I.bare
   .intro c hc
    have q:QB X pins H c:=hf c (by simp only[sN,si,uX]at hc ⊢; rcases hc with z|z|z|z<;>simp[z])
    exact⟨q.2.2.2.1,q.2.1,q.2.2.2.2.1,q.2.2.2.2.2⟩
   .exact λc o _ _ hc q _=>by
     simp only[sN,si,uX,zZ]at hc
     exact kp2 c o hc.1 hc.2.1 hc.2.2.1 hc.2.2.2 q
   .exact λc o _ _ hc q _=>by
     simp only[sN,si,uX,zZ]at hc
     exact⟨o.slots,kp2 c o hc.1 hc.2.1 hc.2.2.1 hc.2.2.2 q⟩
   .exact λc o _ q n=>by rw[Ad (lt c o q)];exact n
   .exact λc o hc q=>by
     simp only[sN,si,uX,zZ]at hc
     exact⟨o,kp2 c o hc.1 hc.2.1 hc.2.2.1 hc.2.2.2 q⟩
   .exact λc ys q=>by rw[Ad (BJ q fr)];exact q
   .exact λc o u q=>by rw[Ad (BJ q fr)];exact q
   .exact λc ps q=>⟨#[],by rw[Ad (BJ q fr),q];simp⟩
   .rintro mm ⟨o,es,ep,ho,r⟩
    exact⟨o,es,ep,kp2 _ o (uO fz.2.1) (uO ft.2.1) (uO f1.2.1) (uO f2.2.1) ho,r⟩
   .intro c v q
    by_cases hb:c=s.heap.objs.size
    .subst hb
     rw[Av]at q
     cases q
     exact⟨by show 2<=sizeLine;decide,[u1,u2],.cons ru1 (.cons ru2 .nil),⟨_,op2,rfl,0,rfl⟩⟩
    .rw[Ad hb]at q
     refine(I.hok c v q).Sj (λd o hd r=>?_) (λd r=>by rw[Ad (BJ r fr)];exact r) (λd ys r=>by rw[Ad (BJ r fr)];exact r)
     rcases hd with e|e
     .rw[e]at r ⊢; exact kpH c v q o r
     .exact kpH d _ e o r
  .intro c hc
   have q:=hf c hc
   have:c≠s.heap.objs.size:=by
    simp only[sN,si,uX]at hc
    rcases hc with e|e|e|e|e
    .rw[e];exact nz
    .rw[e];exact lt _ _ st.oi
    .rw[e];exact nt
    .rw[e];exact n1
    .rw[e];exact n2
   rw[Ad this];exact q.1
 done:=by
  intro X hP hw hK hc i pins s σ H E I hf st hg
  subst hP hw hK
  obtain⟨xs,ys,s1,s2,e⟩:=hg
  obtain⟨i1,r1,p1⟩:=I.sqB s1
  obtain⟨i2,r2,p2⟩:=I.sqB s2
  have l1:=r1.length
  have l2:=r2.length
  have hh:X.A.in1.handled=none:=I.ok.hd hc
  have hh0:X.A.handled=none:=I.ok.hd hc
  have fz:=hf z (by simp);have fi:=hf ti (by simp);have ft:=hf tt (by simp);have f1:=hf j1 (by simp);have f2:=hf j2 (by simp)
  have ap:=N.apart (a:=a) (b:=b) (by simp[BZ I s1 fz,BZ I s1 ft,BZ I s1 f1,BZ I s1 f2]) (by simp[BZ I s2 fz,BZ I s2 ft,BZ I s2 f1,BZ I s2 f2])
  obtain⟨v1,v2,ot⟩:=st.ot
  refine Vt hh0 ap st.oz st.oi ot (st.q1.sit p1) (st.q2.sit p2) (by rcases e with e|e;exact .inl (by simp;lia);exact .inr (by simp;lia)) λh' kp=>⟨rfl,?_⟩
  have ne:∀c u,c∈ [z,ti,tt,j1,j2]->∀d,H d=Fk u->d≠c:=λc u hc d q e=>by rw[e,(hf c hc).1]at q;cases q
  show Inv X pins σ _ {s with heap:=h',gens:=s.gens,drawn:=s.drawn,toks:=s.toks}
  refine I.step (g':=s.gens) (d':=s.drawn) (ch:=[z,tt,j1,j2]) ?_ ?_ ?_ ?_ ?_ ?_ ?_ ?_ ?_ ?_ I.bare
  .intro c hc
   have q:QB X pins H c:=hf c (by simp only[sN,si,uX]at hc ⊢; rcases hc with z|z|z|z<;>simp[z])
   exact⟨q.2.2.2.1,q.2.1,q.2.2.2.2.1,q.2.2.2.2.2⟩
  .exact λc o _ _ hc q _=>by
    simp only[sN,si,uX,zZ]at hc
    exact kp c o hc.1 hc.2.1 hc.2.2.1 hc.2.2.2 q
  .exact λc o _ _ hc q _=>by
    simp only[sN,si,uX,zZ]at hc
    exact⟨o.slots,kp c o hc.1 hc.2.1 hc.2.2.1 hc.2.2.2 q⟩
  .exact λc o _ q n=>n
  .exact λc o hc q=>by
    simp only[sN,si,uX,zZ]at hc
    exact⟨o,kp c o hc.1 hc.2.1 hc.2.2.1 hc.2.2.2 q⟩
  .exact λc ys q=>q
  .exact λc o u q=>q
  .exact λc ps q=>⟨#[],by rw[q];simp⟩
  .rintro mm ⟨o,es,ep,ho,r⟩
   exact⟨o,es,ep,kp _ o (uO fz.2.1) (uO ft.2.1) (uO f1.2.1) (uO f2.2.1) ho,r⟩
  .intro c v q
   refine(I.hok c v q).Sj (λd o hd r=>?_) (λd r=>r) (λd ys r=>r)
   rcases hd with e|e
   .rw[e]at r ⊢; exact kp c o (ne z v (by simp) c q) (ne tt v (by simp) c q) (ne j1 v (by simp) c q) (ne j2 v (by simp) c q) r
   .exact kp d o (ne z _ (by simp) d e) (ne tt _ (by simp) d e) (ne j1 _ (by simp) d e) (ne j2 _ (by simp) d e) r
 self:=λ_ _ _ _ _ st h=>wpAny_pyIter_zip st.oz h
end L2
end
noncomputable section
namespace L2
open PySem PySem.Spec PyProof.Rows
theorem zne(n:Nat):ZNe (n+4) (n+2) (n+3) n (n+1):=⟨λe=>by have:n+2=n+4:=e;lia,λe=>by have:n+3=n+4:=e;lia,λe=>by have:n=n+4:=e;lia,λe=>by have:n+1=n+4:=e;lia,λe=>by have:n+2=n+3:=e;lia,λe=>by have:n+2=n:=e;lia,λe=>by have:n+2=n+1:=e;lia,λe=>by have:n+3=n:=e;lia,λe=>by have:n+3=n+1:=e;lia,λe=>by have:n=n+1:=e;lia⟩
section
variable{X:Cx}
noncomputable def rA(K:Wp)(ta:TA):TI:=λσ H R=>ta σ H λvs H1=>∃k a m b,vs=[.ref a,.ref b]/\(∃xs,SqB K H1 k a xs)/\(∃ys,SqB K H1 m b ys)/\R (Itz K k a m b) H1
theorem eQ{a b:sk}{ta:TA}{p pos tp:Pos}{elts:Gc sk}{n:Nat}(hg:Gl X "zip")(hm:X.mg "zip"=none)(ha:PA X [a,b] ta)(hs:sf [a,b] X.env=[(false,eval a X.env),(false,eval b X.env)]:=by rfl)(hs2:sf [b] X.env=[(false,eval b X.env)]:=by rfl):PI X (.Tuple elts n tp) (.Call (.Name "zip" p) [a,b] [] pos) (rA X.K ta):=by
 intro pins s σ H R I h
 refine Call_ (Lg I hg hm boot_zip (wZ (thn (ha pos pins s σ H _ I h) λus s1 ⟨vs,H1,I1,r1,q1⟩=>?_) (by rw[hs,hs2]) (by rw[hs2];rfl)))
 obtain⟨k,a',m,b',e,⟨xs,hq⟩,⟨ys,hr⟩,q⟩:=q1
 subst e
 obtain⟨u,v,rfl,ru,rv⟩:=r1.two
 cases (show u=tw a' from ru)
 cases (show v=tw b' from rv)
 obtain⟨i1,v1,p1⟩:=I1.sqB hq
 obtain⟨i2,v2,p2⟩:=I1.sqB hr
 refine V7 p1 p2 λh' oz oi ot q1 q2 kp=>wpAny_pyIter_zip (s:={s1 with heap:=h'}) oz ?_
 have sq:∀{q:tV} {d:sF} {is:uI W1},MB s1.heap q d is->MB h' q d is:=λ{q d is} x=>by
  cases q
  .exact(show s1.heap.IsList d is from x).at λo e=>kp _ o e
  .obtain⟨o,e,r⟩:=(show s1.heap.IsTuple d is from x)
   exact⟨o,kp _ o e,r⟩
 refine⟨s1.heap.objs.size+4,[s1.heap.objs.size+4,s1.heap.objs.size+2,s1.heap.objs.size+3,s1.heap.objs.size,s1.heap.objs.size+1],_,_,H1,rfl,I1.kept (t':=s1.toks) kp,
  YE k a' m b' _ _ _ _ _ (zne s1.heap.objs.size),⟨oz,oi,⟨_,_,ot⟩,q1.jit (sq p1),q2.jit (sq p2)⟩,λc hc=>?_,q⟩
 simp only[sN,si,uX]at hc
 have:s1.heap.objs.size<=c:=by rcases hc with rfl|rfl|rfl|rfl|rfl<;>first|exact sM _|exact Nat.le_add_right _ _
 exact I1.ZY this (I1.hok.fresh this)
end
end L2
end
noncomputable section
namespace L2
open PySem PySem.Spec PyProof.Rows
section
variable{prog:sj}{w:tu}{A:tM}{E:W1->sE->Prop}{s:sE}
theorem IsList.RF{h h':tT}{a:sF}{items:uI W1}(p:h.IsList a items)(k:∀o,h.get? a=Fk o->h'.get? a=Fk o):h'.IsList a items:=by
 obtain⟨o,ho,r⟩:=p
 exact⟨o,k o ho,r⟩
theorem OO{it t:sF}{items:uI W1}(hne:t≠it):∀(n i:Nat) (s:sE) (Q:Gc W1->sE->Prop),s.heap.IsListIter it t i->s.heap.IsList t items->i+n<=items.size->(∀h',h'.IsListIter it t (i+n)->xY it s.heap h'->Q ((items.toList.drop i).take n) {s with heap:=h'})->wpAny (model prog w) A (draw (.ref it) n) Q E s
 |0,i,s,Q,hit,_,_,hQ=>by
  show wpAny _ _ (pure []) Q E s
  exact sR (by simpa using hQ s.heap hit (Heap.SameBut.refl ..))
 |n+1,i,s,Q,hit,ht,hle,hQ=>by
  have hlt:i<items.size:=by lia
  show wpAny _ _ (pyNext (.ref it) >>= _) Q E s
  refine rz (xZ hit ht (x:=items[i]) (by simp[hlt]) λh1 hit1 hs1=>?_)
  refine rz (ua (OO hne n (i+1) _ _ hit1 (IsList.RF ht λo e=>hs1.extBut t o hne e) (by lia) λh2 hit2 hs2=>sR ?_))
  have hd:items.toList.drop i=items[i]::items.toList.drop (i+1):=by simp[tS,hlt]
  have:=hQ h2 (by rw[show i+(n+1)=i+1+n by lia];exact hit2) (hs1.trans hs2)
  rw[hd,List.take_succ_cons]at this
  exact this
theorem Kb{t:sF}{items:uI W1}{Q:Gc W1->sE->Prop}(hh:A.handled=none)(ht:s.heap.IsList t items)(hty:s.TypeIs (.ref t) "list")(hQ:∀h',y2 s.heap.objs.size s.heap h'->Q items.toList {s with heap:=h'}):wpAny (model prog w) A (unpackItems (.ref t) items.size none) Q E s:=by
 have hlt:t≠s.heap.objs.size:=by obtain⟨o,ho,_⟩:=ht;exact tE (sW ho)
 unfold unpackItems
 refine rz ?_
 .unfold notIterableAtAll
  refine rz (wpAny_specialOf hty F.slot_list_iter.lookup ?_)
  refine sR ?_
  simp only[xS,xk]
  refine rz (ua (uy ht ?_))
  refine rz (ua (OO hlt items.size 0 _ _ ⟨_,sg _ rfl,rfl,rfl⟩ (IsList.RF ht λo e=>sC _ e) (by lia) λh1 hit1 hs1=>?_))
  have hall:List.take items.size (List.drop 0 items.toList)=items.toList:=by
   rw[List.drop_zero];exact ve (by simp)
  rw[hall]
  rw[tN (by simp)]
  have ht1:h1.IsList t items:=IsList.RF (IsList.RF ht λo e=>sC _ e) λo e=>hs1.extBut t o hlt e
  refine rz (ua (x9 hh hit1 ht1 (by simp) λh2 he2=>?_))
  simp only[Option.isSome_none,xS,xk]
  refine sR (hQ h2 λb o hb e=>he2 b o hb (hs1.extBut b o hb (sC _ e)))
theorem Jq{env:Env}{elts:Gc sk}{x1}{pos:Pos}{t:sF}{items:uI W1}{Q:Unit->sE->Prop}(hh:A.handled=none)(ht:s.heap.IsList t items)(hty:s.TypeIs (.ref t) "list")(hn:(assignEach elts env).length=items.size)(hstar:(assignEach elts env).findIdx? (·.1)=none)(h:∀h',y2 s.heap.objs.size s.heap h'->wpAny (model prog w) A (assignInOrder ((assignEach elts env).map (·.2)) items.toList) Q E {s with heap:=h'}):wpAny (model prog w) A (assign (.Tuple elts x1 pos) env (.ref t)) Q E s:=by
 rw[PyProof.Rows.assign_Tuple]
 refine rz (vg ?_)
 unfold unpack
 rw[hn,hstar]
 exact rz (ua (Kb hh ht hty h))
end
section
variable{X:Cx}{pos:Pos}
noncomputable def pk(K:Wp)(n:Nat)(t:TGs):TG:=λv σ H Q=>∃a xs,v=.ref a/\(SqT K H a xs\/H a=Fk (.lst xs))/\xs.length=n/\t xs σ H Q
theorem gF{es:Gc sk}{k:Nat}{t:TGs}{n:Nat}(hc:X.calm=true)(h:PGs X es t)(hn:(assignEach es X.env).length=n:=by rfl)(hst:(assignEach es X.env).findIdx? (·.1)=none:=by rfl):PG X (.Tuple es k pos) (pk X.K n t):=by
 intro pins s σ H v u Q I r hw
 obtain⟨a,xs,e1,hq,hl,hw⟩:=hw
 rcases hq with hq|hq
 .exact iF hc h hn hst pins s σ H v u Q I r ⟨a,xs,e1,hq,hl,hw⟩
 .subst e1
  cases r
  obtain⟨its,rv,p,hz⟩:=I.list (SqL.of hq)
  obtain⟨z,its2,m,rv2,_,e⟩:=I.Yy hq
  refine Jq (I.ok.hd hc) p.isList ⟨_,e,rfl⟩ (by simp[hn,<-hl,rv.length]) hst λh' hx=>?_
  have I1:Inv X pins σ H {s with heap:=h'}:=I.kept (t':=s.toks) λb o e=>hx b o (tE (sW e)) e
  exact h pins _ σ H xs _ Q I1 (by simpa using rv) hw
end
end L2
end
noncomputable section
namespace L2
open PySem PySem.Spec PyProof.Rows
theorem JIt.live{h:tT}{k:tV}{j l:sF}{i:Nat}(q:JIt h k j l i):∃o,h.get? j=Fk o/\∀v,o.data≠.cell v:=by
 cases k with
 |true=>obtain⟨o,e,c,d⟩:=q;exact⟨o,e,λv z=>by rw[d]at z;cases z⟩
 |false=>obtain⟨o,e,c,d⟩:=q;exact⟨o,e,λv z=>by rw[d]at z;cases z⟩
theorem MB.mono{h h':tT}{k:tV}{l:sF}{its:uI W1}(q:MB h k l its)(e:∀o,h.get? l=Fk o->h'.get? l=Fk o):MB h' k l its:=by
 cases k with
 |true=>obtain⟨o,ho,r⟩:=q;exact⟨o,e o ho,r⟩
 |false=>obtain⟨o,ho,r⟩:=q;exact⟨o,e o ho,r⟩
theorem Ut{prog:sj}{w:tu}{A:tM}(hh:A.handled=none)(it t:sF)(hne:t≠it)(items:uI W1):Draws prog w A it [it,t] items.size (λi v=>items[i]?=Fk v) (λi h=>SIt h it t i items) where
 live:=λ_ _ st=>let⟨o,ho,_⟩:=st.live;⟨o,ho⟩
 frame:=λ_ _ _ st hk=>st.at (λo e=>hk it (by simp) o e) λo e=>hk t (by simp) o e
 item:=λi s Q E hi st hQ=>Kq st (x:=items[i]) (by simp[hi]) λh' a b=>hQ _ h' s.toks (by simp[hi]) a b
 done:=λs Q E st hE=>Kl hh st (by simp) hE
noncomputable def ItE(K:Wp)(kk:tV)(a:sF):It:=
 ⟨λi H=>∃xs x,SqB K H kk a xs/\xs[i]?=Fk x,λi H x H'=>∃p y,H p=none/\x=.ref p/\(∀xs,SqB K H kk a xs->xs[i]?=Fk y)/\H'=upd H p (.tup [.int i,y]),λi H=>∃xs,SqB K H kk a xs/\xs.length<=i⟩
theorem RY{P:sj}{w:tu}{K:Wp}{elts:Gc sk}{k:Nat}{pos:Pos}(kk:tV)(a e it:sF)(hei:e≠it):Turn P w K (.Tuple elts k pos) (ItE K kk a) [e,it] e (λi h=>(∃old,IsEnum h e it i old)/\JIt h kk it a i) where
 mem:=by simp
 obj:=λi h st b hb=>by
  obtain⟨⟨old,h1⟩,st2⟩:=st
  obtain⟨o,h2,h4⟩:=st2.live
  simp only[sN,si,uX]at hb
  rcases hb with rfl|rfl
  .exact⟨_,h1,λv z=>nomatch z⟩
  .exact⟨o,h2,h4⟩
 keep:=λi h h' st k=>by
  obtain⟨⟨old,h1⟩,h2⟩:=st
  exact⟨⟨old,k e (by simp) _ h1⟩,h2.at λo q=>k it (by simp) o q⟩
 item:=by
  intro X hP hw hK hc i pins s σ H E I hf st hg
  subst hP hw hK
  obtain⟨xs,x,hq,hx⟩:=hg
  obtain⟨its,rv,p⟩:=I.sqB hq
  obtain⟨u,hu,ru⟩:=rv.get hx
  obtain⟨⟨old,h1⟩,h2⟩:=st
  obtain⟨oi,hi1,hi2⟩:=h2.live
  have hea:a≠e:=BZ I hq (hf e (by simp))
  have hia:a≠it:=BZ I hq (hf it (by simp))
  have hil:i<its.toArray.size:=by
   have:=(sO.mp hu).1
   simpa using this
  have hh:X.A.in1.handled=none:=I.ok.hd hc
  have D:=Ut (prog:=X.prog) (w:=X.w) hh it a hia its.toArray
  refine wpAny_pyNext_enum_itemD D h1 (h2.sit p) hil hei (by simp[hei,uO hea]) ?_
  intro y h' tk hy out st' tup size kept
  have ey:y=u:=by
   have:its[i]?=Fk y:=by simpa using hy
   rw[hu]at this
   exact(uq this).symm
  subst ey
  refine⟨_,rfl,wpAny_letOwnedTupleGo_enum out λh'' en sb=>?_⟩
  have hfe:=hf e (by simp)
  have hfi:=hf it (by simp)
  have lt:∀b o,s.heap.get? b=Fk o->b≠s.heap.objs.size:=λb o q=>tE (sW q)
  have kept2:∀b o,b≠e->b≠it->s.heap.get? b=Fk o->h''.get? b=Fk o:=λb o b1 b2 q=>(sb.2 b b1).trans (kept b o b1 b2 q)
  have fr:H s.heap.objs.size=none:=I.hok.fresh (sM _)
  have tup2:h''.get? s.heap.objs.size=Fk {cls:=.type "tuple",data:=.seq #[.int i tk,y]}:=(sb.2 _ (uO (lt e _ h1))).trans tup
  have ne1:∀b u,H b=Fk u->b≠e:=λb u q z=>by rw[z,hfe.1]at q;cases q
  have ne2:∀b u,H b=Fk u->b≠it:=λb u q z=>by rw[z,hfi.1]at q;cases q
  refine⟨.ref s.heap.objs.size,upd H s.heap.objs.size (.tup [.int i,x]),?_,rfl,⟨_,x,fr,rfl,λys hys=>by rw[I.QD hys hq];exact hx,rfl⟩,⟨⟨y,en⟩,?_⟩,?_⟩
  .show Inv X pins σ _ {s with heap:=h'',gens:=s.gens,drawn:=s.drawn,toks:=tk+1}
   refine I.step (g':=s.gens) (d':=s.drawn) (ch:=[e,it]) ?_ ?_ ?_ ?_ ?_ ?_ ?_ ?_ ?_ ?_ I.bare
   .intro b hb
    simp only[sN,si,uX]at hb
    rcases hb with rfl|rfl
    .exact⟨hfe.2.2.2.1,hfe.2.1,hfe.2.2.2.2.1,hfe.2.2.2.2.2⟩
    .exact⟨hfi.2.2.2.1,hfi.2.1,hfi.2.2.2.2.1,hfi.2.2.2.2.2⟩
   .exact λb o _ _ hc q _=>kept2 b o (λz=>hc (by simp[z])) (λz=>hc (by simp[z])) q
   .exact λb o _ _ hc q _=>⟨o.slots,kept2 b o (λz=>hc (by simp[z])) (λz=>hc (by simp[z])) q⟩
   .exact λb o _ q n=>by rw[Ad (lt b o q)];exact n
   .exact λb o hc q=>⟨o,kept2 b o (λz=>hc (by simp[z])) (λz=>hc (by simp[z])) q⟩
   .exact λb ys q=>by rw[Ad (BJ q fr)];exact q
   .exact λb o u q=>by rw[Ad (BJ q fr)];exact q
   .exact λb ps q=>⟨#[],by rw[Ad (BJ q fr),q];simp⟩
   .rintro m ⟨o,es,ep,ho,r⟩
    exact⟨o,es,ep,kept2 _ o (uO hfe.2.1) (uO hfi.2.1) ho,r⟩
   .intro b v q
    by_cases hb:b=s.heap.objs.size
    .subst hb
     rw[Av]at q
     cases q
     exact⟨by show 2<=sizeLine;decide,[.int i tk,y],.cons ⟨tk,rfl⟩ (.cons ru .nil),⟨_,tup2,rfl,0,rfl⟩⟩
    .rw[Ad hb]at q
     refine(I.hok b v q).Sj (λc z hc r=>kept2 c z ?_ ?_ r) (λc r=>by rw[Ad (BJ r fr)];exact r) (λc ys r=>by rw[Ad (BJ r fr)];exact r)
     .rcases hc with z|z
      .rw[z];exact ne1 b v q
      .exact ne1 c _ z
     .rcases hc with z|z
      .rw[z];exact ne2 b v q
      .exact ne2 c _ z
  .have pa:MB h'' kk a its.toArray:=p.mono λo q=>kept2 a o hea hia q
   exact(st'.at (λo q=>(sb.2 it (uO hei)).trans q) λo q=>(sb.2 a hea).trans q).jit pa
  .intro b hb
   simp only[sN,si,uX]at hb
   rcases hb with rfl|rfl
   .rw[Ad (lt b _ h1)];exact hfe.1
   .rw[Ad (lt b _ hi1)];exact hfi.1
 done:=by
  intro X hP hw hK hc i pins s σ H E I hf st hg
  subst hP hw hK
  obtain⟨xs,hq,hx⟩:=hg
  obtain⟨its,rv,p⟩:=I.sqB hq
  obtain⟨⟨old,h1⟩,h2⟩:=st
  have hl:=rv.length
  have hh:X.A.in1.handled=none:=I.ok.hd hc
  obtain⟨f0,f1,f2,f3,f4,f5⟩:=hf it (by simp)
  have D:Draws X.prog X.w X.A.in1 it [it,a] i (λ_ _=>y8) (λj h=>j=i/\SIt h it a i its.toArray):=
   {live:=λ_ _ st=>let⟨o,ho,_⟩:=st.2.live;⟨o,ho⟩
    frame:=λ_ _ _ st hk=>⟨st.1,st.2.at (λo e=>hk it (by simp) o e) λo e=>hk a (by simp) o e⟩
    item:=λj s Q E hj st _=>absurd st.1 (tE hj)
    done:=λs Q E st hE=>Kl hh st.2 (by simp;lia) hE}
  exact wpAny_pyNext_enum_endD D h1 ⟨rfl,h2.sit p⟩ λh' eb=>⟨rfl,I.turned (t':=s.toks) (λb o hb q=>eb b o hb q) f0 f1 f3 f4 f5⟩
 self:=λ_ _ _ _ _ st h=>by
  obtain⟨⟨old,h1⟩,_⟩:=st
  exact wpAny_pyIter_enum h1 h
section
variable{X:Cx}
noncomputable def fX(K:Wp)(ta:TA):TI:=λσ H R=>ta σ H λvs H1=>∃kk a,vs=[.ref a]/\(∃xs,SqB K H1 kk a xs)/\R (ItE K kk a) H1
theorem Wx{a:sk}{ta:TA}{p pos tp:Pos}{elts:Gc sk}{k:Nat}(hg:Gl X "enumerate")(hm:X.mg "enumerate"=none)(ha:PA X [a] ta)(hs:sf [a] X.env=[(false,eval a X.env)]:=by rfl):PI X (.Tuple elts k tp) (.Call (.Name "enumerate" p) [a] [] pos) (fX X.K ta):=by
 intro pins s σ H R I h
 refine Call_ (Lg I hg hm boot_enumerate (callWith_type1 (thn (ha pos pins s σ H _ I h) λus s1 ⟨vs,H1,I1,r1,q1⟩=>?_) hs rfl))
 obtain⟨kk,b,e,⟨xs,hq⟩,q⟩:=q1
 subst e
 obtain⟨u,rfl,ru⟩:=r1.one
 cases (show u=tw b from ru)
 obtain⟨its,rv,pt⟩:=I1.sqB hq
 have fin:∀h':tT,IsEnum h' (s1.heap.objs.size+1) s1.heap.objs.size 0 .none->JIt h' kk s1.heap.objs.size b 0->(∀b o,s1.heap.get? b=Fk o->h'.get? b=Fk o)->wpAny (model X.prog X.w) X.A (pyIter (.ref (s1.heap.objs.size+1))) (PIE X pins σ (.Tuple elts k tp) R) X.xe {s1 with heap:=h'}:=λh' en it kp=>by
  refine wpAny_pyIter_enum (s:={s1 with heap:=h'}) en ?_
  refine⟨s1.heap.objs.size+1,[s1.heap.objs.size+1,s1.heap.objs.size],_,_,H1,rfl,I1.kept (t':=s1.toks) kp,RY kk b (s1.heap.objs.size+1) s1.heap.objs.size (Nat.succ_ne_self _),⟨⟨_,en⟩,it⟩,λc hc=>?_,q⟩
  simp only[sN,si,uX]at hc
  rcases hc with rfl|rfl
  .exact I1.ZY (by lia) (I1.hok.fresh (by lia))
  .exact I1.ZY (sM _) (I1.hok.fresh (sM _))
 cases kk with
 |true=>exact Rt (show s1.heap.IsTuple b its.toArray from pt) λh' en it kp=>fin h' en it kp
 |false=>exact call_enumerate_list (show s1.heap.IsList b its.toArray from pt) λh' en it _ kp=>fin h' en it kp
end
end L2
end
noncomputable section
namespace St
open PySem PySem.Spec L2 PyProof.Rows
inductive Kd where
 |non|bl|int|str|tup|lst|dct
 deriving DecidableEq
noncomputable def Kd.ty:Kd->ug
 | .non=>"NoneType" | .bl=>"bool" | .int=>"int" | .str=>"str" | .tup=>"tuple" | .lst=>"list" | .dct=>"dict"
noncomputable def Kd.isA:Kd->ug->tV
 | .bl,"bool"=>true| .bl,"int"=>true| .int,"int"=>true| .str,"str"=>true| .tup,"tuple"=>true| .lst,"list"=>true| .dct,"dict"=>true
 |_,_=>false
section
variable{K:Wp}
theorem ZP(k:Kd):vk K (.type k.ty) (.type "int")=Fk (k.isA "int"):=by
 cases k<;>first|rfl|(unfold vk;rfl)
theorem Wn(k:Kd):vk K (.type k.ty) (.type "bool")=Fk (k.isA "bool"):=by
 cases k<;>rfl
theorem kit_tuple(k:Kd):vk K (.type k.ty) (.type "tuple")=Fk (k.isA "tuple"):=by
 cases k<;>rfl
theorem au(k:Kd):vk K (.type k.ty) (.type "str")=Fk (k.isA "str"):=by
 cases k<;>rfl
end
structure Dfn(P:sj)(w:tu)(K:Wp)(mg:Str->sD W1)(base:tT)(x:Str)(k:Nat)(ps:Gc Str)(sp:Sp):Prop where
 ex:∃f fd,mg x=Fk (.ref f)/\vG K (.ref f)=true/\Binds K fd ps []/\Pb P w K mg base CX0 k f fd ps sp
structure Src(K:Wp)(mg:Str->sD W1)(x:Str)(st:tP):Prop where
 ex:∃f fd,Fun K x x st f fd/\mg x=Fk (.ref f)
theorem lG{X:Cx}{k:Nat}{x:Str}{ps:Gc Str}{sp:Sp}{e:sk}{es:Gc sk}{t:TA}{p pos:Pos}(d:Dfn X.prog X.w X.K X.mg X.base x k ps sp)(hr:Eg k X.A)(hg:Gl X x)(ha:PA X (e::es) t)(hdb:(x==("__debug__":Str))=false:=by decide)(he:sf (e::es) X.env=(false,eval e X.env)::sf es X.env:=by rfl)(hpl:(backTo pos (sf es X.env)).any (·.1)=false:=by rfl):PE X (.Call (.Name x p) (e::es) [] pos) (bP sp [] E0 t):=by
 obtain⟨f,fd,a,b,c,F⟩:=d.ex
 exact Zn F hr hg a b c .nil mH ha hdb he hpl
section
variable{X:Cx}
theorem az{n:Nat}(h:n<2^8000):n.log2<9000:=by
 by_cases h0:n=0
 .subst h0;decide
 .exact Nat.lt_trans ((Nat.log2_lt h0).mpr h) (by decide)
theorem Wq:OpR X (binaryOp .FloorDiv) (rI (λ_ j=>0<j/\j.natAbs<2^8000) λi j=>.int (i / j)):=opI λi j _ _ _ _ _ hc q=>by
 have h1:(0:Int)<j:=hc.1
 exact floordiv_int (by lia) (by rw[Int.fdiv_eq_ediv_of_nonneg i (by lia)];exact q) (.inl (PyProof.noPylong_of_log2 (az hc.2)))
theorem Md{prog:sj}{w:tu}{A:tM}(hh:A.handled=none){a it:sF}(hne:a≠it){vs:Gc W1}:Walks prog w A it [it,a] [it] vs.length (λi v=>vs[i]?=Fk v) (λi h=>h.IsListIter it a i/\h.IsList a vs.toArray) where
 sub:=λb hb=>by simp at hb;simp[hb]
 frame:=λi h h' st k=>⟨st.1.at λo e=>k it (by simp) o e,by
  obtain⟨o,ho,r⟩:=st.2
  exact⟨o,k a (by simp) o ho,r⟩⟩
 item:=λi s Q E hi st hQ=>by
  refine xZ st.1 st.2 (x:=vs[i]) (by simp[hi]) λh' st' sb=>?_
  refine hQ _ h' s.toks (by simp[hi]) ⟨st',?_⟩ λb o hb e=>(sb.2 b (by simpa using hb)).trans e
  obtain⟨o,ho,r⟩:=st.2
  exact⟨o,(sb.2 a hne).trans ho,r⟩
 done:=λs Q E st hQ=>x9 hh st.1 st.2 (by simp) λh' eb=>hQ h' s.toks λb o hb e=>eb b o (by simpa using hb) e
 self:=λi s Q E st hQ=>zt st.1 hQ
theorem V6(hc:X.calm=true):El X (.builtin "all") (λxs H Q=>∃(p:sF) (bs:Gc tV),xs=[.ref p]/\SqL X.K H p (bs.map V.bl)/\Q (.bl (bs.all id)) H):=by
 intro pins s σ H xs us Q I r h
 obtain⟨p,bs,rfl,hp,q⟩:=h
 obtain⟨u,rfl,ru⟩:=r.one
 cases (show u=tw p from ru)
 obtain⟨its,rv,pl,hz⟩:=I.list hp
 have hd:X.A.in1.handled=none:=I.ok.hd hc
 refine call_all_walk (uy pl.isList ?_)
 have hlen:bs.length=its.length:=by have:=rv.length;simpa using this
 have hpl:=pl.isList
 have hne:p≠s.heap.objs.size:=by
  obtain⟨o,ho,_⟩:=hpl
  exact tE (sW ho)
 refine⟨s.heap.objs.size,_,_,its.length,_,_,λi=>bs.getD i true,rfl,Md (vs:=its) hd hne,⟨⟨_,sg _ rfl,rfl,rfl⟩,?_⟩,?_,?_⟩
 .obtain⟨o,ho,r⟩:=hpl
  exact⟨o,sC _ ho,r⟩
 .intro i v s' Q' E' hv hq
  have hi:i<its.length:=(sO.mp hv).1
  have hb:(bs.map V.bl)[i]?=Fk (.bl (bs.getD i true)):=by
   rw[sP,sA (by lia)]
   simp[sG,sA (show i<bs.length by lia)]
  obtain⟨u,hu,ru⟩:=rv.get hb
  rw[hv]at hu
  cases hu
  cases (show v=yh _ from ru)
  exact vW hq
 .intro h' tk hk
  have e:(tL its.length).all (λi=>bs.getD i true)=bs.all id:=by
   rw[<-hlen]
   clear q hp rv hlen
   have:∀(l:Gc tV),(tL l.length).all (λi=>l.getD i true)=l.all id:=by
    intro l
    induction l with
    |nil=>rfl
    |cons b l ih=>
     rw[tY,List.range_succ_eq_map,wV,List.all_map,wV,<-ih]
     rfl
   exact this bs
  rw[e]
  exact⟨.bl _,H,I.kept (t':=tk) λb o eb=>hk b o (by simp;exact tE (sW eb)) (sC _ eb),rfl,q⟩
theorem XC{ns:Gc Int}{j:Nat}(h:j<ns.length):(ns.take (j+1)).sum=(ns.take j).sum+ns.getD j 0:=by
 have e:ns.getD j 0=ns[j]:=by simp[sG,sA h]
 rw[AAD,sA h,xQ,e]
 show _+(ns[j]+0)=_
 lia
theorem Kt{ns:Gc Int}:∀{j:Nat},j<=ns.length->preSum (λi=>ns.getD i 0) j=(ns.take j).sum
 |0,_=>by simp[preSum]
 |j+1,h=>by
  rw[preSum,Kt (by lia),XC (by lia)]
theorem Tv{ns:Gc Int}(h:∀n∈ns,0<=n/\n<=1000000):0<=ns.sum/\ns.sum<=1000000*ns.length:=by
 induction ns with
 |nil=>simp
 |cons a l ih=>
  have h1:=h a (by simp)
  have h2:=ih λn hn=>h n (by simp[hn])
  rw[uS,tY]
  have:((l.length+1:Nat):Int)=(l.length:Int)+1:=by lia
  lia
end
section
variable{prog:sj}{w:tu}{A:tM}{E:W1->sE->Prop}{s:sE}
theorem Jy{t sl:sF}{items:uI W1}{vl vu:W1}{lo hi:sD Int}{Q:W1->sE->Prop}(ht:zS s.heap t items)(hs:s.heap.IsSliceOf sl vl vu .none)(pl:zT vl lo)(pu:zT vu hi)(hw:HT.sIx items.size 0 lo=0/\HT.sIx items.size items.size hi=items.size)(h:Q (.ref t) s):wpAny (model prog w) A (getItem (.ref t) (.ref sl)) Q E s:=by
 obtain⟨os,hos,hcs,hds⟩:=id hs
 have hTs:s.TypeIs (.ref sl) "slice":=⟨os,hos,hcs⟩
 unfold getItem
 try with_reducible refine ua ?_
 first|refine rz (sR ?_)|skip
 refine rz (wpAny_sequenceKey ht.typeIs (by decide) ?_)
 refine rz (vE (name:=ur "__getitem__") ht.typeIs uP
  (vN uP ht.typeIs AAT ?_ (AAn _ _)))
 show wpAny _ _ (yo (.ref t) >>= _) _ _ s
 refine rz (tupleItemsOf_ ht ?_)
 refine rz (zU hTs ?_)
 rw[tK (by decide)]
 refine rz (HT.G9 hs pl pu ?_)
 show wpAny _ _ (if(((HT.sIx items.size 0 lo:Nat):Int)==0 && (1:Int)==1 && (HT.sIx items.size items.size hi-HT.sIx items.size 0 lo)==items.size)=true then _ else _) _ _ s
 rw[tK (by rw[hw.1,hw.2];simp)]
 unfold Builtin.Tuple.tupleIsExact
 refine rz (rz (zU ht.typeIs (sR ?_)))
 rw[tK (by decide)]
 exact rz (yj (sR ⟨_,rfl,sR h⟩))
end
section
variable{X:Cx}
def qO(K:Wp):V->sD Int->sD Int->Hp->VK->Prop:=λx lo hi H Q=>∃a xs,x=.ref a/\SqT K H a xs/\HT.sIx xs.length 0 lo=0/\HT.sIx xs.length xs.length hi=xs.length/\Q x H
theorem dR:SlR X (qO X.K):=by
 intro pins s σ H x v vl vu lo hi sl Q I rx hs pl pu h
 obtain⟨a,xs,rfl,hx,h1,h2,q⟩:=h
 cases rx
 obtain⟨its,r,ht,hz⟩:=I.tuple hx
 have hlen:its.toArray.size=xs.length:=by rw[sY];exact r.length.symm
 refine⟨"tuple",_,uP.lookup,ht.typeIs,?_⟩
 exact Jy ht hs pl pu (by rw[hlen];exact⟨h1,h2⟩) ⟨.ref a,H,I,rfl,q⟩
noncomputable def nP(K:Wp):R2:=λx y H Q=>∃a b ys,x=.ref a/\y=.ref b/\SqT K H a []/\SqT K H b ys/\Q (.ref b) H
theorem Zv:OpR X (binaryOp .Add) (nP X.K):=by
 intro pins s σ H x y v u Q I rx ry h
 obtain⟨a,b,ys,rfl,rfl,ha,hb,q⟩:=h
 cases rx
 cases ry
 obtain⟨its,r1,p1,_⟩:=I.tuple ha
 obtain⟨its2,r2,p2,_⟩:=I.tuple hb
 have e0:its=[]:=r1.NJ.mpr rfl
 subst e0
 obtain⟨⟨cls,dd,data,sl⟩,ho,hc,n,hd⟩:=id p1
 obtain⟨⟨cls2,dd2,data2,sl2⟩,ho2,hc2,n2,hd2⟩:=id p2
 simp only at hc hd hc2 hd2
 subst hc hd hc2 hd2
 exact concat_meets ⟨_,ho,rfl⟩ ⟨_,ho2,rfl⟩ zJ AAe xj xW (xH _ _)
  (tuple_addW0 a b #[] its2.toArray n n2 dd dd2 sl sl2 rfl) ⟨ho,ho2,⟨.ref b,H,I,rfl,q⟩⟩
end
end St
end
noncomputable section
namespace Mi
open PySem PySem.Spec L2
inductive D where
 |non|bl (b:tV)|int (i:Int)|str (x:Str)|ty (n:ug)|tup (ds:Gc D)|lst (ds:Gc D)|dct (kvs:Gc (Key×D))|scr (ns:Gc Int)|ref (n:Nat)
inductive Wv where
 |val (d:D)|own (ds:Gc D)
inductive Cl where
 |lst (ds:Gc D)|dct (kvs:Gc (Key×D))|tab (x:Str)|ins (C:Str) (fs:Gc (Str×D))
abbrev Sto:=Gc Cl
structure Ms where
 cel:Gc sF
 tmp:Gc sF
def Ms.mem(M:Ms)(a:sF):Prop:=a∈M.cel\/a∈M.tmp
noncomputable def Ms.no:Ms:=⟨[],[]⟩
def KL(K:Wp)(a:sF)(xs:Gc V):Prop:=∃(o:Obj) (its:uI W1) (n:Nat),K.lookup a=Fk o/\o.cls=.type "list" /\o.dict=none/\o.data=.seq its n/\its.size<=sizeLine/\Vals xs its.toList
mutual
inductive Br(K:Wp)(M:Ms)(H:Hp):V->D->Prop
 |non:Br K M H .non .non
 |bl (b:tV):Br K M H (.bl b) (.bl b)
 |int (i:Int):Br K M H (.int i) (.int i)
 |str (x:Str):Br K M H (.str x) (.str x)
 |ty (n:ug):Br K M H (.ty n) (.ty n)
 |tup {a:sF} {xs:Gc V} {ds:Gc D} (h:SqT K H a xs) (r:Aj K M H xs ds):Br K M H (.ref a) (.tup ds)
 |lst {a:sF} {xs:Gc V} {ds:Gc D} (h:H a=Fk (.lst xs)) (n:¬M.mem a) (r:Aj K M H xs ds):Br K M H (.ref a) (.lst ds)
 |scr {a:sF} {ns:Gc Int} (h:(Rd H a (.lst (ns.map V.int))/\¬M.mem a)\/KL K a (ns.map V.int)):Br K M H (.ref a) (.scr ns)
 |dct {a:sF} {kvs:Gc (Key×V)} {es:Gc (Key×D)} (h:H a=Fk (.dK kvs)) (n:¬M.mem a) (r:Cs K M H kvs es):Br K M H (.ref a) (.dct es)
 |ref {a:sF} {n:Nat} (h:M.cel[n]?=Fk a):Br K M H (.ref a) (.ref n)
inductive Aj(K:Wp)(M:Ms)(H:Hp):Gc V->Gc D->Prop
 |nil:Aj K M H [] []
 |cons {v:V} {d:D} {vs:Gc V} {ds:Gc D} (h:Br K M H v d) (t:Aj K M H vs ds):Aj K M H (v::vs) (d::ds)
inductive Cs(K:Wp)(M:Ms)(H:Hp):Gc (Key×V)->Gc (Key×D)->Prop
 |nil:Cs K M H [] []
 |cons {k:Key} {v:V} {d:D} {vs:Gc (Key×V)} {ds:Gc (Key×D)} (h:Br K M H v d) (t:Cs K M H vs ds):Cs K M H ((k,v)::vs) ((k,d)::ds)
end
def Mob:HO->Prop
 | .lst _=>y8
 | .dK _=>y8
 | .tbl _=>y8
 | .ins _ _ _=>y8
 |_=>vS
def MOk(M:Ms)(H:Hp):Prop:=∀a,M.mem a->∃o,H a=Fk o/\Mob o
structure Sp1(M:Ms)(H:Hp)(M':Ms)(H':Hp):Prop where
 mo:MOk M H
 pre:M.cel <+: M'.cel
 fresh:∀a,M'.mem a->M.mem a\/H a=none
 keep:∀a o,H a=Fk o->¬M.mem a->H' a=Fk o
structure Gr(M:Ms)(H:Hp)(M':Ms)(H':Hp):Prop where
 mo:MOk M H
 pre:M.cel <+: M'.cel
 tmp:M'.tmp=M.tmp
 fresh:∀a,a∈M'.cel->a∈M.cel\/H a=none
 keep:∀a o,H a=Fk o->a∉M.cel->H' a=Fk o
 some:∀a,H a≠none->H' a≠none
section
variable{K:Wp}{M M' M2:Ms}{H H' H2:Hp}
theorem MOk.some(mo:MOk M H){a:sF}(h:M.mem a):H a≠none:=λz=>by
 obtain⟨o,e,_⟩:=mo a h
 rw[e]at z;cases z
theorem MOk.at(mo:MOk M H){a:sF}(k:∀b o,H b=Fk o->H' b=Fk o)(h:M.mem a):∃o,H' a=Fk o/\Mob o:=(mo a h).imp λo z=>⟨k a o z.1,z.2⟩
theorem Gr.st(g:Gr M H M' H'):Sp1 M H M' H':=⟨g.mo,g.pre,λa z=>z.elim (λz=>(g.fresh a z).imp .inl id) λz=>.inl (.inr (by rw[<-g.tmp];exact z)),λa o e n=>g.keep a o e λz=>n (.inl z)⟩
theorem Gr.refl(mo:MOk M H):Gr M H M H:=⟨mo,uV,rfl,λ_ z=>.inl z,λ_ _ e _=>e,λ_ e=>e⟩
theorem Gr.none(g:Gr M H M' H'){a:sF}(h:H' a=none):H a=none:=by
 cases e:H a with
 |none=>rfl
 |some o=>exact absurd h (g.some a (by rw[e];intro z;cases z))
theorem Gr.trans(h:Gr M H M' H')(g:Gr M' H' M2 H2):Gr M H M2 H2:=
 ⟨h.mo,h.pre.trans g.pre,g.tmp.trans h.tmp,λa z=>(g.fresh a z).elim (h.fresh a) λz=>.inr (h.none z),λa o e n=>g.keep a o (h.keep a o e n) (λz=>by
   rcases h.fresh a z with z|z
   .exact n z
   .rw[e]at z;cases z),λa e=>g.some a (h.some a e)⟩
theorem Gr.grow(mo:MOk M H)(k:∀a o,H a=Fk o->H' a=Fk o):Gr M H M H':=
 ⟨mo,uV,rfl,λ_ z=>.inl z,λb u eb _=>k b u eb,λb eb z=>by
   cases h:H b with
   |none=>exact eb h
   |some o=>rw[k b o h]at z;cases z⟩
theorem Nx{α:Type}{xs ys:Gc α}(h:xs <+: ys){n:Nat}{a:α}(e:xs[n]?=Fk a):ys[n]?=Fk a:=by
 obtain⟨zs,rfl⟩:=h
 rw[sH (sO.mp e).1]
 exact e
theorem Sp1.YM(g:Sp1 M H M' H'){a:sF}{o:HO}(e:H a=Fk o)(n:¬Mob o):H' a=Fk o:=g.keep a o e λz=>by
 obtain⟨u,q,m⟩:=g.mo a z
 rw[e]at q;cases q;exact n m
theorem Sp1.sqT(g:Sp1 M H M' H'){a:sF}{xs:Gc V}(h:SqT K H a xs):SqT K H' a xs:=by
 rcases h with h|h
 .rcases h with h|⟨o,h⟩
  .exact .inl (.inl (g.YM h id))
  .exact .inl (.inr ⟨o,g.YM h id⟩)
 .exact .inr h
theorem Sp1.nm(g:Sp1 M H M' H'){a:sF}{o:HO}(e:H a=Fk o)(n:¬M.mem a):¬M'.mem a:=λz=>by
 rcases g.fresh _ z with z|z
 .exact n z
 .rw[z]at e;cases e
theorem Br.step(g:Sp1 M H M' H'){v:V}{d:D}(h:Br K M H v d):Br K M' H' v d:=
 Br.rec (motive_1:=λv d _=>Br K M' H' v d) (motive_2:=λv d _=>Aj K M' H' v d) (motive_3:=λv d _=>Cs K M' H' v d) .non .bl .int .str .ty (λh _ r=>.tup (g.sqT h) r) (λh n _ r=>.lst (g.keep _ _ h n) (g.nm h n) r) (λh=>by
  rcases h with⟨h,n⟩|h
  .rcases h with h|⟨o,h⟩
   .exact .scr (.inl ⟨.inl (g.keep _ _ h n),g.nm h n⟩)
   .exact .scr (.inl ⟨.inr ⟨o,g.keep _ _ h n⟩,g.nm h n⟩)
  .exact .scr (.inr h)) (λh n _ r=>.dct (g.keep _ _ h n) (g.nm h n) r) (λh=>.ref (Nx g.pre h)) .nil (λ_ _ h t=>.cons h t) .nil (λ_ _ h t=>.cons h t) h
theorem Aj.ind{P:Gc V->Gc D->Prop}(n:P [] [])(c:∀{v:V} {d:D} {vs:Gc V} {ds:Gc D},Br K M H v d->P vs ds->P (v::vs) (d::ds)){vs:Gc V}{ds:Gc D}(h:Aj K M H vs ds):P vs ds:=
 Aj.rec (motive_1:=λ_ _ _=>y8) (motive_2:=λv d _=>P v d) (motive_3:=λ_ _ _=>y8) trivial (λ_=>trivial) (λ_=>trivial) (λ_=>trivial) (λ_=>trivial) (λ_ _ _=>trivial) (λ_ _ _ _=>trivial) (λ_=>trivial) (λ_ _ _ _=>trivial) (λ_=>trivial) n (λh _ _ t=>c h t) trivial (λ_ _ _ _=>trivial) h
theorem Cs.ind{P:Gc (Key×V)->Gc (Key×D)->Prop}(n:P [] [])(c:∀{k:Key} {v:V} {d:D} {vs:Gc (Key×V)} {ds:Gc (Key×D)},Br K M H v d->P vs ds->P ((k,v)::vs) ((k,d)::ds)){vs:Gc (Key×V)}{ds:Gc (Key×D)}(h:Cs K M H vs ds):P vs ds:=
 Cs.rec (motive_1:=λ_ _ _=>y8) (motive_2:=λ_ _ _=>y8) (motive_3:=λv d _=>P v d) trivial (λ_=>trivial) (λ_=>trivial) (λ_=>trivial) (λ_=>trivial) (λ_ _ _=>trivial) (λ_ _ _ _=>trivial) (λ_=>trivial) (λ_ _ _ _=>trivial) (λ_=>trivial) trivial (λ_ _ _ _=>trivial) n (λh _ _ t=>c h t) h
theorem Aj.step(g:Sp1 M H M' H'){v:Gc V}{d:Gc D}(h:Aj K M H v d):Aj K M' H' v d:=h.ind .nil λh t=>.cons (h.step g) t
theorem Cs.step(g:Sp1 M H M' H'){v:Gc (Key×V)}{d:Gc (Key×D)}(h:Cs K M H v d):Cs K M' H' v d:=h.ind .nil λh t=>.cons (h.step g) t
theorem Aj.length{v:Gc V}{d:Gc D}(h:Aj K M H v d):v.length=d.length:=h.ind (P:=λv d=>v.length=d.length) rfl λ_ t=>congrArg (· +1) t
theorem Aj.get{v:Gc V}{d:Gc D}{i:Nat}{y:D}(h:Aj K M H v d):d[i]?=Fk y->∃x,v[i]?=Fk x/\Br K M H x y:=
 h.ind (P:=λv d=>∀i,d[i]?=Fk y->∃x,v[i]?=Fk x/\Br K M H x y) (λi e=>by simp at e) (λh t i e=>by
  cases i with
  |zero=>simp at e;subst e;exact⟨_,rfl,h⟩
  |succ i=>exact t i e) i
theorem Aj.append{v v':Gc V}{d d':Gc D}(h:Aj K M H v d)(s:Aj K M H v' d'):Aj K M H (v++v') (d++d'):=h.ind (P:=λv d=>Aj K M H (v++v') (d++d')) s λh t=>.cons h t
theorem Aj.take{v:Gc V}{d:Gc D}(n:Nat)(h:Aj K M H v d):Aj K M H (v.take n) (d.take n):=h.ind (P:=λv d=>∀n,Aj K M H (v.take n) (d.take n)) (λn=>by rw[List.take_nil,List.take_nil];exact .nil) (λh t n=>by
 cases n with
 |zero=>exact .nil
 |succ n=>exact .cons h (t n)) n
theorem Aj.drop{v:Gc V}{d:Gc D}(n:Nat)(h:Aj K M H v d):Aj K M H (v.drop n) (d.drop n):=h.ind (P:=λv d=>∀n,Aj K M H (v.drop n) (d.drop n)) (λn=>by rw[List.drop_nil,List.drop_nil];exact .nil) (λh t n=>by
 cases n with
 |zero=>exact .cons h (t 0)
 |succ n=>exact t n) n
theorem Aj.set{x:V}{y:D}(r:Br K M H x y):∀{v:Gc V} {d:Gc D} (i:Nat),Aj K M H v d->Aj K M H (v.set i x) (d.set i y)
 |_,_,_,.nil=>.nil
 |_,_,0,.cons _ t=>.cons r t
 |_,_,i+1,.cons q t=>.cons q (Aj.set r i t)
end
abbrev En:=Gc (sD D)
abbrev Sg:=Gc (sD V)
structure EnR(K:Wp)(M:Ms)(E:En)(σ:Sg)(H:Hp):Prop where
 len:E.length=σ.length
 val:∀(i:Nat) (d:D),E[i]?=Fk (Fk d)->∃v,σ[i]?=Fk (Fk v)/\Br K M H v d
noncomputable def LM(x:Str):Str:=(x++(".<locals>.":Str))++("<lambda>":Str)
def Js(K:Wp)(c P:sF):Prop:=
 ∃o vs file tf flags tg inF text tt,K.lookup c=Fk o/\o.cls=zR "code" /\o.data=Data.fields vs/\vs[11]?=Fk (tw P)/\vs.getD 11 tZ=tw P/\vs.getD 18 tZ=zH file tf/\vs.getD 7 tZ=zG flags tg/\vs.getD 9 tZ=yh inF/\vs.getD 10 tZ=zG text tt/\c≠P
def TabAt(K:Wp)(x:Str)(P:sF):Prop:=
 ∃f oc od fd osl c,uR K mainGlobals x=Fk (Fk (tw f))/\K.lookup f=Fk ⟨oc,od,Data.func fd,osl⟩/\fd.code=tw c/\Js K c P
def TN(q:Str)(o:Obj):Prop:=∃vs t,o.data=Data.fields vs/\vs[1]?=Fk (zH q t)
structure Rp(K:Wp)(H:Hp)(x:Str)(P:sF)(ps:uI W1):Prop where
 tri:PySem.TriplesOk ps.toList
 tat:TabAt K x P
 cod:∀pos cv,PySem.codeAmong pos ps.toList=Fk cv->∃c o,cv=tw c/\H c=Fk (.frz o (.own 0))/\TN (LM x) o
theorem Rp.step{x:Str}{P:sF}{ps:uI W1}{K:Wp}{M M':Ms}{H H':Hp}(t:Rp K H x P ps)(g:Sp1 M H M' H'):Rp K H' x P ps:=⟨t.tri,t.tat,λpos cv e=>by
 obtain⟨c,o,h1,h2,h3⟩:=t.cod pos cv e
 exact⟨c,o,h1,g.YM h2 id,h3⟩⟩
def Rz(K:Wp)(M:Ms)(H:Hp)(a:sF):Cl->Prop
 | .lst ds=>∃xs,H a=Fk (.lst xs)/\Aj K M H xs ds
 | .dct es=>∃kvs,H a=Fk (.dK kvs)/\Cs K M H kvs es
 | .tab x=>∃ps,H a=Fk (.tbl ps)/\Rp K H x a ps
 | .ins C fs=>∃Ca dx fv,uR K mainGlobals C=Fk (Fk (.ref Ca))/\H a=Fk (.ins Ca dx fv)/\H dx=Fk (.own a)/\fv.map (·.1)=fs.map (·.1)/\Aj K M H (fv.map (·.2)) (fs.map (·.2))
structure StR(K:Wp)(M:Ms)(S:Sto)(H:Hp):Prop where
 mo:MOk M H
 nd:M.cel.Nodup
 nt:∀a∈M.tmp,a∉M.cel
 len:M.cel.length=S.length
 cell:∀(n:Nat) (a:sF) (c:Cl),M.cel[n]?=Fk a->S[n]?=Fk c->Rz K M H a c
section
variable{K:Wp}{M M' M2:Ms}{H H' H2:Hp}{E:En}{σ:Sg}{S:Sto}
theorem Rz.step{a:sF}{c:Cl}(q:Rz K M H a c)(g:Sp1 M H M' H')(k:∀o,H a=Fk o->H' a=Fk o):Rz K M' H' a c:=by
 cases c with
 |lst ds=>obtain⟨xs,e,rr⟩:=q;exact⟨xs,k _ e,rr.step g⟩
 |dct ds=>obtain⟨xs,e,rr⟩:=q;exact⟨xs,k _ e,rr.step g⟩
 |tab ds=>obtain⟨xs,e,rr⟩:=q;exact⟨xs,k _ e,rr.step g⟩
 |ins C fs=>obtain⟨Ca,dx,fv,h,e,eo,n,rr⟩:=q;exact⟨Ca,dx,fv,h,k _ e,g.YM eo id,n,rr.step g⟩
theorem EnR.step(r:EnR K M E σ H)(g:Sp1 M H M' H'):EnR K M' E σ H':=⟨r.len,λi d e=>by
 obtain⟨v,h1,h2⟩:=r.val i d e
 exact⟨v,h1,h2.step g⟩⟩
theorem StR.at(r:StR K M S H){n:Nat}{c:Cl}(e:S[n]?=Fk c):∃a,M.cel[n]?=Fk a/\Rz K M H a c:=by
 have hn:n<M.cel.length:=by rw[r.len];exact(sO.mp e).1
 exact⟨_,sA hn,r.cell n _ c (sA hn) e⟩
theorem StR.grow(r:StR K M S H)(k:∀a o,H a=Fk o->H' a=Fk o):StR K M S H':=by
 have g:Sp1 M H M H':=⟨r.mo,uV,λ_ z=>.inl z,λa o e _=>k a o e⟩
 refine⟨λa z=>r.mo.at k z,r.nd,r.nt,r.len,λn a c h1 h2=>?_⟩
 exact(r.cell n a c h1 h2).step g λo e=>k _ _ e
theorem StR.chg(r:StR K M S H){n:Nat}{a:sF}{ds es:Gc D}{ys:Gc V}(h1:M.cel[n]?=Fk a)(h2:S[n]?=Fk (.lst ds))(hy:Aj K M H ys es):StR K M (S.set n (.lst es)) (upd H a (.lst ys))/\Gr M H M (upd H a (.lst ys)):=by
 have ha:a∈M.cel:=se h1
 have hl:n<S.length:=(sO.mp h2).1
 have g:Gr M H M (upd H a (.lst ys)):=⟨r.mo,uV,rfl,λ_ z=>.inl z,λb o eb nb=>by rw[Ad (λz=>nb (by rw[z];exact ha))];exact eb,λb eb=>by
  by_cases h:b=a
  .subst h;rw[Av];intro z;cases z
  .rw[Ad h];exact eb⟩
 refine⟨⟨λb z=>?_,r.nd,r.nt,by rw[vb];exact r.len,λm b c e1 e2=>?_⟩,g⟩
 .by_cases h:b=a
  .subst h;exact⟨_,Av,trivial⟩
  .rw[Ad h];exact r.mo b z
 .by_cases h:n=m
  .subst h
   rw[h1]at e1;cases e1
   rw[sX hl]at e2;cases e2
   exact⟨ys,Av,hy.step g.st⟩
  .rw[sJ h]at e2
   have hb:b≠a:=λz=>by
    subst z
    exact h ((xn (sO.mp h1).1 r.nd).mp (h1.trans e1.symm))
   exact(r.cell m b c e1 e2).step g.st λo e=>by rw[Ad hb];exact e
theorem StR.Z4(r:StR K M S H){a:sF}{xs:Gc V}{ds:Gc D}(e:H a=none)(k:∀b o,H b=Fk o->H' b=Fk o)(ea:H' a=Fk (.lst xs))(rr:Aj K M H xs ds):StR K ⟨M.cel++[a],M.tmp⟩ (S++[.lst ds]) H'/\Gr M H ⟨M.cel++[a],M.tmp⟩ H':=by
 have g:Gr M H ⟨M.cel++[a],M.tmp⟩ H':=⟨r.mo,wO _ _,rfl,λb z=>by
  rcases sx.mp z with z|z
  .exact .inl z
  .simp at z;subst z;exact .inr e,λb o eb _=>k b o eb,λb eb z=>by
  cases h:H b with
  |none=>exact eb h
  |some o=>rw[k b o h]at z;cases z⟩
 have na:¬M.mem a:=λz=>r.mo.some z e
 refine⟨⟨λb z=>?_,?_,λb hb z=>?_,by simp[r.len],λm b c e1 e2=>?_⟩,g⟩
 .have z':M.mem b\/b=a:=by
   rcases z with z|z
   .rcases sx.mp z with z|z
    .exact .inl (.inl z)
    .simp at z;exact .inr z
   .exact .inl (.inr z)
  rcases z' with z|z
  .exact r.mo.at k z
  .subst z;exact⟨_,ea,trivial⟩
 .rw[xo]
  refine⟨r.nd,by simp,λx hx y hy=>?_⟩
  simp at hy;subst hy
  exact λz=>na (.inl (by rw[<-z];exact hx))
 .rcases sx.mp z with z|z
  .exact r.nt b hb z
  .simp at z;subst z;exact na (.inr hb)
 .by_cases h:m<S.length
  .rw[sH (by rw[r.len];exact h)]at e1
   rw[sH h]at e2
   exact(r.cell m b c e1 e2).step g.st λo e=>k _ _ e
  .have hm:m=S.length:=by
    have:=(sO.mp e2).1
    simp at this;lia
   subst hm
   rw[uB (by rw[r.len];exact sM _)]at e1
   rw[uB (sM _)]at e2
   rw[r.len]at e1
   simp at e1 e2
   subst e1 e2
   exact⟨xs,ea,rr.step g.st⟩
end
noncomputable def qX:sD wH->tV
 |some .local=>true
 |some .cell=>true
 |some .free=>true
 |_=>false
noncomputable def nT(sc:uZ)(x:Str):tV:=qX (sc.names.lookup x)
theorem iD{sc:uZ}{x:Str}(h:nT sc x=true):Vis sc x:=by
 unfold nT at h
 unfold Vis
 cases e:sc.names.lookup x with
 |none=>rw[e]at h;cases h
 |some k=>
  rw[e]at h
  cases k<;>first|(cases h;done)|simp
abbrev Ev:=En->Sto->sD (D×Sto)
inductive tD(K:Wp)(f:Ev)(σ:Sg)(H:Hp)(Q:VK):Prop
 |mk (M:Ms) (E:En) (S:Sto) (d:D) (S':Sto) (e:f E S=Fk (d,S')) (r:EnR K M E σ H) (st:StR K M S H) (q:∀v H' M',Gr M H M' H'->StR K M' S' H'->Br K M' H' v d->Q v H')
structure DE(X:Cx)(e:sk)(f:Ev):Prop where
 pe:PE X e (tD X.K f)
theorem Bv{X:Cx}{e:sk}{t t':TE}(h:PE X e t)(m:∀σ H Q,t' σ H Q->t σ H Q):PE X e t':=λpins s σ H Q I q=>h pins s σ H Q I (m _ _ _ q)
theorem U2{X:Cx}{e:sk}{t t':TT}(h:PT X e t)(m:∀σ H Q,t' σ H Q->t σ H Q):PT X e t':=λpins s σ H Q I q=>h pins s σ H Q I (m _ _ _ q)
theorem G6{K:Wp}{f:Ev}{σ:Sg}{H:Hp}{Q Q':VK}(h:tD K f σ H Q)(m:∀v H',Q v H'->Q' v H'):tD K f σ H Q':=by
 obtain⟨M,E,S,d,S',e,r,st,q⟩:=h
 exact⟨M,E,S,d,S',e,r,st,λv H' M' g s r=>m _ _ (q v H' M' g s r)⟩
theorem As{α β:Type}{o:sD α}{k:α->sD β}{y:β}(e:o.bind k=Fk y):∃x,o=Fk x/\k x=Fk y:=by
 cases o with
 |none=>cases e
 |some x=>exact⟨x,rfl,e⟩
theorem JE{α β:Type}{o:sD α}{k:α->β}{y:β}(e:o.map k=Fk y):∃x,o=Fk x/\k x=y:=by
 cases o with
 |none=>cases e
 |some x=>cases e;exact⟨x,rfl,rfl⟩
noncomputable def fz:Wv->D
 | .val d=>d
 | .own ds=>.lst ds
noncomputable def at?(E:En)(i:Nat):sD D:=(E[i]?).join
theorem at?_some{E:En}{i:Nat}{w:D}(h:at? E i=Fk w):E[i]?=Fk (Fk w):=by
 unfold at? at h
 cases e:E[i]? with
 |none=>rw[e]at h;cases h
 |some q=>rw[e]at h;exact congrArg Fk h
noncomputable def evs:Gc Ev->En->Sto->sD (Gc D×Sto)
 | [],_,S=>Fk ([],S)
 |f::fs,E,S=>(f E S).bind λr=>(evs fs E r.2).map λq=>(r.1::q.1,q.2)
noncomputable def tDs(K:Wp):Gc Ev->TA
 | []=>ou
 |f::fs=>gA (tD K f) (tDs K fs)
structure DEs(X:Cx)(es:Gc sk)(fs:Gc Ev):Prop where
 pe:PA X es (tDs X.K fs)
theorem AV{X:Cx}:DEs X [] []:=⟨Qm⟩
theorem AE{X:Cx}{e:sk}{es:Gc sk}{f:Ev}{fs:Gc Ev}(h:DE X e f)(t:DEs X es fs)(hs:sf (e::es) X.env=(false,eval e X.env)::sf es X.env:=by rfl):DEs X (e::es) (f::fs):=⟨J2 h.pe t.pe hs⟩
section
variable{K:Wp}{M M':Ms}{E:En}{S:Sto}{σ:Sg}{H H':Hp}
theorem Fs:∀{fs:Gc Ev} {M:Ms} {S:Sto} {ds:Gc D} {S':Sto} {H:Hp} {Q:Gc V->Hp->Prop},evs fs E S=Fk (ds,S')->EnR K M E σ H->StR K M S H->(∀vs H' M',Gr M H M' H'->StR K M' S' H'->Aj K M' H' vs ds->Q vs H')->tDs K fs σ H Q
 | [],M,S,ds,S',H,Q,e,r,st,q=>by
   cases e
   exact q [] H M (.refl st.mo) st .nil
 |f::fs,M,S,ds,S',H,Q,e,r,st,q=>by
  obtain⟨⟨d,S1⟩,e1,e⟩:=As e
  obtain⟨⟨es,S2⟩,e2,e⟩:=JE e
  cases e
  refine⟨M,E,S,d,S1,e1,r,st,λv H1 M1 g1 st1 d1=>?_⟩
  exact Fs e2 (r.step g1.st) st1 λvs H2 M2 g2 st2 d2=>q _ _ M2 (g1.trans g2) st2 (.cons (d1.step g2.st) d2)
theorem LZ:∀{fs:Gc Ev} {S:Sto} {ds:Gc D} {S':Sto},evs fs E S=Fk (ds,S')->ds.length=fs.length
 | [],_,_,_,e=>by cases e;rfl
 |f::fs,S,ds,S',e=>by
  obtain⟨⟨d,S1⟩,e1,e⟩:=As e
  obtain⟨⟨es,S2⟩,e2,e⟩:=JE e
  cases e
  simp[LZ e2]
def Sh(K:Wp)(M:Ms)(H:Hp)(v:V):Wv->Prop
 | .val d=>Br K M H v d
 | .own ds=>∃a xs,v=.ref a/\H a=Fk (.lst xs)/\Aj K M H xs ds
def ivP(K:Wp)(M:Ms)(H:Hp)(v:V):D->Prop
 | .non=>v=.non
 | .bl b=>v=.bl b
 | .int i=>v=.int i
 | .str x=>v=.str x
 | .ty n=>v=.ty n
 | .tup ds=>∃a xs,v=.ref a/\SqT K H a xs/\Aj K M H xs ds
 |_=>y8
theorem Br.iv{K:Wp}{M:Ms}{H:Hp}{v:V}{d:D}(h:Br K M H v d):ivP K M H v d:=by
 cases h with
 |tup h r=>exact⟨_,_,rfl,h,r⟩
 |non=>rfl
 |bl=>rfl
 |int=>rfl
 |str=>rfl
 |ty=>rfl
 |_=>trivial
inductive Shs(K:Wp)(M:Ms)(H:Hp):Gc V->Gc Wv->Prop
 |nil:Shs K M H [] []
 |cons {v:V} {w:Wv} {vs:Gc V} {ws:Gc Wv} (h:Sh K M H v w) (t:Shs K M H vs ws):Shs K M H (v::vs) (w::ws)
noncomputable def dr(S:Sto):D->Wv
 | .ref n=>match S[n]? with
   |some (.lst ds)=>.own ds
   |_=>.val (.ref n)
 |d=>.val d
theorem ck(st:StR K M S H){v:V}{d:D}(h:Br K M H v d):Sh K M H v (dr S d):=by
 cases h with
 |ref h=>
  rename_i a n
  show Sh K M H (.ref a) (match S[n]? with|some (.lst ds)=>.own ds|_=>.val (.ref n))
  split
  .rename_i ds e
   obtain⟨xs,h1,h2⟩:=st.cell n a _ h e
   exact⟨a,xs,rfl,h1,h2⟩
  .exact .ref h
 |non=>exact .non
 |bl b=>exact .bl b
 |int b=>exact .int b
 |str b=>exact .str b
 |ty b=>exact .ty b
 |tup h r=>exact .tup h r
 |lst h n r=>exact .lst h n r
 |scr h=>exact .scr h
 |dct h n r=>exact .dct h n r
theorem Ya(st:StR K M S H):∀{vs:Gc V} {ds:Gc D},Aj K M H vs ds->Shs K M H vs (ds.map (dr S))
 |_,_,.nil=>.nil
 |_,_,.cons h t=>.cons (ck st h) (Ya st t)
def NwR(K:Wp)(M:Ms)(H H':Hp)(v:V):Wv->Prop
 | .val d=>Br K M H' v d
 | .own ds=>∃a xs,v=.ref a/\H a=none/\H' a=Fk (.lst xs)/\Aj K M H xs ds
structure Nw(K:Wp)(M:Ms)(H H':Hp)(v:V)(w:Wv):Prop where
 grow:∀a o,H a=Fk o->H' a=Fk o
 rel:NwR K M H H' v w
theorem Nw.same{v:V}{d:D}(mo:MOk M H)(h:Br K M H v d):Nw K M H H v (.val d):=⟨λ_ _ e=>e,h⟩
theorem EY{a:sF}{o:HO}(e:H a=none):∀b u,H b=Fk u->upd H a o b=Fk u:=λb u eb=>by rw[Ad (λz=>by subst z;rw[e]at eb;cases eb)];exact eb
theorem Nw.lst{a:sF}{xs:Gc V}{ds:Gc D}(mo:MOk M H)(e:H a=none)(h:Aj K M H xs ds):Nw K M H (upd H a (.lst xs)) (.ref a) (.own ds):=⟨EY e,a,xs,rfl,e,Av,h⟩
theorem Nw.tup{a:sF}{xs:Gc V}{ds:Gc D}(mo:MOk M H)(e:H a=none)(h:Aj K M H xs ds):Nw K M H (upd H a (.tup xs)) (.ref a) (.val (.tup ds)):=⟨EY e,.tup (.of Av) (h.step (Gr.grow mo (EY e)).st)⟩
noncomputable def fin:tV->Wv->Sto->sD (D×Sto)
 |_,.val d,S=>Fk (d,S)
 |false,.own ds,S=>Fk (.lst ds,S)
 |true,.own ds,S=>Fk (.ref S.length,S++[.lst ds])
theorem Nw.fin{c:tV}{v:V}{w:Wv}{d:D}{S':Sto}(n:Nw K M H H' v w)(st:StR K M S H)(e:fin c w S=Fk (d,S')):∃M',Gr M H M' H'/\StR K M' S' H'/\Br K M' H' v d:=by
 cases w with
 |val d'=>
  cases e
  exact⟨M,.grow st.mo n.grow,st.grow n.grow,n.rel⟩
 |own ds=>
  obtain⟨a,xs,rfl,h1,h2,h3⟩:=n.rel
  cases c with
  |false=>
   cases e
   exact⟨M,.grow st.mo n.grow,st.grow n.grow,.lst h2 (λz=>st.mo.some z h1) (h3.step (Gr.grow st.mo n.grow).st)⟩
  |true=>
   cases e
   obtain⟨s1,g1⟩:=st.Z4 h1 n.grow h2 h3
   refine⟨_,g1,s1,.ref ?_⟩
   rw[<-st.len]
   exact sV
abbrev Op1:=Wv->sD Wv
abbrev Op2:=Wv->Wv->sD Wv
abbrev OpN:=Gc Wv->sD Wv
inductive rOp(K:Wp)(op:Op2)(x y:V)(H:Hp)(Q:VK):Prop
 |mk (M:Ms) (w1 w2 r:Wv) (e:op w1 w2=Fk r) (mo:MOk M H) (s1:Sh K M H x w1) (s2:Sh K M H y w2) (q:∀v H',Nw K M H H' v r->Q v H')
inductive rUn(K:Wp)(op:Op1)(x:V)(H:Hp)(Q:VK):Prop
 |mk (M:Ms) (w r:Wv) (e:op w=Fk r) (mo:MOk M H) (s:Sh K M H x w) (q:∀v H',Nw K M H H' v r->Q v H')
inductive rN(K:Wp)(op:OpN)(xs:Gc V)(H:Hp)(Q:VK):Prop
 |mk (M:Ms) (ws:Gc Wv) (r:Wv) (e:op ws=Fk r) (mo:MOk M H) (s:Shs K M H xs ws) (q:∀v H',Nw K M H H' v r->Q v H')
noncomputable def N1(c:tV)(op:OpN)(fs:Gc Ev):Ev:=λE S=>(evs fs E S).bind λr=>(op (r.1.map (dr r.2))).bind λw=>fin c w r.2
abbrev eOp:=N1 false
abbrev c8:=N1 true
noncomputable def o1(op:Op1):OpN| [a]=>op a|_=>none
noncomputable def o2(op:Op2):OpN| [a,b]=>op a b|_=>none
theorem MT{c:tV}{op:OpN}{fs:Gc Ev}{Q:VK}{d:D}{S':Sto}(e:N1 c op fs E S=Fk (d,S'))(r:EnR K M E σ H)(st:StR K M S H)(h:∀v H' M',Gr M H M' H'->StR K M' S' H'->Br K M' H' v d->Q v H'):tDs K fs σ H λvs H1=>rN K op vs H1 Q:=by
 obtain⟨⟨ds,S1⟩,e1,e⟩:=As e
 obtain⟨w,e2,e⟩:=As e
 refine Fs e1 r st λvs H1 M1 g1 st1 d1=>⟨M1,_,w,e2,st1.mo,Ya st1 d1,λv H2 n=>?_⟩
 obtain⟨M2,g2,st2,d2⟩:=n.fin st1 e
 exact h v H2 M2 (g1.trans g2) st2 d2
end
theorem iO{K:Wp}{f:Op2}{x y:V}{H:Hp}{Q:VK}(h:rN K (o2 f) [x,y] H Q):rOp K f x y H Q:=by
 obtain⟨M,ws,r,e,mo,s,q⟩:=h
 cases s with
 |cons h1 s=>
  cases s with
  |cons h2 s=>
   cases s
   exact⟨M,_,_,r,e,mo,h1,h2,q⟩
theorem iA{K:Wp}{f:Op1}{x:V}{H:Hp}{Q:VK}(h:rN K (o1 f) [x] H Q):rUn K f x H Q:=by
 obtain⟨M,ws,r,e,mo,s,q⟩:=h
 cases s with
 |cons h1 s=>
  cases s
  exact⟨M,_,r,e,mo,h1,q⟩
theorem Qg{K:Wp}{c:tV}{f:Op2}{fa fb:Ev}{σ:Sg}{H:Hp}{Q:VK}(h:tD K (N1 c (o2 f) [fa,fb]) σ H Q):tOp (rOp K f) (tD K fa) (tD K fb) σ H Q:=by
 obtain⟨M,E,S,d,S',e,r,st,q⟩:=h
 have z:tD K fa σ H λx H1=>tD K fb σ H1 λy H2=>rN K (o2 f) [x,y] H2 Q:=MT (Q:=Q) e r st q
 exact G6 z λx H1 z1=>G6 z1 λy H2 z2=>iO z2
theorem gT{K:Wp}{c:tV}{f:Op1}{fa:Ev}{σ:Sg}{H:Hp}{Q:VK}(h:tD K (N1 c (o1 f) [fa]) σ H Q):tUn (rUn K f) (tD K fa) σ H Q:=by
 obtain⟨M,E,S,d,S',e,r,st,q⟩:=h
 have z:tD K fa σ H λx H1=>rN K (o1 f) [x] H1 Q:=MT (Q:=Q) e r st q
 exact G6 z λx H1 z1=>iA z1
section
variable{X:Cx}{a b e:sk}{es:Gc sk}{fa fb:Ev}{fs:Gc Ev}{pos p:Pos}{c:tV}
theorem UW{op:Operator}{f:Op2}(ho:OpR X (binaryOp op) (rOp X.K f))(ha:DE X a fa)(hb:DE X b fb):DE X (.BinOp a op b pos) (N1 c (o2 f) [fa,fb]):=⟨Bv (nE ho ha.pe hb.pe) λ_ _ _ h=>Qg h⟩
theorem O7{op:CmpOp}{f:Op2}(ho:OpR X (compareOp op) (rOp X.K f))(ha:DE X a fa)(hb:DE X b fb)(hm:behindInMarks op b=false:=by rfl):DE X (.Compare a [op] [b] pos) (N1 c (o2 f) [fa,fb]):=⟨Bv (Z0 ho ha.pe hb.pe hm) λ_ _ _ h=>Qg h⟩
theorem bX{op:UnaryOp}{f:Op1}(ho:UnR X (unaryOp op) (rUn X.K f))(ha:DE X a fa):DE X (.UnaryOp op a pos) (N1 c (o1 f) [fa]):=⟨Bv (mT ho ha.pe) λ_ _ _ h=>gT h⟩
theorem L5{f:Op2}(hr:IxR X (rOp X.K f))(ha:DE X a fa)(hb:DE X b fb)(hs:Vk b:=by exact λ_ _=>rfl):DE X (.Subscript a b pos) (N1 c (o2 f) [fa,fb]):=⟨Bv (mn hr ha.pe hb.pe hs) λ_ _ _ h=>Qg h⟩
theorem D9{id:ug}{x:Str}{f:OpN}(hc:El X (.builtin id) (rN X.K f))(hg:Gl X x)(hm:X.mg x=none)(hv:bootBuiltins x=Fk (.builtin id))(ha:DEs X (e::es) fs)(hn:x≠ "__name__":=by decide)(hdb:(x==("__debug__":Str))=false:=by decide)(he:sf (e::es) X.env=(false,eval e X.env)::sf es X.env:=by rfl)(hpl:(backTo pos (sf es X.env)).any (·.1)=false:=by rfl):DE X (.Call (.Name x p) (e::es) [] pos) (N1 c f fs):=⟨
 Bv (Xe hc hg hm hv ha.pe hn hdb he hpl) λ_ _ _ h=>by
  obtain⟨M,E,S,d,S',e,r,st,q⟩:=h
  exact MT e r st q⟩
theorem K7{T:ug}{x:Str}{f:OpN}(hc:El X (.type T) (rN X.K f))(hg:Gl X x)(hm:X.mg x=none)(hv:bootBuiltins x=Fk (.type T))(ha:DEs X (e::es) fs)(hn:x≠ "__name__":=by decide)(hdb:(x==("__debug__":Str))=false:=by decide)(he:sf (e::es) X.env=(false,eval e X.env)::sf es X.env:=by rfl)(hpl:(backTo pos (sf es X.env)).any (·.1)=false:=by rfl):DE X (.Call (.Name x p) (e::es) [] pos) (N1 c f fs):=⟨
 Bv (Ur hc hg hm hv ha.pe hn hdb he hpl) λ_ _ _ h=>by
  obtain⟨M,E,S,d,S',e,r,st,q⟩:=h
  exact MT e r st q⟩
noncomputable def eC(d:D):Ev:=λ_ S=>Fk (d,S)
theorem Ol{v:V}{d:D}(h:PE X e (tC v))(r:∀K M H,Br K M H v d):DE X e (eC d):=⟨Bv h λσ H Q z=>by
 obtain⟨M,E,S,w,S',e,rr,st,q⟩:=z
 cases e
 exact q _ _ M (.refl st.mo) st (r _ _ _)⟩
theorem BW{i:Int}{j:Nat}:DE X (.Constant (.int i) j pos) (eC (.int i)):=Ol iK λ_ _ _=>.int _
theorem NN{i:tV}{j:Nat}:DE X (.Constant (.bool i) j pos) (eC (.bl i)):=Ol m8 λ_ _ _=>.bl _
theorem Bf{i:Str}{j:Nat}:DE X (.Constant (.str i) j pos) (eC (.str i)):=Ol UT λ_ _ _=>.str _
theorem KR{j:Nat}:DE X (.Constant .none j pos) (eC .non):=Ol du λ_ _ _=>.non
noncomputable def eV(i:Nat):Ev:=λE S=>(at? E i).map λd=>(d,S)
theorem AU(i:Nat){x:Str}(hN:X.N[i]?=Fk x:=by rfl)(hv:nT X.env.scope x=true:=by rfl)(hd:(x==("__debug__":Str))=false:=by decide)(hcd:(x==("__classdict__":Str))=false:=by decide):DE X (.Name x pos) (eV i):=⟨Bv (KN hN (iD hv) hd hcd) λσ H Q z=>by
 obtain⟨M,E,S,d,S',e,r,st,q⟩:=z
 obtain⟨d',e1,e⟩:=JE e
 cases e
 obtain⟨v,hv,rd⟩:=r.val i d (at?_some e1)
 exact⟨v,hv,q v H M (.refl st.mo) st rd⟩⟩
end
theorem G8:fillsNumberSlot (.type "tuple") "mul"=pure false:=
 fillsNumberSlot_seq (id:="tuple.__mul__") (r:=Fk (.builtin "tuple.__rmul__")) yG.lookup (by decide+kernel) F.slot_tuple_rmul.lookup (by decide+kernel)
theorem KU:seqRepeat? (.type "tuple")=pure (Fk (.builtin "tuple.__mul__")):=by
 unfold seqRepeat?
 rw[seqSlot_of (T:="tuple") (name:="__mul__") (id:="tuple.__mul__") yG.lookup (by decide+kernel),seqSlot_of (T:="tuple") (name:="__rmul__") (id:="tuple.__rmul__") F.slot_tuple_rmul.lookup (by decide+kernel)]
 rfl
theorem IY(a:Int)(t:Tok)(l:sF)(items:uI W1)(n:Nat)(dd:sD sF)(sl:uI (sD W1)):Meets (xO.«int.__rmul__» ⟨[.int a t,.ref l],[]⟩) (λ_ R s=>s.heap.get? l=Fk {cls:=.type "tuple",dict:=dd,data:=.seq items n,slots:=sl}/\R (.ok (.ret z9)) s):=
 .of_wp λprog w A R s h=>by obtain⟨hp,g,d,tk,os⟩:=s;obtain⟨hl,h⟩:=h;wp_walk;exact⟨_,rfl,h⟩
theorem Og(its:Gc W1)(m:Nat):AAo (λx1 x2=>x1++x2) #[] (sS m its.toArray)=(sS m its).flatten.toArray:=by
 have:=foldl_rep its m []
 rw[tF]at this
 exact this
theorem aH{X:Cx}:OpR X (binaryOp .Mult) (λx y H Q=>∃a xs k,x=.ref a/\y=.int k/\SqT X.K H a xs/\xs≠[]/\1<=k/\xs.length*k.toNat<=sizeLine/\(k=1->Q (.ref a) H)/\(k≠1->∀p,H p=none->Q (.ref p) (upd H p (.tup (sS k.toNat xs).flatten)))):=by
 intro pins s σ H x y v u Q I rx ry h
 obtain⟨a,xs,k,rfl,rfl,hx,hne,hk,hz,q1,q2⟩:=h
 cases rx
 obtain⟨t,rfl⟩:=ry
 obtain⟨its,r,⟨⟨c,dd,data,sl⟩,ho,hc,n,hd⟩,hzz⟩:=I.tuple hx
 simp only at hc hd
 subst hc hd
 have hl:=r.length
 have hsz:its.toArray.size=xs.length:=by rw[sY];exact hl.symm
 have hpos:0<xs.length:=AAW.mpr hne
 have hkl:k.toNat<=sizeLine:=sL (Nat.le_mul_of_pos_left _ hpos) hz
 have hk63:k<2^63:=by
  have:(sizeLine:Nat)<2^63:=by decide
  lia
 refine xB (T:="tuple") (U:="int") (by decide) ⟨_,ho,rfl⟩ (λs'=>yE s' k t) G8 zl wR KU zK.lookup
  (yF wR (yE s k t) zL (y0 _ _) (IY k t a its.toArray n dd sl) ⟨ho,rfl,⟨_,ho,rfl⟩,?_⟩)
 refine vN yG ⟨_,ho,rfl⟩ F.entry_tuple_mul ?_ (AAq _ _)
 unfold xO.«tuple.__mul__»
 wp_walk using sv ho
 rw[tN (show¬(decide (k< -2^63)||decide (k≥2^63))=true by
  rw[uU]
  rintro (z|z)
  .have:=sd z;lia
  .have:=sd z;lia)]
 wp_walk using sv ho
 by_cases h1:k=1
 .subst h1
  rw[tK (show(its.toArray.isEmpty||(1:Int)==1)=true by simp)]
  wp_walk using sv ho
  exact⟨_,rfl,.ref a,H,I,rfl,q1 rfl⟩
 .have hemp:its.toArray.isEmpty=false:=by
   cases its with
   |nil=>rw[vA]at hl;lia
   |cons b bs=>rfl
  rw[tN (show¬(its.toArray.isEmpty||k==1)=true by rw[hemp];simpa using h1)]
  wp_walk using sv ho
  have hmul:((its.toArray.size:Int)*k)=((xs.length*k.toNat:Nat):Int):=by
   rw[hsz,zo]
   congr 1
   lia
  rw[tN (show¬(decide (k<=0)||its.toArray.isEmpty)=true by
   rw[hemp,Bool.or_false]
   intro z
   have:=sd z
   lia)]
  wp_walk
  rw[tN (show¬((its.toArray.size:Int)*k>(2^63-1) / 8) by
   rw[hmul]
   have:(sizeLine:Nat)<=(2^63-1) / 8:=by decide
   lia)]
  wp_walk
  rw[tN (show¬yr ((its.toArray.size:Int)*k)=true by
   unfold yr
   rw[hmul]
   intro z
   have:=sd z
   lia)]
  rw[Og]
  wp_walk
  have hlen:(sS k.toNat its).flatten.length<=sizeLine:=by rw[len_rep,wN,<-hl];exact hz
  rw[tN (show¬((sS k.toNat its).flatten.toArray.size>sizeLine) by rw[sY];lia)]
  wp_walk
  refine⟨_,rfl,.ref _,_,I.laid (o:=.tup (sS k.toNat xs).flatten) (t':=s.toks) (λb ob q=>sC _ q) (sM _) ?_,rfl,q2 h1 _ (I.hok.fresh (sM _))⟩
  exact⟨by rw[len_rep,wN];exact hz,_,r.rep k.toNat,xE _ _⟩
mutual
noncomputable def D.py:D->PyData
 | .non=>.none| .bl b=>.bool b| .int i=>.int i| .str x=>.str x| .ty _=>.none
 | .tup ds=>.tuple (D.pys ds)| .lst ds=>.list (D.pys ds)| .dct _=>.none| .scr _=>.none| .ref _=>.none
noncomputable def D.pys:Gc D->Gc PyData
 | []=>[]
 |d::ds=>D.py d::D.pys ds
end
mutual
noncomputable def D.lay:D->tV
 | .non=>true| .bl _=>true| .int _=>true| .str x=>vP x| .ty _=>false| .dct _=>false| .scr _=>false| .ref _=>false
 | .tup ds=>D.RH ds| .lst ds=>D.RH ds
noncomputable def D.RH:Gc D->tV
 | []=>true
 |d::ds=>D.lay d && D.RH ds
end
mutual
theorem Jm:∀{d:D},d.lay=true->d.py.canLay0=true
 | .non,_=>rfl
 | .bl _,_=>rfl
 | .int _,_=>rfl
 | .str x,h=>h
 | .ty _,h=>vQ h
 | .dct _,h=>vQ h
 | .scr _,h=>vQ h
 | .ref _,h=>vQ h
 | .tup ds,h=>by show xp (D.pys ds)=true;exact NC h
 | .lst ds,h=>by show xp (D.pys ds)=true;exact NC h
theorem NC:∀{ds:Gc D},D.RH ds=true->xp (D.pys ds)=true
 | [],_=>rfl
 |d::ds,h=>by
  have h':(D.lay d && D.RH ds)=true:=h
  rw[sU]at h'
  show(PyData.canLay0 d.py && xp (D.pys ds))=true
  rw[Jm h'.1,NC h'.2];rfl
end
section
variable{X:Cx}{pins:Gc (sF×Obj)}{σ:Sg}{H:Hp}{s:sE}{M:Ms}
theorem Ii(I:Inv X pins σ H s){a:sF}{xs:Gc V}(h:Rd H a (.lst xs)):∃its:Gc W1,Vals xs its/\∃o n,s.heap.get? a=Fk o/\o.cls=.type "list" /\o.data=.seq its.toArray n:=by
 obtain⟨z,its,n,r,e⟩:=h.ok I.hok
 exact⟨its,r,_,n,e,rfl,rfl⟩
theorem Br.reads(I:Inv X pins σ H s){v:V}{d:D}(h:Br X.K M H v d):∀{u:W1},RelV v u->d.lay=true->∃as,Reads s.heap u d.py as:=
 Br.rec (motive_1:=λv d _=>∀{u:W1},RelV v u->d.lay=true->∃as,Reads s.heap u d.py as) (motive_2:=λvs ds _=>∀{us:Gc W1},Vals vs us->D.RH ds=true->∃as,ReadsAll s.heap us (D.pys ds) as) (motive_3:=λ_ _ _=>y8)
  (λr _=>by cases r;exact⟨_,.none⟩) (λb _ r _=>by cases r;exact⟨_,.bool b⟩) (λb _ r _=>by obtain⟨t,rfl⟩:=r;exact⟨_,.int b t⟩) (λb _ r _=>by obtain⟨t,rfl⟩:=r;exact⟨_,.str b t⟩) (λ_ _ _ h=>vQ h)
  (fun h _ ih _ r hl => by
    cases r
    obtain⟨its,rv,⟨o,e,hc,n,hd⟩,_⟩:=I.tuple h
    obtain⟨as,ra⟩:=ih rv hl
    exact⟨as,.tuple e hc hd ra⟩)
  (fun h _ _ ih _ r hl => by
    cases r
    obtain⟨its,rv,o,n,e,hc,hd⟩:=Ii I (.inl h)
    obtain⟨as,ra⟩:=ih rv hl
    exact⟨_,.list e hc hd ra⟩)
  (λ_ _ _ h=>vQ h) (λ_ _ _ _ _ _ h=>vQ h) (λ_ _ _ h=>vQ h)
  (fun r _ => by cases r; exact ⟨_, .nil⟩) (fun {v d vs ds} _ _ ih1 ih2 _ r hl => by
    cases r with
    |cons r1 r2=>
     have hl':(D.lay d && D.RH ds)=true:=hl
     rw[sU]at hl'
     obtain⟨as,ra⟩:=ih1 r1 hl'.1
     obtain⟨bs,rb⟩:=ih2 r2 hl'.2
     exact⟨_,.cons ra rb⟩) trivial (λ_ _ _ _=>trivial) h
theorem Aj.reads(I:Inv X pins σ H s){vs:Gc V}{ds:Gc D}(h:Aj X.K M H vs ds):∀{us:Gc W1},Vals vs us->D.RH ds=true->∃as,ReadsAll s.heap us (D.pys ds) as:=
 h.ind (P:=λvs ds=>∀{us:Gc W1},Vals vs us->D.RH ds=true->∃as,ReadsAll s.heap us (D.pys ds) as) (λr _=>by cases r;exact⟨_,.nil⟩) (λ{v d vs ds} h ih2 _ r hl=>by
  cases r with
  |cons r1 r2=>
   have hl':(D.lay d && D.RH ds)=true:=hl
   rw[sU]at hl'
   obtain⟨as,ra⟩:=h.reads I r1 hl'.1
   obtain⟨bs,rb⟩:=ih2 r2 hl'.2
   exact⟨_,.cons ra rb⟩)
end
noncomputable def deq(a b:D):tV:=PyData.eqv a.py b.py
noncomputable def PV(a b:D):tV:=a.lay && b.lay && decide (min a.py.depth b.py.depth<=60)
noncomputable def wEq:Op2:=λa b=>if PV (fz a) (fz b)=true then Fk (.val (.bl (deq (fz a) (fz b))))else none
noncomputable def wNe:Op2:=λa b=>if PV (fz a) (fz b)=true then Fk (.val (.bl (!deq (fz a) (fz b))))else none
section
variable{X:Cx}
theorem Sh.reads{pins:Gc (sF×Obj)}{σ:Sg}{H:Hp}{s:sE}{M:Ms}{v:V}{u:W1}{w:Wv}(h:Sh X.K M H v w)(I:Inv X pins σ H s)(r:RelV v u)(hl:(fz w).lay=true):∃as,Reads s.heap u (fz w).py as:=by
 cases w with
 |val d=>exact Br.reads I h r hl
 |own ds=>
  obtain⟨a,xs,rfl,h1,h2⟩:=h
  cases r
  obtain⟨its,rv,o,n,e,hc,hd⟩:=Ii I (.inl h1)
  obtain⟨as,ra⟩:=Aj.reads I h2 rv hl
  exact⟨_,.list e hc hd ra⟩
theorem Ku(hu:X.A.units+100<cLine):OpR X (compareOp .Eq) (rOp X.K wEq):=by
 intro pins s σ H x y v u Q I rx ry h
 obtain⟨M,w1,w2,r,e,mo,s1,s2,q⟩:=h
 unfold wEq at e
 split at e
 .rename_i hk
  unfold PV at hk
  rw[sU,sU]at hk
  cases e
  obtain⟨as,ra⟩:=s1.reads I rx hk.1.1
  obtain⟨bs,rb⟩:=s2.reads I ry hk.1.2
  have hd:=sd hk.2
  exact SeqAt.compareEq_reads ra rb (Jm hk.1.1) (Jm hk.1.2) (by lia) ⟨.bl _,H,I,rfl,q _ _ (.same mo (.bl _))⟩
 .cases e
theorem Ym(hu:X.A.units+100<cLine):OpR X (compareOp .NotEq) (rOp X.K wNe):=by
 intro pins s σ H x y v u Q I rx ry h
 obtain⟨M,w1,w2,r,e,mo,s1,s2,q⟩:=h
 unfold wNe at e
 split at e
 .rename_i hk
  unfold PV at hk
  rw[sU,sU]at hk
  cases e
  obtain⟨as,ra⟩:=s1.reads I rx hk.1.1
  obtain⟨bs,rb⟩:=s2.reads I ry hk.1.2
  have hd:=sd hk.2
  exact SeqAt.compareNe_reads ra rb (Jm hk.1.1) (Jm hk.1.2) (by lia) ⟨.bl _,H,I,rfl,q _ _ (.same mo (.bl _))⟩
 .cases e
noncomputable def wI2(f:Int->Int->sD D):Op2
 | .val (.int i),.val (.int j)=>(f i j).map .val
 |_,_=>none
theorem RJ{g:W1->W1->Sem W1}{C:Int->Int->Prop}{h:Int->Int->V}{f:Int->Int->sD D}(o:OpR X g (rI C h))(hf:∀i j d,f i j=Fk d->C i j/\∀K M H,Br K M H (h i j) d):OpR X g (rOp X.K (wI2 f)):=by
 intro pins s σ H x y v u Q I rx ry hh
 obtain⟨M,w1,w2,r,e,mo,s1,s2,q⟩:=hh
 unfold wI2 at e
 split at e
 .obtain rfl:=Br.iv s1
  obtain rfl:=Br.iv s2
  rename_i i j
  cases e1:f i j with
  |none=>rw[e1]at e;cases e
  |some d=>
   rw[e1]at e
   cases e
   obtain⟨c,rd⟩:=hf i j d e1
   exact o pins s σ H _ _ v u Q I rx ry ⟨i,j,rfl,rfl,c,q _ _ (.same mo (rd _ _ _))⟩
 .cases e
theorem LW{g:W1->W1->Sem W1}{h:Int->Int->V}{f:Int->Int->sD D}(o:OpR X g (rI0 h))(hf:∀i j d,f i j=Fk d->∀K M H,Br K M H (h i j) d):OpR X g (rOp X.K (wI2 f)):=by
 intro pins s σ H x y v u Q I rx ry hh
 obtain⟨M,w1,w2,r,e,mo,s1,s2,q⟩:=hh
 unfold wI2 at e
 split at e
 .obtain rfl:=Br.iv s1
  obtain rfl:=Br.iv s2
  rename_i i j
  cases e1:f i j with
  |none=>rw[e1]at e;cases e
  |some d=>
   rw[e1]at e
   cases e
   exact o pins s σ H _ _ v u Q I rx ry ⟨i,j,rfl,rfl,q _ _ (.same mo (hf i j d e1 _ _ _))⟩
 .cases e
noncomputable def Mm:Op2:=wI2 λi j=>Fk (.int (i-j))
noncomputable def Y5:Nat:=2^60000
noncomputable def F4:Nat:=2^8000
noncomputable def Dz(i j:Int):tV:=decide (i.natAbs<2^64)||(decide (j.natAbs<2^64)||(decide (i.natAbs<Y5) && decide (j.natAbs<Y5)))
theorem cD:OpR X (binaryOp .Mult) (rI (λi j=>Dz i j=true) λi j=>.int (i*j)):=by
 intro pins s σ H x y v u Q I rx ry h
 obtain⟨i,j,rfl,rfl,hk,q⟩:=h
 unfold Dz at hk
 rw[uU,uU,sU]at hk
 rcases hk with hk|hk|hk
 .have:=sd hk
  exact Yl pins s σ H _ _ v u Q I rx ry ⟨i,j,rfl,rfl,.inl ⟨by lia,by lia⟩,q⟩
 .have:=sd hk
  exact Yl pins s σ H _ _ v u Q I rx ry ⟨i,j,rfl,rfl,.inr ⟨by lia,by lia⟩,q⟩
 .have h1:i.natAbs<2^60000:=sd hk.1
  have h2:j.natAbs<2^60000:=sd hk.2
  obtain⟨t1,rfl⟩:=rx
  obtain⟨t2,rfl⟩:=ry
  exact PyProof.Rows.mul_int ⟨.int _,H,I.tok _,⟨_,rfl⟩,q⟩ (PyProof.Rows.mulOk_of_bits (m:=60000) (n:=60000) (AAE.mpr h1) (AAE.mpr h2) (by decide))
noncomputable def mZ:Op2:=wI2 λi j=>if Dz i j=true then Fk (.int (i*j))else none
noncomputable def NS:Op2:=wI2 λi j=>if(decide (0<j) && decide (j.natAbs<F4))=true then Fk (.int (i / j))else none
noncomputable def PU:Op2:=wI2 λi j=>if 0<j then Fk (.int (i % j))else none
noncomputable def aQ:Op2:=wI2 λi j=>if(decide (0<=j) && decide (j<=1000) && decide (i.natAbs<2^64))=true then Fk (.int (i^j.toNat))else none
noncomputable def wLt:Op2:=wI2 λi j=>Fk (.bl (decide (i<j)))
noncomputable def wLe:Op2:=wI2 λi j=>Fk (.bl (decide (i<=j)))
noncomputable def wGt:Op2:=wI2 λi j=>Fk (.bl (decide (j<i)))
noncomputable def wGe:Op2:=wI2 λi j=>Fk (.bl (decide (j<=i)))
theorem aP:OpR X (binaryOp .Sub) (rOp X.K Mm):=LW dm λi j d e K M H=>by cases e;exact .int _
theorem ZQ:OpR X (binaryOp .Mult) (rOp X.K mZ):=RJ cD λi j d e=>by
 split at e
 .rename_i hk
  cases e
  exact⟨hk,λ_ _ _=>.int _⟩
 .cases e
theorem iy:OpR X (binaryOp .FloorDiv) (rOp X.K NS):=RJ St.Wq λi j d e=>by
 split at e
 .rename_i hk
  rw[sU]at hk
  cases e
  exact⟨⟨sd hk.1,sd hk.2⟩,λ_ _ _=>.int _⟩
 .cases e
theorem kg:OpR X (binaryOp .Mod) (rOp X.K PU):=RJ fB λi j d e=>by
 split at e
 .rename_i hk
  cases e
  exact⟨hk,λ_ _ _=>.int _⟩
 .cases e
theorem av:OpR X (binaryOp .Pow) (rOp X.K aQ):=RJ iC λi j d e=>by
 split at e
 .rename_i hk
  rw[sU,sU]at hk
  cases e
  have:=sd hk.1.2
  exact⟨⟨sd hk.1.1,by lia,sd hk.2⟩,λ_ _ _=>.int _⟩
 .cases e
theorem dg:OpR X (compareOp .Lt) (rOp X.K wLt):=LW gn λi j d e K M H=>by cases e;exact .bl _
theorem ng:OpR X (compareOp .LtE) (rOp X.K wLe):=LW gc λi j d e K M H=>by cases e;exact .bl _
theorem oQ:OpR X (compareOp .Gt) (rOp X.K wGt):=LW mQ λi j d e K M H=>by cases e;exact .bl _
theorem nv:OpR X (compareOp .GtE) (rOp X.K wGe):=LW nQ λi j d e K M H=>by cases e;exact .bl _
noncomputable def asL:Wv->sD (Gc D)
 | .own ds=>Fk ds
 | .val (.lst ds)=>Fk ds
 |_=>none
noncomputable def asT:Wv->sD (Gc D)
 | .val (.tup ds)=>Fk ds
 |_=>none
noncomputable def asC:Wv->sD (Gc D)
 | .val (.scr ns)=>Fk (ns.map .int)
 |_=>none
noncomputable def asS(w:Wv):sD (Gc D):=(asL w).or ((asT w).or (asC w))
section
variable{K:Wp}{M:Ms}{H:Hp}{v:V}{w:Wv}{ds:Gc D}
theorem Sh.l(h:Sh K M H v w)(e:asL w=Fk ds):∃a xs,v=.ref a/\H a=Fk (.lst xs)/\Aj K M H xs ds:=by
 cases w with
 |own es=>cases e;obtain⟨a,xs,rfl,h1,h2⟩:=h;exact⟨a,xs,rfl,h1,h2⟩
 |val d=>
  cases d<;>first|(cases e;done)|skip
  cases e
  cases h with
  |lst h n r=>exact⟨_,_,rfl,h,r⟩
theorem Sh.t(h:Sh K M H v w)(e:asT w=Fk ds):∃a xs,v=.ref a/\SqT K H a xs/\Aj K M H xs ds:=by
 cases w with
 |own es=>cases e
 |val d=>
  cases d<;>first|(cases e;done)|skip
  cases e
  cases h with
  |tup h r=>exact⟨_,_,rfl,h,r⟩
theorem Kj:∀{ns:Gc Int},Aj K M H (ns.map V.int) (ns.map D.int)
 | []=>.nil
 |n::ns=>.cons (.int n) Kj
theorem Sh.c(h:Sh K M H v w)(e:asC w=Fk ds):∃a xs,v=.ref a/\SqL K H a xs/\Aj K M H xs ds:=by
 cases w with
 |own es=>cases e
 |val d=>
  cases d<;>first|(cases e;done)|skip
  cases e
  cases h with
  |scr h=>
   refine⟨_,_,rfl,?_,Kj⟩
   rcases h with h|h
   .exact .inl h.1
   .exact .inr h
theorem Sh.s(h:Sh K M H v w)(e:asS w=Fk ds):∃a xs,v=.ref a/\(SqL K H a xs\/SqT K H a xs)/\Aj K M H xs ds:=by
 unfold asS at e
 cases e1:asL w with
 |some es=>
  rw[e1]at e
  cases e
  obtain⟨a,xs,h1,h2,h3⟩:=h.l e1
  exact⟨a,xs,h1,.inl (.of h2),h3⟩
 |none=>
  rw[e1]at e
  cases e2:asT w with
  |some es=>
   rw[e2]at e
   cases e
   obtain⟨a,xs,h1,h2,h3⟩:=h.t e2
   exact⟨a,xs,h1,.inr h2,h3⟩
  |none=>
   rw[e2]at e
   obtain⟨a,xs,h1,h2,h3⟩:=h.c e
   exact⟨a,xs,h1,.inl h2,h3⟩
end
noncomputable def Ep:Op1:=λw=>match w with
 | .val (.str z)=>if z.length<=sizeLine then Fk (.val (.int z.length))else none
 |_=>(asS w).map λds=>.val (.int ds.length)
theorem GQ:El X (.builtin "len") (rN X.K (o1 Ep)):=by
 intro pins s σ H xs us Q I r h
 obtain⟨M,ws,w,e,mo,sh,q⟩:=h
 cases sh with
 |nil=>cases e
 |cons h1 t=>
  cases t with
  |cons h2 t=>cases e
  |nil=>
   rename_i v w1
   have e':Ep w1=Fk w:=e
   unfold Ep at e'
   split at e'
   .split at e'
    .rename_i z hz
     cases e'
     cases h1
     exact PD pins s σ H _ us Q I r ⟨z,rfl,hz,q _ _ (.same mo (.int _))⟩
    .cases e'
   .cases e1:asS w1 with
    |none=>rw[e1]at e';cases e'
    |some ds=>
     rw[e1]at e'
     cases e'
     obtain⟨a,ys,rfl,h3,h4⟩:=h1.s e1
     refine Ox pins s σ H _ us Q I r ⟨a,ys,rfl,h3,q _ _ ?_⟩
     rw[h4.length]
     exact .same mo (.int _)
noncomputable def wIx:Op2:=λa b=>match a,b with
 |a,.val (.int i)=>(asS a).bind λds=>(atI ds i).map .val
 |_,_=>none
theorem aO{K:Wp}{M:Ms}{H:Hp}{xs:Gc V}{ds:Gc D}{i:Int}{d:D}(h:Aj K M H xs ds)(e:atI ds i=Fk d):∃x,atI xs i=Fk x/\Br K M H x d:=by
 unfold atI at e⊢
 rw[h.length]
 cases e1:ixN ds.length i with
 |none=>rw[e1]at e;cases e
 |some j=>
  rw[e1]at e
  exact h.get e
theorem WL:IxR X (rOp X.K wIx):=by
 intro value slice pins s σ H x y v u Q I rx ry h hs
 obtain⟨M,w1,w2,r,e,mo,s1,s2,q⟩:=h
 unfold wIx at e
 split at e
 .rename_i i
  cases e1:asS w1 with
  |none=>rw[e1]at e;cases e
  |some ds=>
   rw[e1]at e
   simp only[zM]at e
   cases e2:atI ds i with
   |none=>rw[e2]at e;cases e
   |some d=>
    rw[e2]at e
    cases e
    obtain rfl:=Br.iv s2
    obtain⟨a,ys,rfl,h3,h4⟩:=s1.s e1
    obtain⟨z,h5,h6⟩:=aO h4 e2
    rcases h3 with h3|h3
    .exact bY value slice pins s σ H _ _ v u Q I rx ry ⟨a,ys,i,z,rfl,rfl,h3,h5,q _ _ (.same mo h6)⟩ hs
    .exact ip value slice pins s σ H _ _ v u Q I rx ry ⟨a,ys,i,z,rfl,rfl,h3,h5,q _ _ (.same mo h6)⟩ hs
 .cases e
end
section
variable{X:Cx}
noncomputable def asI:Wv->sD Int
 | .val (.int i)=>Fk i
 |_=>none
noncomputable def asX:Wv->sD Str
 | .val (.str x)=>Fk x
 |_=>none
theorem OV{w:Wv}{i:Int}(e:asI w=Fk i):w=.val (.int i):=by
 cases w with
 |own=>cases e
 |val d=>cases d with
  |int=>cases e;rfl
  |_=>cases e
theorem Yv{w:Wv}{i:Str}(e:asX w=Fk i):w=.val (.str i):=by
 cases w with
 |own=>cases e
 |val d=>cases d with
  |str=>cases e;rfl
  |_=>cases e
theorem Qb{w:Wv}{i:Gc D}(e:asT w=Fk i):w=.val (.tup i):=by
 cases w with
 |own=>cases e
 |val d=>cases d with
  |tup=>cases e;rfl
  |_=>cases e
noncomputable def Rn{α β:Type}(f:Wv->sD α)(g:α->α->sD β)(h:sD β)(a b:Wv):sD β:=match f a with
 |none=>h
 |some x=>match f b with
  |none=>h
  |some y=>g x y
theorem NR{α β:Type}{f:Wv->sD α}{g:α->α->sD β}{h:sD β}{a b:Wv}{r:β}(e:Rn f g h a b=Fk r):h=Fk r\/∃x y,f a=Fk x/\f b=Fk y/\g x y=Fk r:=by
 unfold Rn at e
 cases e1:f a with
 |none=>rw[e1]at e;exact .inl e
 |some x=>
  rw[e1]at e
  cases e2:f b with
  |none=>rw[e2]at e;exact .inl e
  |some y=>rw[e2]at e;exact .inr ⟨x,y,rfl,rfl,e⟩
noncomputable def Ct:Op2:=λa b=>Rn asI (λi j=>Fk (.val (.int (i+j)))) (Rn asX (λx y=>if x.length+y.length<=sizeLine then Fk (.val (.str (x++y)))else none) (Rn asT (λxs ys=>if xs.length+ys.length<=sizeLine then Fk (.val (.tup (xs++ys)))else none)
 (Rn asL (λxs ys=>if xs.length+ys.length<=sizeLine then Fk (.own (xs++ys))else none) none a b) a b) a b) a b
theorem SQ{α:Type}{p:Prop} [Decidable p] {x:α}{r:α}(e:(if p then Fk x else none)=Fk r):p/\x=r:=by
 by_cases h:p
 .rw[tK h]at e;cases e;exact⟨h,rfl⟩
 .rw[tN h]at e;cases e
theorem P5:OpR X (binaryOp .Add) (rOp X.K Ct):=by
 intro pins s σ H x y v u Q I rx ry h
 obtain⟨M,w1,w2,r,e,mo,s1,s2,q⟩:=h
 rcases NR e with e|⟨i,j,e1,e2,e⟩
 .rcases NR e with e|⟨i,j,e1,e2,e⟩
  .rcases NR e with e|⟨xs,ys,e1,e2,e⟩
   .rcases NR e with e|⟨xs,ys,e1,e2,e⟩
    .cases e
    .obtain⟨hz,rfl⟩:=SQ e
     obtain⟨a,xs',rfl,h1,r1⟩:=s1.l e1
     obtain⟨b,ys',rfl,h2,r2⟩:=s2.l e2
     have l1:=r1.length
     have l2:=r2.length
     exact iZ pins s σ H _ _ v u Q I rx ry ⟨a,b,xs',ys',rfl,rfl,h1,h2,by lia,λp hp=>q _ _ (.lst mo hp (r1.append r2))⟩
   .obtain rfl:=Qb e1
    obtain rfl:=Qb e2
    obtain⟨hz,rfl⟩:=SQ e
    obtain⟨a,xs',rfl,h1,r1⟩:=Br.iv s1
    obtain⟨b,ys',rfl,h2,r2⟩:=Br.iv s2
    have l1:=r1.length
    have l2:=r2.length
    by_cases hx:xs'=[]
    .subst hx
     cases r1
     refine St.Zv pins s σ H _ _ v u Q I rx ry ⟨_,_,_,rfl,rfl,h1,h2,q _ _ (.same mo ?_)⟩
     exact .tup h2 r2
    .refine bH pins s σ H _ _ v u Q I rx ry ⟨_,_,_,_,rfl,rfl,h1,h2,hx,by lia,λz=>?_,λ_ p hp=>q _ _ (.tup mo hp (r1.append r2))⟩
     subst z
     cases r2
     rw[vJ]at q
     exact q _ _ (.same mo (.tup h1 r1))
  .obtain rfl:=Yv e1
   obtain rfl:=Yv e2
   obtain⟨hz,rfl⟩:=SQ e
   obtain rfl:=Br.iv s1
   obtain rfl:=Br.iv s2
   exact Ro pins s σ H _ _ v u Q I rx ry ⟨_,_,rfl,rfl,hz,q _ _ (.same mo (.str _))⟩
 .obtain rfl:=OV e1
  obtain rfl:=OV e2
  cases e
  obtain rfl:=Br.iv s1
  obtain rfl:=Br.iv s2
  exact gy pins s σ H _ _ v u Q I rx ry ⟨_,_,rfl,rfl,q _ _ (.same mo (.int _))⟩
noncomputable def eR:Op2:=λa b=>(asI b).bind λk=>match asI a with
 |some i=>if Dz i k=true then Fk (.val (.int (i*k)))else none
 |none=>match asT a with
  |some xs=>if(!xs.isEmpty && decide (1<=k) && decide (xs.length*k.toNat<=sizeLine))=true then Fk (.val (.tup (sS k.toNat xs).flatten))else none
  |none=>(asL a).bind λxs=>if(decide (k<2^63) && decide (-(2^63)<=k) && decide (xs.length*k.toNat<=sizeLine))=true then Fk (.own (sS k.toNat xs).flatten)else none
theorem Aj.rep{K:Wp}{M:Ms}{H:Hp}{xs:Gc V}{ds:Gc D}(h:Aj K M H xs ds):∀n:Nat,Aj K M H (sS n xs).flatten (sS n ds).flatten
 |0=>.nil
 |n+1=>by
  rw[uv,uv,v5,v5]
  exact h.append (Aj.rep h n)
theorem ae:OpR X (binaryOp .Mult) (rOp X.K eR):=by
 intro pins s σ H x y v u Q I rx ry h
 obtain⟨M,w1,w2,r,e,mo,s1,s2,q⟩:=h
 obtain⟨k,e2,e0⟩:=As e
 obtain rfl:=OV e2
 clear e e2
 cases e1:asI w1 with
 |some i=>
  obtain rfl:=OV e1
  clear e1
  refine ZQ pins s σ H x y v u Q I rx ry ⟨M,_,_,r,?_,mo,s1,s2,q⟩
  obtain⟨hk,rfl⟩:=SQ e0
  show AAr Wv.val (if Dz i k=true then Fk (D.int (i*k))else none)=Fk _
  rw[tK hk]
  rfl
 |none=>
  rw[e1]at e0
  dsimp only at e0
  obtain rfl:=Br.iv s2
  cases e3:asT w1 with
  |some xs=>
   rw[e3]at e0
   obtain rfl:=Qb e3
   obtain⟨hk,rfl⟩:=SQ e0
   rw[sU,sU]at hk
   obtain⟨a,ys,rfl,h1,r1⟩:=Br.iv s1
   have l1:=r1.length
   have z:=sd hk.2
   have hk1:=sd hk.1.2
   have hne:ys≠[]:=λzz=>by
    subst zz
    cases r1
    exact absurd hk.1.1 (by decide)
   refine aH pins s σ H _ _ v u Q I rx ry ⟨a,ys,k,rfl,rfl,h1,hne,hk1,by rw[l1];exact z,λe1=>?_,λ_ p hp=>q _ _ (.tup mo hp (r1.rep _))⟩
   subst e1
   have:(sS (1:Int).toNat xs).flatten=xs:=by simp
   rw[this]at q
   exact q _ _ (.same mo (.tup h1 r1))
  |none=>
   rw[e3]at e0
   obtain⟨xs,e4,e0⟩:=As e0
   obtain⟨hk,rfl⟩:=SQ e0
   rw[sU,sU]at hk
   obtain⟨a,xs',rfl,h1,r1⟩:=s1.l e4
   have l1:=r1.length
   have z:=sd hk.2
   exact gO pins s σ H _ _ v u Q I rx ry ⟨a,k,xs',rfl,rfl,h1,sd hk.1.2,sd hk.1.1,by rw[l1];exact z,λp hp=>q _ _ (.lst mo hp (r1.rep _))⟩
noncomputable def N0:Op1
 | .val (.int i)=>Fk (.val (.int (-i)))
 |_=>none
theorem QL:UnR X (unaryOp .USub) (rUn X.K N0):=by
 intro pins s σ H x v Q I rx h
 obtain⟨M,w,r,e,mo,s1,q⟩:=h
 unfold N0 at e
 split at e
 .cases e
  obtain rfl:=Br.iv s1
  exact ir pins s σ H _ v Q I rx ⟨_,rfl,q _ _ (.same mo (.int _))⟩
 .cases e
noncomputable def HN:D->tV
 | .non=>true| .bl _=>true| .int _=>true| .str _=>true
 |_=>false
theorem Sh.flat{K:Wp}{M:Ms}{H:Hp}{v:V}{w:Wv}(h:Sh K M H v w)(f:HN (fz w)=true):Br K M H v (fz w):=by
 cases w with
 |val d=>exact h
 |own ds=>cases f
noncomputable def inD(x:D)(xs:Gc D):tV:=xs.any λy=>deq y x
theorem QR{K:Wp}{M:Ms}{H:Hp}{v:V}{d:D}(h:Br K M H v d)(f:HN d=true):LV v=true:=by
 cases h<;>first|rfl|cases f
theorem aJ{K:Wp}{M:Ms}{H:Hp}{v u:V}{d e:D}(h:Br K M H v d)(g:Br K M H u e)(f:HN d=true)(f':HN e=true):eqV v u=deq d e:=by
 cases h<;>first|(cases f;done)|skip
 all_goals (cases g<;>first|(cases f';done)|rfl)
theorem Tz{K:Wp}{M:Ms}{H:Hp}{vs:Gc V}{ds:Gc D}(h:Aj K M H vs ds):ds.all HN=true->vs.all LV=true:=h.ind (P:=λvs ds=>ds.all HN=true->vs.all LV=true) (λ_=>rfl) λh t f=>by
 rw[wV,sU]at f⊢
 exact⟨QR h f.1,t f.2⟩
theorem aV{K:Wp}{M:Ms}{H:Hp}{u:V}{e:D}(g:Br K M H u e)(f':HN e=true){vs:Gc V}{ds:Gc D}(h:Aj K M H vs ds):ds.all HN=true->inV u vs=inD e ds:=h.ind (P:=λvs ds=>ds.all HN=true->inV u vs=inD e ds) (λ_=>rfl) λh t f=>by
 rw[wV,sU]at f
 have ih:=t f.2
 unfold inV inD at ih⊢
 rw[vh,vh,ih,aJ h g f.1 f']
noncomputable def wIn(neg:tV):Op2:=λa b=>(asS b).bind λds=>if(HN (fz a) && ds.all HN)=true then Fk (.val (.bl (if neg then !inD (fz a) ds else inD (fz a) ds)))else none
theorem Y9{M:Ms}{H:Hp}{x y:V}{w1 w2 r:Wv}{neg:tV}{Q:VK}(e:wIn neg w1 w2=Fk r)(mo:MOk M H)(s1:Sh X.K M H x w1)(s2:Sh X.K M H y w2)(q:∀v H',Nw X.K M H H' v r->Q v H'):rIn X.K neg x y H Q:=by
 unfold wIn at e
 cases e1:asS w2 with
 |none=>rw[e1]at e;cases e
 |some ds=>
  rw[e1]at e
  simp only[zM]at e
  split at e
  .rename_i hk
   rw[sU]at hk
   cases e
   obtain⟨a,xs,rfl,h3,h4⟩:=s2.s e1
   have g1:=s1.flat hk.1
   refine⟨a,xs,rfl,h3,QR g1 hk.1,Tz h4 hk.2,?_⟩
   rw[aV g1 hk.1 h4 hk.2]
   exact q _ _ (.same mo (.bl _))
  .cases e
theorem fU:OpR X (compareOp .In) (rOp X.K (wIn false)):=by
 intro pins s σ H x y v u Q I rx ry h
 obtain⟨M,w1,w2,r,e,mo,s1,s2,q⟩:=h
 exact Vs pins s σ H _ _ v u Q I rx ry (Y9 e mo s1 s2 q)
theorem gM:OpR X (compareOp .NotIn) (rOp X.K (wIn true)):=by
 intro pins s σ H x y v u Q I rx ry h
 obtain⟨M,w1,w2,r,e,mo,s1,s2,q⟩:=h
 exact PC pins s σ H _ _ v u Q I rx ry (Y9 e mo s1 s2 q)
noncomputable def isN:Wv->tV
 | .val .non=>true
 |_=>false
noncomputable def XG(neg:tV):Op2:=λa b=>match b with
 | .val .non=>Fk (.val (.bl (if neg then !isN a else isN a)))
 |_=>none
theorem Va{K:Wp}{M:Ms}{H:Hp}{x:V}{w:Wv}(s:Sh K M H x w):decide (x=.non)=isN w:=by
 cases w with
 |own ds=>obtain⟨a,xs,rfl,_⟩:=s;rfl
 |val d=>cases s<;>rfl
theorem T5:OpR X (compareOp .Is) (rOp X.K (XG false)):=by
 intro pins s σ H x y v u Q I rx ry h
 obtain⟨M,w1,w2,r,e,mo,s1,s2,q⟩:=h
 unfold XG at e
 split at e
 .cases e
  obtain rfl:=Br.iv s2
  refine dZ pins s σ H _ _ v u Q I rx ry ⟨rfl,?_⟩
  rw[Va s1]
  exact q _ _ (.same mo (.bl _))
 .cases e
theorem Xj:OpR X (compareOp .IsNot) (rOp X.K (XG true)):=by
 intro pins s σ H x y v u Q I rx ry h
 obtain⟨M,w1,w2,r,e,mo,s1,s2,q⟩:=h
 unfold XG at e
 split at e
 .cases e
  obtain rfl:=Br.iv s2
  refine ZT pins s σ H _ _ v u Q I rx ry ⟨rfl,?_⟩
  rw[Va s1]
  exact q _ _ (.same mo (.bl _))
 .cases e
theorem Ig{K:Wp}{M:Ms}{H:Hp}{xs:Gc V}{ws:Gc Wv}{f:Op1}{r:Wv}(h:Shs K M H xs ws)(e:o1 f ws=Fk r):∃v w,xs=[v]/\ws=[w]/\Sh K M H v w/\f w=Fk r:=by
 cases h with
 |nil=>cases e
 |cons h1 t=>
  cases t with
  |cons h2 t=>cases e
  |nil=>exact⟨_,_,rfl,rfl,h1,e⟩
theorem TQ{K:Wp}{M:Ms}{H:Hp}{xs:Gc V}{ws:Gc Wv}{f:Op2}{r:Wv}(h:Shs K M H xs ws)(e:o2 f ws=Fk r):∃v w v' w',xs=[v,v']/\ws=[w,w']/\Sh K M H v w/\Sh K M H v' w'/\f w w'=Fk r:=by
 cases h with
 |nil=>cases e
 |cons h1 t=>
  cases t with
  |nil=>cases e
  |cons h2 t=>
   cases t with
   |cons h3 t=>cases e
   |nil=>exact⟨_,_,_,_,rfl,rfl,h1,h2,e⟩
noncomputable def dM:Op1
 | .val (.int i)=>Fk (.val (.int (if i<0 then-i else i)))
 |_=>none
theorem eS:El X (.builtin "abs") (rN X.K (o1 dM)):=by
 intro pins s σ H xs us Q I r h
 obtain⟨M,ws,w,e,mo,sh,q⟩:=h
 obtain⟨v,w1,rfl,rfl,s1,e1⟩:=Ig sh e
 unfold dM at e1
 split at e1
 .cases e1
  obtain rfl:=Br.iv s1
  exact X0 pins s σ H _ us Q I r ⟨_,rfl,q _ _ (.same mo (.int _))⟩
 .cases e1
noncomputable def jB:Op2:=wI2 λi j=>Fk (.int (if j<i then j else i))
theorem Xp{f:Int->Int->sD D}{a b r:Wv}(e:wI2 f a b=Fk r):∃i j d,a=.val (.int i)/\b=.val (.int j)/\f i j=Fk d/\r=.val d:=by
 unfold wI2 at e
 split at e
 .rename_i i j
  cases e1:f i j with
  |none=>rw[e1]at e;cases e
  |some d=>rw[e1]at e;cases e;exact⟨i,j,d,rfl,rfl,e1,rfl⟩
 .cases e
theorem gw(hc:X.calm=true):El X (.builtin "min") (rN X.K (o2 jB)):=by
 intro pins s σ H xs us Q I r h
 obtain⟨M,ws,w,e,mo,sh,q⟩:=h
 obtain⟨v,w1,v',w2,rfl,rfl,s1,s2,e1⟩:=TQ sh e
 obtain⟨i,j,d,rfl,rfl,e2,rfl⟩:=Xp e1
 cases e2
 obtain rfl:=Br.iv s1
 obtain rfl:=Br.iv s2
 exact Vi hc pins s σ H _ us Q I r ⟨_,_,rfl,q _ _ (.same mo (.int _))⟩
noncomputable def DK:Op1:=λw=>(asS w).map λds=>.val (.tup ds)
theorem QA:El X (.type "tuple") (rN X.K (o1 DK)):=by
 intro pins s σ H xs us Q I r h
 obtain⟨M,ws,w,e,mo,sh,q⟩:=h
 obtain⟨v,w1,rfl,rfl,s1,e1⟩:=Ig sh e
 unfold DK at e1
 cases e2:asS w1 with
 |none=>rw[e2]at e1;cases e1
 |some ds=>
  rw[e2]at e1
  cases e1
  obtain⟨a,ys,rfl,h3,h4⟩:=s1.s e2
  refine Nf pins s σ H _ us Q I r ⟨a,ys,rfl,?_⟩
  rcases h3 with h3|h3
  .exact .inl ⟨h3,λl hl=>q _ _ (.tup mo hl h4)⟩
  .exact .inr ⟨h3,q _ _ (.same mo (.tup h3 h4))⟩
noncomputable def Ow:Op1:=λw=>(asS w).map λds=>.own ds
theorem c7:El X (.type "list") (rN X.K (o1 Ow)):=by
 intro pins s σ H xs us Q I r h
 obtain⟨M,ws,w,e,mo,sh,q⟩:=h
 obtain⟨v,w1,rfl,rfl,s1,e1⟩:=Ig sh e
 unfold Ow at e1
 cases e2:asS w1 with
 |none=>rw[e2]at e1;cases e1
 |some ds=>
  rw[e2]at e1
  cases e1
  obtain⟨a,ys,rfl,h3,h4⟩:=s1.s e2
  exact OH pins s σ H _ us Q I r ⟨a,ys,rfl,h3,λl hl=>q _ _ (.lst mo hl h4)⟩
noncomputable def TH:Op1
 | .val (.int i)=>Fk (.val (.int i))
 | .val (.bl b)=>Fk (.val (.int (if b then 1 else 0)))
 |_=>none
theorem OL:El X (.type "int") (rN X.K (o1 TH)):=by
 intro pins s σ H xs us Q I r h
 obtain⟨M,ws,w,e,mo,sh,q⟩:=h
 obtain⟨v,w1,rfl,rfl,s1,e1⟩:=Ig sh e
 unfold TH at e1
 split at e1
 .cases e1
  obtain rfl:=Br.iv s1
  exact N8 pins s σ H _ us Q I r (.inl ⟨_,rfl,q _ _ (.same mo (.int _))⟩)
 .cases e1
  obtain rfl:=Br.iv s1
  exact N8 pins s σ H _ us Q I r (.inr ⟨_,rfl,q _ _ (.same mo (.int _))⟩)
 .cases e1
noncomputable def blD:D->sD tV
 | .bl b=>Fk b
 |_=>none
noncomputable def bls(ds:Gc D):sD (Gc tV):=ds.mapM blD
theorem Ts{K:Wp}{M:Ms}{H:Hp}:∀{vs:Gc V} {ds:Gc D} {bs:Gc tV},Aj K M H vs ds->bls ds=Fk bs->vs=bs.map V.bl
 |_,_,bs,.nil,e=>by cases e;rfl
 |_,_,bs,.cons (d:=d) (ds:=ds) h t,e=>by
  unfold bls at e
  rw[AAF]at e
  cases e1:blD d with
  |none=>rw[e1]at e;cases e
  |some b=>
   rw[e1]at e
   cases e2:ds.mapM blD with
   |none=>rw[e2]at e;cases e
   |some cs=>
    rw[e2]at e
    cases e
    have hd:d=.bl b:=by
     cases d<;>first|(cases e1;done)|skip
     cases e1;rfl
    subst hd
    cases h
    rw[su,<-Ts t e2]
noncomputable def iP:Op1:=λw=>(asL w).bind λds=>(bls ds).map λbs=>.val (.bl (bs.all id))
theorem VO(hc:X.calm=true):El X (.builtin "all") (rN X.K (o1 iP)):=by
 intro pins s σ H xs us Q I r h
 obtain⟨M,ws,w,e,mo,sh,q⟩:=h
 obtain⟨v,w1,rfl,rfl,s1,e1⟩:=Ig sh e
 unfold iP at e1
 cases e2:asL w1 with
 |none=>rw[e2]at e1;cases e1
 |some ds=>
  rw[e2]at e1
  simp only[zM]at e1
  cases e3:bls ds with
  |none=>rw[e3]at e1;cases e1
  |some bs=>
   rw[e3]at e1
   cases e1
   obtain⟨a,ys,rfl,h3,h4⟩:=s1.l e2
   exact St.V6 hc pins s σ H _ us Q I r ⟨a,bs,rfl,by rw[<-Ts h4 e3];exact .of h3,q _ _ (.same mo (.bl _))⟩
noncomputable def kdW:Wv->sD St.Kd
 | .own _=>Fk .lst
 | .val .non=>Fk .non| .val (.bl _)=>Fk .bl| .val (.int _)=>Fk .int| .val (.str _)=>Fk .str| .val (.lst _)=>Fk .lst| .val (.dct _)=>Fk .dct| .val (.tup _)=>Fk .tup
 | .val (.ty _)=>none| .val (.scr _)=>none| .val (.ref _)=>none
end
section
variable{X:Cx}
theorem XS{K:Wp}(k:St.Kd):vk K (.type k.ty) (.type "list")=Fk (k.isA "list"):=by
 cases k<;>rfl
noncomputable def O6(T:ug):tV:=T== "int" ||T== "bool" ||T== "tuple" ||T== "str" ||T== "list"
theorem fN{K:Wp}{T:ug}(h:O6 T=true)(k:St.Kd):vk K (.type k.ty) (.type T)=Fk (k.isA T):=by
 unfold O6 at h
 simp only[uU,vc]at h
 rcases h with(((rfl|rfl)|rfl)|rfl)|rfl
 .exact St.ZP k
 .exact St.Wn k
 .exact St.kit_tuple k
 .exact St.au k
 .exact XS k
noncomputable def Sx:Op2:=λa t=>match t with
 | .val (.ty T)=>if O6 T=true then(kdW a).map λk=>.val (.bl (k.isA T))else none
 |_=>none
theorem JF:El X (.builtin "isinstance") (rN X.K (o2 Sx)):=by
 intro pins s σ H xs us Q I r h
 obtain⟨M,ws,w,e,mo,sh,q⟩:=h
 obtain⟨v,w1,v',w2,rfl,rfl,s1,s2,e1⟩:=TQ sh e
 unfold Sx at e1
 split at e1
 .rename_i T
  split at e1
  .rename_i hT
   cases e2:kdW w1 with
   |none=>rw[e2]at e1;cases e1
   |some k=>
    rw[e2]at e1
    cases e1
    obtain rfl:=Br.iv s2
    obtain⟨u1,u2,rfl,r1,r2⟩:=r.two
    cases (show u2=zR T from r2)
    have fin:∀tk,EP X pins σ Q (.bool (k.isA T)) {s with toks:=tk}:=λtk=>⟨.bl _,H,I.tok tk,rfl,q _ _ (.same mo (.bl _))⟩
    have kk:=fN (K:=X.K) hT k
    cases w1 with
    |own ds=>
     cases e2
     obtain⟨a,ys,rfl,h1,_⟩:=s1
     exact FH I r1 (.lst h1) kk fin
    |val d=>
     have s1':Br X.K M H v d:=s1
     cases s1' with
     |non=>cases e2;exact FH I r1 .non kk fin
     |bl b=>cases e2;exact FH I r1 (.bl b) kk fin
     |int b=>cases e2;exact FH I r1 (.int b) kk fin
     |str b=>cases e2;exact FH I r1 (.str b) kk fin
     |ty b=>cases e2
     |scr h=>cases e2
     |lst h n rr=>cases e2;exact FH I r1 (.lst h) kk fin
     |dct h n rr=>cases e2;exact FH I r1 (.dK h) kk fin
     |ref h=>cases e2
     |tup h rr=>
      cases e2
      rename_i a ys ds
      cases (show u1=tw a from r1)
      obtain⟨its,_,⟨o,h1,h2,_⟩,_⟩:=I.tuple h
      exact ui AAk I.kIn ⟨o,h1,h2⟩ kk (λz=>nomatch z) fin
  .cases e1
 .cases e1
noncomputable def B0(fs:Gc Ev):Ev:=λE S=>(evs fs E S).bind λr=>if r.1.length<=sizeLine then Fk (.tup r.1,r.2)else none
noncomputable def W9(c:tV)(fs:Gc Ev):Ev:=λE S=>(evs fs E S).bind λr=>if r.1.length<=sizeLine then fin c (.own r.1) r.2 else none
abbrev Eu:=W9 false
abbrev HJ:=W9 true
theorem Oa{es:Gc sk}{fs:Gc Ev}{k:Nat}{pos:Pos}(h:DEs X es fs):DE X (.Tuple es k pos) (B0 fs):=⟨Bv (dX h.pe) λσ H Q z=>by
 obtain⟨M,E,S,d,S',e,r,st,q⟩:=z
 obtain⟨⟨ds,S1⟩,e1,e⟩:=As e
 dsimp only at e
 split at e
 .cases e
  refine Fs e1 r st λvs H1 M1 g1 st1 d1=>⟨by rw[d1.length];assumption,λp hp=>?_⟩
  have n:=Nw.tup st1.mo hp d1
  exact q _ _ M1 (g1.trans (.grow st1.mo n.grow)) (st1.grow n.grow) n.rel
 .cases e⟩
theorem LX{c:tV}{es:Gc sk}{fs:Gc Ev}{pos:Pos}(h:DEs X es fs):DE X (.List es pos) (W9 c fs):=⟨Bv (iB h.pe) λσ H Q z=>by
 obtain⟨M,E,S,d,S',e,r,st,q⟩:=z
 obtain⟨⟨ds,S1⟩,e1,e⟩:=As e
 dsimp only at e
 split at e
 .refine Fs e1 r st λvs H1 M1 g1 st1 d1=>⟨by rw[d1.length];assumption,λp hp=>?_⟩
  obtain⟨M2,g2,st2,d2⟩:=(Nw.lst st1.mo hp d1).fin st1 e
  exact q _ _ M2 (g1.trans g2) st2 d2
 .cases e⟩
noncomputable def H0(f g:Ev):Ev:=λE S=>(f E S).bind λr=>match r.1 with
 | .bl true=>g E r.2
 | .bl false=>Fk (.bl false,r.2)
 |_=>none
noncomputable def eOr(f g:Ev):Ev:=λE S=>(f E S).bind λr=>match r.1 with
 | .bl false=>g E r.2
 | .bl true=>Fk (.bl true,r.2)
 |_=>none
noncomputable def Jx(f:Ev):Ev:=λE S=>(f E S).bind λr=>match r.1 with
 | .bl b=>Fk (.bl (!b),r.2)
 |_=>none
noncomputable def eIf(c f g:Ev):Ev:=λE S=>(c E S).bind λr=>match r.1 with
 | .bl true=>f E r.2
 | .bl false=>g E r.2
 |_=>none
theorem Qa{K:Wp}{M:Ms}{H:Hp}{v:V}{b:tV}(h:Br K M H v (.bl b)):v=.bl b:=by cases h;rfl
variable{a b c:sk}{rest:Gc sk}{f g h:Ev}{pos:Pos}
theorem Of{op:BoolOp}(h:DE X a f):DE X (.BoolOp op [a] pos) f:=⟨iX h.pe⟩
theorem Ob(ha:DE X a f)(hb:DE X (.BoolOp .And (b::rest) pos) g):DE X (.BoolOp .And (a::b::rest) pos) (H0 f g):=⟨Bv (di ha.pe hb.pe) λσ H Q z=>by
 obtain⟨M,E,S,d,S',e,r,st,q⟩:=z
 obtain⟨⟨d1,S1⟩,e1,e⟩:=As e
 dsimp only at e
 refine⟨M,E,S,d1,S1,e1,r,st,λv H1 M1 g1 st1 r1=>?_⟩
 split at e
 .cases Qa r1
  refine⟨_,rfl,?_⟩
  refine bT ?_
  exact⟨M1,E,S1,d,S',e,r.step g1.st,st1,λv H2 M2 g2 st2 r2=>q _ _ M2 (g1.trans g2) st2 r2⟩
 .cases e
  cases Qa r1
  refine⟨_,rfl,?_⟩
  refine bQ ?_
  exact q _ _ M1 g1 st1 r1
 .cases e⟩
theorem pT(ha:DE X a f):DE X (.UnaryOp .Not a pos) (Jx f):=⟨Bv (fe ha.pe) λσ H Q z=>by
 obtain⟨M,E,S,d,S',e,r,st,q⟩:=z
 obtain⟨⟨d1,S1⟩,e1,e⟩:=As e
 dsimp only at e
 split at e
 .cases e
  refine⟨M,E,S,_,_,e1,r,st,λv H1 M1 g1 st1 r1=>?_⟩
  cases Qa r1
  exact⟨_,rfl,q _ _ M1 g1 st1 (.bl _)⟩
 .cases e⟩
inductive tDT(K:Wp)(f:Ev)(σ:Sg)(H:Hp)(Q:tV->Hp->Prop):Prop
 |mk (M:Ms) (E:En) (S:Sto) (b:tV) (S':Sto) (e:f E S=Fk (.bl b,S')) (r:EnR K M E σ H) (st:StR K M S H) (q:∀H' M',Gr M H M' H'->StR K M' S' H'->Q b H')
structure DT(X:Cx)(e:sk)(f:Ev):Prop where
 pe:PT X e (tDT X.K f)
structure DW(X:Cx)(e:sk)(f:Ev):Prop where
 pe:PW X e (tDT X.K f)
theorem DW.dt(h:DW X a f):DT X a f:=⟨PW.pt h.pe⟩
theorem Zj{t:TE}(h:PT X a (gN t))(m:∀σ H Q,tD X.K f σ H Q->t σ H Q):DT X a f:=⟨U2 h λσ H Q z=>by
 obtain⟨M,E,S,b,S',e,r,st,q⟩:=z
 refine m _ _ _ ⟨M,E,S,_,S',e,r,st,λv H1 M1 g1 st1 r1=>?_⟩
 cases Qa r1
 exact⟨_,rfl,q _ M1 g1 st1⟩⟩
theorem Lv(h:DE X a f)(he:∀whole,isTrue a X.env whole=(do let v<-whole;standAt a.pos;holding [v] (truthy v)):=by intro _;rfl):DT X a f:=Zj (t:=tD X.K f) (eE h.pe he) λ_ _ _ z=>z
theorem IU{fa fb:Ev}{op:CmpOp}{f:Op2}(ho:OpR X (compareOp op) (rOp X.K f))(ha:DE X a fa)(hb:DE X b fb)(hm:behindInMarks op b=false:=by rfl):DT X (.Compare a [op] [b] pos) (eOp (o2 f) [fa,fb]):=
 Zj (ZW ho ha.pe hb.pe hm) λ_ _ _ h=>Qg h
theorem PN(ha:DT X a f):DT X (.UnaryOp .Not a pos) (Jx f):=⟨U2 (fS ha.pe) λσ H Q z=>by
 obtain⟨M,E,S,b,S',e,r,st,q⟩:=z
 obtain⟨⟨w1,S1⟩,e1,e⟩:=As e
 dsimp only at e
 split at e
 .cases e
  exact⟨M,E,S,_,_,e1,r,st,q⟩
 .cases e⟩
theorem cV(ha:DT X a f):DW X (.BoolOp .And [a] pos) f:=⟨cH ha.pe⟩
theorem T9(ha:DT X a f):DW X (.BoolOp .Or [a] pos) f:=⟨iH ha.pe⟩
theorem VE{e:sk}{t t':TT}(h:PW X e t)(m:∀σ H Q,t' σ H Q->t σ H Q):PW X e t':=λwh pins s σ H Q I q=>h wh pins s σ H Q I (m _ _ _ q)
theorem gE(ha:DT X a f)(hb:DW X (.BoolOp .And (b::rest) pos) g):DW X (.BoolOp .And (a::b::rest) pos) (H0 f g):=⟨VE (gh ha.pe hb.pe) λσ H Q z=>by
 obtain⟨M,E,S,k,S',e,r,st,q⟩:=z
 obtain⟨⟨w1,S1⟩,e1,e⟩:=As e
 dsimp only at e
 split at e
 .refine⟨M,E,S,_,S1,e1,r,st,λH1 M1 g1 st1=>?_⟩
  refine bT ?_
  exact⟨M1,E,S1,k,S',e,r.step g1.st,st1,λH2 M2 g2 st2=>q _ M2 (g1.trans g2) st2⟩
 .cases e
  refine⟨M,E,S,_,_,e1,r,st,λH1 M1 g1 st1=>?_⟩
  refine bQ ?_
  exact q _ M1 g1 st1
 .cases e⟩
theorem Zt(ha:DT X a f)(hb:DW X (.BoolOp .Or (b::rest) pos) g):DW X (.BoolOp .Or (a::b::rest) pos) (eOr f g):=⟨VE (lV ha.pe hb.pe) λσ H Q z=>by
 obtain⟨M,E,S,k,S',e,r,st,q⟩:=z
 obtain⟨⟨w1,S1⟩,e1,e⟩:=As e
 dsimp only at e
 split at e
 .refine⟨M,E,S,_,S1,e1,r,st,λH1 M1 g1 st1=>?_⟩
  refine bQ ?_
  exact⟨M1,E,S1,k,S',e,r.step g1.st,st1,λH2 M2 g2 st2=>q _ M2 (g1.trans g2) st2⟩
 .cases e
  refine⟨M,E,S,_,_,e1,r,st,λH1 M1 g1 st1=>?_⟩
  refine bT ?_
  exact q _ M1 g1 st1
 .cases e⟩
theorem qc(hc:DT X c f)(ha:DE X a g)(hb:DE X b h):DE X (.IfExp c a b pos) (eIf f g h):=⟨Bv (W2 hc.pe ha.pe hb.pe) λσ H Q z=>by
 obtain⟨M,E,S,d,S',e,r,st,q⟩:=z
 obtain⟨⟨w1,S1⟩,e1,e⟩:=As e
 dsimp only at e
 split at e
 .refine⟨M,E,S,_,S1,e1,r,st,λH1 M1 g1 st1=>?_⟩
  refine bT ?_
  exact⟨M1,E,S1,d,S',e,r.step g1.st,st1,λv H2 M2 g2 st2 r2=>q _ _ M2 (g1.trans g2) st2 r2⟩
 .refine⟨M,E,S,_,S1,e1,r,st,λH1 M1 g1 st1=>?_⟩
  refine bQ ?_
  exact⟨M1,E,S1,d,S',e,r.step g1.st,st1,λv H2 M2 g2 st2 r2=>q _ _ M2 (g1.trans g2) st2 r2⟩
 .cases e⟩
end
inductive Fl where
 |nx
 |ret (d:D)
abbrev Ex:=En->Sto->sD (Fl×En×Sto)
def End(K:Wp)(M:Ms)(H:Hp)(Dn:Ends)(E':En)(S':Sto):Fl->Prop
 | .nx=>∀σ' H' M',Gr M H M' H'->EnR K M' E' σ' H'->StR K M' S' H'->Dn.nx σ' H'
 | .ret d=>∀v H' M',Gr M H M' H'->StR K M' S' H'->Br K M' H' v d->Dn.rt v H'
inductive tX(K:Wp)(f:Ex)(Dn:Ends)(σ:Sg)(H:Hp):Prop
 |mk (M:Ms) (E:En) (S:Sto) (fl:Fl) (E':En) (S':Sto) (e:f E S=Fk (fl,E',S')) (r:EnR K M E σ H) (st:StR K M S H) (q:End K M H Dn E' S' fl)
structure DS(X:Cx)(st:tP)(f:Ex):Prop where
 pe:PS X st (tX X.K f)
structure DSs(X:Cx)(st:Gc tP)(f:Ex):Prop where
 pe:PSs X st (tX X.K f)
theorem F7{X:Cx}{e:tP}{t t':TS}(h:PS X e t)(m:∀Dn σ H,t' Dn σ H->t Dn σ H):PS X e t':=λpins s σ H Dn I q=>h pins s σ H Dn I (m _ _ _ q)
theorem QY{X:Cx}{e:Gc tP}{t t':TS}(h:PSs X e t)(m:∀Dn σ H,t' Dn σ H->t Dn σ H):PSs X e t':=λpins s σ H Dn I q=>h pins s σ H Dn I (m _ _ _ q)
theorem End.later{K:Wp}{M M1:Ms}{H H1:Hp}{Dn:Ends}{E':En}{S':Sto}{fl:Fl}(q:End K M H Dn E' S' fl)(g:Gr M H M1 H1):End K M1 H1 Dn E' S' fl:=by
 cases fl with
 |nx=>exact λσ' H' M' g' r st=>q σ' H' M' (g.trans g') r st
 |ret d=>exact λv H' M' g' st r=>q v H' M' (g.trans g') st r
noncomputable def AR(f g:Ex):Ex:=λE S=>(f E S).bind λr=>match r.1 with
 | .nx=>g r.2.1 r.2.2
 | .ret w=>Fk (.ret w,r.2)
noncomputable def Cv:Ex:=λE S=>Fk (.nx,E,S)
section
variable{X:Cx}{st:tP}{rest a b:Gc tP}{f g h:Ex}{c e:sk}{k:Ev}{pos:Pos}
theorem FR:DSs X [] Cv:=⟨QY aE λDn σ H z=>by
 obtain⟨M,E,S,fl,E',S',e,r,st,q⟩:=z
 cases e
 exact q _ _ M (.refl st.mo) r st⟩
theorem BE(h1:DS X st f)(h2:DSs X rest g):DSs X (st::rest) (AR f g):=⟨QY (NZ h1.pe h2.pe) λDn σ H z=>by
 obtain⟨M,E,S,fl,E',S',e,r,st,q⟩:=z
 obtain⟨⟨f1,E1,S1⟩,e1,e⟩:=As e
 dsimp only at e
 split at e
 .exact⟨M,E,S,.nx,E1,S1,e1,r,st,λσ1 H1 M1 g1 r1 st1=>⟨M1,E1,S1,fl,E',S',e,r1,st1,q.later g1⟩⟩
 .cases e
  exact⟨M,E,S,.ret _,_,_,e1,r,st,q⟩⟩
theorem BI(h1:DS X st f):DSs X [st] f:=⟨Mt h1.pe⟩
noncomputable def xIf(c:Ev)(f g:Ex):Ex:=λE S=>(c E S).bind λr=>match r.1 with
 | .bl true=>f E r.2
 | .bl false=>g E r.2
 |_=>none
theorem Kw(hc:DT X c k)(ha:DSs X a f)(hb:DSs X b g):DS X (.If c a b pos) (xIf k f g):=⟨F7 (lL hc.pe ha.pe hb.pe) λDn σ H z=>by
 obtain⟨M,E,S,fl,E',S',e,r,st,q⟩:=z
 obtain⟨⟨w1,S1⟩,e1,e⟩:=As e
 dsimp only at e
 split at e
 .refine⟨M,E,S,_,S1,e1,r,st,λH1 M1 g1 st1=>?_⟩
  refine bT ?_
  exact⟨M1,E,S1,fl,E',S',e,r.step g1.st,st1,q.later g1⟩
 .refine⟨M,E,S,_,S1,e1,r,st,λH1 M1 g1 st1=>?_⟩
  refine bQ ?_
  exact⟨M1,E,S1,fl,E',S',e,r.step g1.st,st1,q.later g1⟩
 .cases e⟩
noncomputable def Aq(k:Ev):Ex:=λE S=>(k E S).map λr=>(.ret r.1,E,r.2)
theorem CB(h:DE X e k):DS X (.Return (Fk e) pos) (Aq k):=⟨F7 (fM h.pe) λDn σ H z=>by
 obtain⟨M,E,S,fl,E',S',e,r,st,q⟩:=z
 obtain⟨⟨d,S1⟩,e1,e⟩:=JE e
 cases e
 exact⟨M,E,S,d,S1,e1,r,st,λv H1 M1 g1 st1 r1=>q _ _ M1 g1 st1 r1⟩⟩
end
section
variable{K:Wp}{M:Ms}{E:En}{σ:Sg}{H:Hp}{i:Nat}{d:D}{v:V}
theorem EnR.put(r:EnR K M E σ H)(rd:Br K M H v d):EnR K M (E.set i (Fk d)) (σ.set i (Fk v)) H:=by
 refine⟨by rw[vb,vb];exact r.len,λj e ej=>?_⟩
 by_cases h:i=j
 .subst h
  by_cases hi:i<E.length
  .rw[sX hi]at ej
   cases ej
   exact⟨v,sX (by rw[<-r.len];exact hi),rd⟩
  .rw[List.getElem?_eq_none_iff.mpr (by rw[vb];lia)]at ej;cases ej
 .rw[sJ h]at ej
  obtain⟨v',h1,h2⟩:=r.val j e ej
  exact⟨v',by rw[sJ h];exact h1,h2⟩
end
noncomputable def A8(i:Nat)(k:Ev):Ex:=λE S=>(k E S).map λr=>(.nx,E.set i (Fk r.1),r.2)
theorem HA{X:Cx}{e:sk}{k:Ev}{pos pos':Pos}(i:Nat){x:Str}(h:DE X e k)(hN:X.N.Nodup)(hi:X.N[i]?=Fk x:=by rfl)(hx:Loc X.env.scope x:=by first|exact Or.inl rfl|exact Or.inr rfl)(hs:swapsWith e (Fk (.Name x pos')) pos.line X.env=pure false:=by rfl)(hf:X.fn x=true\/X.env.scope.names.lookup x=Fk .local:=by first|exact .inl rfl|exact .inr rfl):DS X (.Assign [.Name x pos'] e pos) (A8 i k):=⟨
 F7 (iJ hN hi hx h.pe hs hf) λDn σ H z=>by
  obtain⟨M,E,S,fl,E',S',e,r,st,q⟩:=z
  obtain⟨⟨d,S1⟩,e1,e⟩:=JE e
  cases e
  exact⟨M,E,S,d,S1,e1,r,st,λv H1 M1 g1 st1 r1=>q _ _ M1 g1 ((r.step g1.st).put r1) st1⟩⟩
noncomputable def Ac(k:Ev):Ex:=λE S=>(k E S).map λr=>(.nx,E,r.2)
theorem mv{X:Cx}{e:sk}{k:Ev}{pos:Pos}(h:DE X e k)(hs:swapsWith e none pos.line X.env=pure false:=by rfl):DS X (.Expr e pos) (Ac k):=⟨F7 (Ph h.pe hs) λDn σ H z=>by
 obtain⟨M,E,S,fl,E',S',e,r,st,q⟩:=z
 obtain⟨⟨d,S1⟩,e1,e⟩:=JE e
 cases e
 exact⟨M,E,S,d,S1,e1,r,st,λv H1 M1 g1 st1 r1=>q _ _ M1 g1 (r.step g1.st) st1⟩⟩
noncomputable def Et(S:Sto)(n:Nat):sD (Gc D):=match S[n]? with
 |some (.lst ds)=>Fk ds
 |_=>none
theorem FC{S:Sto}{n:Nat}{ds:Gc D}(h:Et S n=Fk ds):S[n]?=Fk (.lst ds):=by
 unfold Et at h
 split at h
 .rename_i e
  cases h
  exact e
 .cases h
abbrev Mo:=Sto->Gc D->Gc D->sD (D×Gc D)
noncomputable def Fi(op:Mo)(f:Ev)(fs:Gc Ev):Ev:=λE S=>(f E S).bind λr=>match r.1 with
 | .ref n=>(Et r.2 n).bind λ_=>(evs fs E r.2).bind λp=>(Et p.2 n).bind λds=>(op p.2 ds p.1).map λq=>(q.1,p.2.set n (.lst q.2))
 |_=>none
inductive jN(K:Wp)(op:Mo)(x:V)(vs:Gc V)(H:Hp)(Q:VK):Prop
 |mk (M:Ms) (S:Sto) (n:Nat) (a:sF) (ds args:Gc D) (d:D) (ds':Gc D) (hx:x=.ref a) (hc:M.cel[n]?=Fk a) (hn:S[n]?=Fk (.lst ds)) (e:op S ds args=Fk (d,ds')) (st:StR K M S H) (ra:Aj K M H vs args) (q:∀v H',StR K M (S.set n (.lst ds')) H'->Gr M H M H'->Br K M H' v d->Q v H')
section
variable{X:Cx}
theorem eZ{op:Mo}{f:Ev}{fs:Gc Ev}{σ:Sg}{H:Hp}{Q:VK}(h:tD X.K (Fi op f fs) σ H Q):tBM X.K "list" (jN X.K op) (tD X.K f) (tDs X.K fs) σ H Q:=by
 obtain⟨M,E,S,d,S',e,r,st,q⟩:=h
 obtain⟨⟨d1,S1⟩,e1,e⟩:=As e
 dsimp only at e
 split at e
 .rename_i n
  obtain⟨ds0,e2,e⟩:=As e
  obtain⟨⟨args,S2⟩,e3,e⟩:=As e
  obtain⟨ds,e4,e⟩:=As e
  obtain⟨⟨dd,ds'⟩,e5,e⟩:=JE e
  cases e
  refine⟨M,E,S,_,S1,e1,r,st,λv H1 M1 g1 st1 r1=>?_⟩
  cases r1 with
  |ref hc=>
   rename_i a
   obtain⟨xs,h1,h2⟩:=st1.cell n a _ hc (FC e2)
   refine⟨.inl ⟨rfl,xs,.of h1⟩,?_⟩
   refine Fs e3 (r.step g1.st) st1 λvs H2 M2 g2 st2 r2=>?_
   exact⟨M2,S2,n,a,ds,args,dd,ds',rfl,Nx g2.pre hc,FC e4,e5,st2,r2,λv H3 st3 g3 r3=>q _ _ M2 ((g1.trans g2).trans g3) st3 r3⟩
 .cases e
theorem pA{id:ug}{name:Str}{o e:sk}{es:Gc sk}{op:Mo}{f:Ev}{fs:Gc Ev}{apos cpos:Pos}(slot:Slot "list" name id)(hty:typeOf (.builtin id)=pure (.type "method_descriptor"))(hm:MtR X id (jN X.K op))(ho:DE X o f)(ha:DEs X (e::es) fs)(hbase:attributeBase o name X.env (eval o X.env)=eval o X.env:=by rfl)(hfew:((backTo cpos (sf (e::es) X.env)).all (λx=> !x.1) && (backToKw cpos (keywordEach [] X.env)).all (λx=>x.1.isSome) && decide ((e::es).length+([]:Gc yz).length+(if([]:Gc yz).isEmpty then 0 else 1)<30))=true:=by rfl)(hline:(apos.endLine==cpos.line)=true:=by rfl)(hs:sf (e::es) X.env=(false,eval e X.env)::sf es X.env:=by rfl)(hplain:(backTo cpos (sf es X.env)).any (·.1)=false:=by rfl):DE X (.Call (.Attribute o name apos) (e::es) [] cpos) (Fi op f fs):=⟨Bv (mI PySem.F.plainAttrs_list slot hty hm ho.pe ha.pe hbase hfew hline hs hplain) λσ H Q z=>eZ z⟩
noncomputable def Fp:Mo
 |_,ds,[x]=>if ds.length<sizeLine then Fk (.non,ds++[x])else none
 |_,_,_=>none
theorem Qj{K:Wp}{M:Ms}{H:Hp}{vs:Gc V}{d:D}(h:Aj K M H vs [d]):∃v,vs=[v]/\Br K M H v d:=by
 cases h with
 |cons h t=>cases t;exact⟨_,rfl,h⟩
theorem nV:MtR X "list.append" (jN X.K Fp):=by
 intro pins s σ H x vs v us Q I rx rv h
 obtain⟨M,S,n,a,ds,args,d,ds',rfl,hc,hn,e,st,ra,q⟩:=h
 unfold Fp at e
 split at e
 .split at e
  .rename_i hz
   cases e
   obtain⟨xs,h1,h2⟩:=st.cell n a _ hc hn
   obtain⟨y,rfl,ry⟩:=Qj ra
   obtain⟨st2,g2⟩:=st.chg hc hn (h2.append (.cons ry .nil))
   exact Oe pins s σ H _ _ v us Q I rx rv ⟨a,xs,y,rfl,rfl,h1,by rw[h2.length];exact hz,q _ _ st2 g2 .non⟩
  .cases e
 .cases e
end
noncomputable def Lz(k f o:Ev):Ex:=λE S=>(k E S).bind λr=>(f E r.2).bind λb=>(o E b.2).bind λi=>match b.1,i.1 with
 | .ref n,.int j=>(Et i.2 n).bind λds=>(ixN ds.length j).map λm=>(.nx,E,i.2.set n (.lst (ds.set m r.1)))
 |_,_=>none
theorem jM {X : Cx} {e t bs : sk} {k f o : Ev} {ps pos : Pos} (h : DE X e k) (hb : DE X bs f) (ht : DE X t o) (ha : ∀ v, assign (.Subscript bs t ps) X.env v = (do
      let ov ← holding [v] (eval bs X.env)
      let iv ← holding [v, ov] (eval t X.env)
      standAt ps
      holding [v, ov, iv] (setItem ov iv v)
      release [v, ov, iv] []) := by intro _; rfl)
    (hs : swapsWithSole [.Subscript bs t ps] e pos.line X.env = pure false := by rfl) (hw : swappedStores [.Subscript bs t ps] e X.env = pure none := by rfl)
    (h1 : (assignEach [.Subscript bs t ps] X.env).map (·.2) = [assign (.Subscript bs t ps) X.env] := by rfl) :
    DS X (.Assign [.Subscript bs t ps] e pos) (Lz k f o) := ⟨
  F7 (Y0 h.pe (gY hb.pe ht.pe set_list ha) hs hw h1) fun Dn σ H z => by
    obtain ⟨M, E, S, fl, E', S', e, r, st, q⟩ := z
    obtain ⟨⟨d, S1⟩, e1, e⟩ := As e
    obtain ⟨⟨b, S2⟩, e2, e⟩ := As e
    obtain ⟨⟨i, S3⟩, e3, e⟩ := As e
    dsimp only at e e1 e2 e3
    split at e
    · rename_i n j _
      obtain ⟨ds, e4, e⟩ := As e
      obtain ⟨m, e5, e⟩ := JE e
      cases e
      refine ⟨M, E, S, d, S1, e1, r, st, fun v H1 M1 g1 st1 r1 => ?_⟩
      refine ⟨M1, E, S1, _, S2, e2, r.step g1.st, st1, fun bv H2 M2 g2 st2 r2 => ?_⟩
      refine ⟨M2, E, S2, _, S3, e3, (r.step g1.st).step g2.st, st2, fun iv H3 M3 g3 st3 r3 => ?_⟩
      cases r3
      cases r2 with
      | ref hc =>
        rename_i a
        have hc3 := Nx g3.pre hc
        obtain ⟨xs, h1, h2⟩ := st3.cell n a _ hc3 (FC e4)
        obtain ⟨st4, g4⟩ := st3.chg hc3 (FC e4) (h2.set ((r1.step g2.st).step g3.st) m)
        have g := ((g1.trans g2).trans g3).trans g4
        exact ⟨a, xs, j, m, rfl, rfl, h1, by rw [h2.length]; exact e5, q _ _ M3 g (r.step g.st) st4⟩
    · cases e⟩
abbrev Fn:=Gc D->Sto->sD (D×Sto)
noncomputable def flD:Fl->D
 | .nx=>.non
 | .ret d=>d
noncomputable def Af(N:Nat)(body:Ex):Fn:=λds S=>(body (ds.map Fk++sS (N-ds.length) none) S).map λr=>(flD r.1,r.2.2)
def AY{α:Type}(a:α):α:=Classical.choose (⟨a,rfl⟩:∃x,x=a)
theorem Kx{α:Type}(a:α):AY a=a:=Classical.choose_spec (⟨a,rfl⟩:∃x,x=a)
inductive spD(K:Wp)(np:Nat)(f:Fn)(vs:Gc V)(H:Hp)(Q:VK)(E:XK):Prop
 |mk (M:Ms) (ds:Gc D) (S:Sto) (d:D) (S':Sto) (l:ds.length=np) (e:f ds S=Fk (d,S')) (r:Aj K M H vs ds) (st:StR K M S H) (q:∀v H' M',Gr M H M' H'->StR K M' S' H'->Br K M' H' v d->Q v H')
theorem Om{α:Type}{xs:Gc α}{i:Nat}{x:α}(h:(xs.map Fk)[i]?=Fk (Fk x)):xs[i]?=Fk x:=by
 rw[sP]at h
 cases e:xs[i]? with
 |none=>rw[e]at h;cases h
 |some y=>rw[e]at h;cases h;rfl
theorem Vp{α:Type}{xs:Gc (sD α)}{k i:Nat}{x:α}(h:(xs++sS k none)[i]?=Fk (Fk x)):xs[i]?=Fk (Fk x):=by
 by_cases hi:i<xs.length
 .rw[sH hi]at h;exact h
 .rw[uB (by lia),xV]at h
  split at h<;>cases h
theorem bU{α:Type}{xs:Gc (sD α)}{k i:Nat}{x:sD α}(h:xs[i]?=Fk x):(xs++sS k none)[i]?=Fk x:=by
 rw[sH (sO.mp h).1];exact h
theorem EnR.args{K:Wp}{M:Ms}{H:Hp}{vs:Gc V}{ds:Gc D}(r:Aj K M H vs ds)(k:Nat):EnR K M (ds.map Fk++sS k none) (vs.map Fk++sS k none) H:=by
 refine⟨by simp[r.length],λi d e=>?_⟩
 obtain⟨v,h1,h2⟩:=r.get (Om (Vp e))
 exact⟨v,bU (by rw[sP,h1];rfl),h2⟩
section
variable{P:sj}{w:tu}{K:Wp}{mg:Str->sD W1}{base:tT}
theorem lH{x:Str}{st:tP}{f:sF}{fd:vD}{N ps:Gc Str}{k np:Nat}{b:Ex}(Fu:Fun K x x st f fd)(S:BP N ps (AF st))(hp:ps.length=np)(hb:∀(cdv:W1) (A:tM) (outer:Gc uY) (s:sE) (H:Hp) (E:XK),Eg k (A.deeper (tQ x (AF st) s.heap.objs.size f cdv))->DSs (IK CX0 P w K mg base N x (AF st) f cdv A outer s H E).nox (Ba st) b):Pb P w K mg base CX0 (k+1) f fd ps (spD K np (AY (Af N.length b))):=by
 rw[Kx]
 refine Fu.ok S (λvs H Q E h=>?_) (λcdv A outer s H vs Q E hr h=>?_)
 .obtain⟨M,ds,S0,d,S',hl,_,r,_⟩:=h
  have:=r.length
  lia
 .obtain⟨M,ds,S0,d,S',hl,e,r,st,q⟩:=h
  have hlen:=r.length
  refine⟨_,(hb cdv A outer s H E hr).pe,?_⟩
  obtain⟨⟨fl,E',S1⟩,e1,e⟩:=JE e
  cases e
  refine⟨M,_,S0,fl,E',S1,e1,?_,st,?_⟩
  .rw[show L2.start N vs=vs.map Fk++sS (N.length-ds.length) none from by unfold L2.start;rw[hlen]]
   exact .args r _
  .cases fl with
   |nx=>exact λσ' H' M' g _ st'=>q _ _ M' g st' .non
   |ret d=>exact λv H' M' g st' r'=>q _ _ M' g st' r'
theorem eG{x:Str}{st:tP}{N ps:Gc Str}{k np:Nat}{b:Ex}(S:St.Src K mg x st)(sc:BP N ps (AF st))(hp:ps.length=np)(hbi:∀f fd,Fun K x x st f fd->Binds K fd ps [])(hb:∀(f:sF) (cdv:W1) (A:tM) (outer:Gc uY) (s:sE) (H:Hp) (E:XK),Eg k (A.deeper (tQ x (AF st) s.heap.objs.size f cdv))->DSs (IK CX0 P w K mg base N x (AF st) f cdv A outer s H E).nox (Ba st) b):St.Dfn P w K mg base x (k+1) ps (spD K np (AY (Af N.length b))):=by
 obtain⟨f,fd,Fu,hm⟩:=S.ex
 exact⟨f,fd,hm,Fu.kp,hbi f fd Fu,lH Fu sc hp λcdv A outer s H E hr=>hb f cdv A outer s H E hr⟩
end
noncomputable def AB(f:Fn)(fs:Gc Ev):Ev:=λE S=>(evs fs E S).bind λr=>f r.1 r.2
theorem ar{K:Wp}{np:Nat}{f:Fn}{fs:Gc Ev}{σ:Sg}{H:Hp}{Q:VK}(hn:fs.length=np)(h:tD K (AB f fs) σ H Q):bP (spD K np f) [] E0 (tDs K fs) σ H Q:=by
 obtain⟨M,E,S,d,S',e,r,st,q⟩:=h
 obtain⟨⟨ds,S1⟩,e1,e⟩:=As e
 refine Fs e1 r st λvs H1 M1 g1 st1 r1=>?_
 rw[vJ]
 exact⟨M1,ds,S1,d,S',by rw[LZ e1];exact hn,e,r1,st1,λv H2 M2 g2 st2 r2=>q _ _ M2 (g1.trans g2) st2 r2⟩
theorem bq{X:Cx}{k np:Nat}{x:Str}{ps:Gc Str}{f:Fn}{e:sk}{es:Gc sk}{fs:Gc Ev}{p pos:Pos}(d:St.Dfn X.prog X.w X.K X.mg X.base x k ps (spD X.K np f))(hr:Eg k X.A)(hg:Gl X x)(ha:DEs X (e::es) fs)(hn:fs.length=np:=by rfl)(hdb:(x==("__debug__":Str))=false:=by decide)(he:sf (e::es) X.env=(false,eval e X.env)::sf es X.env:=by rfl)(hpl:(backTo pos (sf es X.env)).any (·.1)=false:=by rfl):DE X (.Call (.Name x p) (e::es) [] pos) (AB f fs):=⟨Bv (St.lG d hr hg ha.pe hdb he hpl) λσ H Q z=>ar hn z⟩
abbrev Tf:=D->En->Sto->sD En
inductive tG(K:Wp)(t:Tf)(v:V)(σ:Sg)(H:Hp)(Q:St->Hp->Prop):Prop
 |mk (M:Ms) (d:D) (E E':En) (S:Sto) (e:t d E S=Fk E') (r:EnR K M E σ H) (st:StR K M S H) (rd:Br K M H v d) (q:∀σ',EnR K M E' σ' H->Q σ' H)
structure DG(X:Cx)(tg:sk)(t:Tf):Prop where
 pe:PG X tg (tG X.K t)
noncomputable def tNm(i:Nat):Tf:=λd E _=>Fk (E.set i (Fk d))
theorem Vo{X:Cx}{e:sk}{t t':TG}(h:PG X e t)(m:∀v σ H Q,t' v σ H Q->t v σ H Q):PG X e t':=λpins s σ H v u Q I r q=>h pins s σ H v u Q I r (m _ _ _ _ q)
theorem N4{X:Cx}{pos:Pos}(i:Nat){x:Str}(hN:X.N.Nodup)(hi:X.N[i]?=Fk x:=by rfl)(hx:Loc X.env.scope x:=by first|exact Or.inl rfl|exact Or.inr rfl)(hf:X.fn x=true\/X.env.scope.names.lookup x=Fk .local:=by first|exact .inl rfl|exact .inr rfl):DG X (.Name x pos) (tNm i):=⟨Vo (bI hN hi hx hf) λv σ H Q z=>by
 obtain⟨M,d,E,E',S,e,r,st,rd,q⟩:=z
 cases e
 exact q _ (r.put rd)⟩
noncomputable def tMs:Gc Tf->Gc D->En->Sto->sD En
 | [],[],E,_=>Fk E
 |t::ts,d::ds,E,S=>(t d E S).bind λE1=>tMs ts ds E1 S
 |_,_,_,_=>none
noncomputable def tTp(ts:Gc Tf):Tf:=λd E S=>match d with
 | .tup ds=>tMs ts ds E S
 | .lst ds=>tMs ts ds E S
 | .ref n=>(Et S n).bind λds=>tMs ts ds E S
 |_=>none
noncomputable def tGs(K:Wp):Gc Tf->TGs
 | []=>nq
 |t::ts=>iM (tG K t) (tGs K ts)
theorem Qn{K:Wp}{M:Ms}{H:Hp}{S:Sto}(st:StR K M S H):∀{ts:Gc Tf} {ds:Gc D} {vs:Gc V} {E E':En} {σ:Sg} {Q:Sg->Hp->Prop},tMs ts ds E S=Fk E'->EnR K M E σ H->Aj K M H vs ds->(∀σ',EnR K M E' σ' H->Q σ' H)->tGs K ts vs σ H Q
 | [],[],_,E,E',σ,Q,e,r,rd,q=>by
   cases e
   cases rd
   exact⟨rfl,q _ r⟩
 |t::ts,d::ds,_,E,E',σ,Q,e,r,rd,q=>by
  obtain⟨E1,e1,e⟩:=As e
  cases rd with
  |cons h1 h2=>exact⟨_,_,rfl,M,d,E,E1,S,e1,r,st,h1,λσ1 r1=>Qn st e r1 h2 q⟩
 | [],_::_,_,E,E',σ,Q,e,r,rd,q=>by cases e
 |_::_,[],_,E,E',σ,Q,e,r,rd,q=>by cases e
theorem Mz:∀{ts:Gc Tf} {ds:Gc D} {E E':En} {S:Sto},tMs ts ds E S=Fk E'->ds.length=ts.length
 | [],[],_,_,_,_=>rfl
 |t::ts,d::ds,E,E',S,e=>by
  obtain⟨E1,e1,e⟩:=As e
  simp[Mz e]
 | [],_::_,_,_,_,e=>by cases e
 |_::_,[],_,_,_,e=>by cases e
structure DGs(X:Cx)(es:Gc sk)(ts:Gc Tf):Prop where
 pe:PGs X es (tGs X.K ts)
theorem UC{X:Cx}:DGs X [] []:=⟨Zz⟩
theorem JM{X:Cx}{e:sk}{es:Gc sk}{t:Tf}{ts:Gc Tf}(h:DG X e t)(g:DGs X es ts)(hs:(assignEach (e::es) X.env).map (·.2)=assign e X.env::(assignEach es X.env).map (·.2):=by rfl):DGs X (e::es) (t::ts):=⟨W6 h.pe g.pe hs⟩
theorem iL{X:Cx}{k:Nat}{es:Gc sk}{ts:Gc Tf}{pos:Pos}(hc:X.calm=true)(h:DGs X es ts)(hn:(assignEach es X.env).length=ts.length:=by rfl)(hst:(assignEach es X.env).findIdx? (·.1)=none:=by rfl):DG X (.Tuple es k pos) (tTp ts):=⟨
 Vo (gF hc h.pe hn hst) λv σ H Q z=>by
  obtain⟨M,d,E,E',S,e,r,st,rd,q⟩:=z
  unfold tTp at e
  split at e
  .cases rd with
   |tup h1 h2=>exact⟨_,_,rfl,.inl h1,by rw[h2.length];exact Mz e,Qn st e r h2 q⟩
  .cases rd with
   |lst h1 n h2=>exact⟨_,_,rfl,.inr h1,by rw[h2.length];exact Mz e,Qn st e r h2 q⟩
  .obtain⟨ds,e1,e⟩:=As e
   cases rd with
   |ref hc=>
    obtain⟨xs,h1,h2⟩:=st.cell _ _ _ hc (FC e1)
    exact⟨_,_,rfl,.inr h1,by rw[h2.length];exact Mz e,Qn st e r h2 q⟩
  .cases e⟩
noncomputable def LC(t:Tf)(k:Ev):Ex:=λE S=>(k E S).bind λr=>(t r.1 E r.2).map λE'=>(.nx,E',r.2)
theorem gq{X:Cx}{tg e:sk}{t:Tf}{k:Ev}{pos:Pos}(h:DE X e k)(hg:DG X tg t)(hs:swapsWithSole [tg] e pos.line X.env=pure false:=by rfl)(hw:swappedStores [tg] e X.env=pure none:=by rfl)(h1:(assignEach [tg] X.env).map (·.2)=[assign tg X.env]:=by rfl):DS X (.Assign [tg] e pos) (LC t k):=⟨F7 (Y0 h.pe hg.pe hs hw h1) λDn σ H z=>by
 obtain⟨M,E,S,fl,E',S',e,r,st,q⟩:=z
 obtain⟨⟨d,S1⟩,e1,e⟩:=As e
 obtain⟨E2,e2,e⟩:=JE e
 cases e
 exact⟨M,E,S,d,S1,e1,r,st,λv H1 M1 g1 st1 r1=>⟨M1,d,E,_,S1,e2,r.step g1.st,st1,r1,λσ' r2=>q _ _ M1 g1 r2 st1⟩⟩⟩
noncomputable def SY(i j:Nat)(f g:Ev):Ex:=λE S=>(evs [f,g] E S).bind λr=>match r.1 with
 | [d,d']=>Fk (.nx,(E.set i (Fk d)).set j (Fk d'),r.2)
 |_=>none
theorem pM{X:Cx}{i j:Nat}{x y:Str}{a b:sk}{f g:Ev}{px py pt:Pos}{kt k2:Nat}{pt2 pos:Pos}(hc:X.calm=true)(hN:X.N.Nodup)(hi:X.N[i]?=Fk x)(hj:X.N[j]?=Fk y)(hij:i≠j)(hx:X.env.scope.names.lookup x=Fk .local)(hy:X.env.scope.names.lookup y=Fk .local)(ha:DE X a f)(hb:DE X b g)(hw:swappedStores [.Tuple [.Name x px,.Name y py] kt pt] (.Tuple [a,b] k2 pt2) X.env=pure (Fk [x,y]):=by rfl)(hsa:sf [a,b] X.env=(false,eval a X.env)::sf [b] X.env:=by rfl)(hsb:sf [b] X.env=(false,eval b X.env)::sf [] X.env:=by rfl)(hs:swapsWithSole [.Tuple [.Name x px,.Name y py] kt pt] (.Tuple [a,b] k2 pt2) pos.line X.env=pure false:=by rfl):DS X (.Assign [.Tuple [.Name x px,.Name y py] kt pt] (.Tuple [a,b] k2 pt2) pos) (SY i j f g):=⟨by
 refine F7 (dz hc hN hi hj hij hx hy (J2 ha.pe (J2 hb.pe Qm hsb) hsa) hw hs) λDn σ H z=>?_
 obtain⟨M,E,S,fl,E',S',e,r,st,q⟩:=z
 obtain⟨⟨ds,S1⟩,e1,e⟩:=As e
 refine Fs (K:=X.K) (fs:=[f,g]) e1 r st λvs H1 M1 g1 st1 r1=>?_
 dsimp only at e
 split at e
 .rename_i d d'
  cases e
  cases r1 with
  |cons h1 t=>
   cases t with
   |cons h2 t=>
    cases t
    exact⟨_,_,rfl,q _ _ M1 g1 (((r.step g1.st).put h1).put h2) st1⟩
 .cases e⟩
noncomputable def Lb:Ex:=λ_ _=>none
theorem kS{X:Cx}{st:tP}:DS X st Lb:=⟨λ_ _ _ _ _ _ z=>by
 obtain⟨M,E,S,fl,E',S',e,_⟩:=z
 cases e⟩
abbrev Gd:=Gc (Nat×Gc D)
def gOk(gs:Gd)(S:Sto):Prop:=∀g∈gs,Et S g.1=Fk g.2
abbrev Sr:=En->Sto->sD ((Gc D×Gd)×Sto)
structure eY(K:Wp)(M:Ms)(H:Hp)(gs:Gd)(ds:Gc D)(J:It):Prop where
 go:∀(i:Nat) (H2:Hp) (M2:Ms) (S2:Sto),Sp1 M H M2 H2->StR K M2 S2 H2->gOk gs S2->i<ds.length->J.go i H2
 stop:∀(i:Nat) (H2:Hp) (M2:Ms) (S2:Sto),Sp1 M H M2 H2->StR K M2 S2 H2->gOk gs S2->ds.length<=i->J.stop i H2
 yld:∀(i:Nat) (H2:Hp) (M2:Ms) (S2:Sto) (x:V) (H3:Hp) (d:D),Sp1 M H M2 H2->StR K M2 S2 H2->gOk gs S2->ds[i]?=Fk d->J.yld i H2 x H3->(∀a o,H2 a=Fk o->H3 a=Fk o)/\Br K M2 H3 x d
inductive tI(K:Wp)(s:Sr)(σ:Sg)(H:Hp)(R:It->Hp->Prop):Prop
 |mk (M:Ms) (E:En) (S:Sto) (ds:Gc D) (gs:Gd) (S':Sto) (e:s E S=Fk ((ds,gs),S')) (r:EnR K M E σ H) (st:StR K M S H) (q:∀J H' M',Gr M H M' H'->StR K M' S' H'->eY K M' H' gs ds J->R J H')
structure DI(X:Cx)(tg iter:sk)(s:Sr):Prop where
 pe:PI X tg iter (tI X.K s)
theorem NV{X:Cx}{tg e:sk}{t t':TI}(h:PI X tg e t)(m:∀σ H R,t' σ H R->t σ H R):PI X tg e t':=λpins s σ H R I q=>h pins s σ H R I (m _ _ _ q)
noncomputable def qi(K:Wp)(tl:TE):TI:=λσ H R=>tl σ H λx H1=>∃a,x=.ref a/\(((∃xs,SqL K H1 a xs)/\R (Itl K a) H1)\/((∃xs,SqT K H1 a xs)/\R (Itt K a) H1))
theorem iU{X:Cx}{tg l:sk}{tl:TE}(hl:PE X l tl):PI X tg l (qi X.K tl):=by
 intro pins s σ H R I h
 refine thn (hl pins s σ H _ I h) λv s1 ⟨x,H1,I1,r1,q1⟩=>?_
 obtain⟨a,e,q1⟩:=q1
 subst e
 cases r1
 rcases q1 with⟨⟨xs,hq⟩,q⟩|⟨⟨xs,hq⟩,q⟩
 .obtain⟨its,rv,p,hz⟩:=I1.list hq
  refine uy p.isList ?_
  refine⟨s1.heap.objs.size,[s1.heap.objs.size],_,_,H1,rfl,I1.kept (t':=s1.toks) λb o e=>sC _ e,Vl a _,⟨_,sg _ rfl,rfl,rfl⟩,λb hb=>?_,q⟩
  have e:b=s1.heap.objs.size:=by simpa using hb
  subst e
  exact I1.ZY (sM _) (I1.hok.fresh (sM _))
 .obtain⟨its,rv,p,hz⟩:=I1.tuple hq
  refine vO (show s1.heap.IsTuple a its.toArray from p) ?_
  refine⟨s1.heap.objs.size,[s1.heap.objs.size],_,_,H1,rfl,I1.kept (t':=s1.toks) λb o e=>sC _ e,SH a _,⟨_,sg _ rfl,rfl,rfl⟩,λb hb=>?_,q⟩
  have e:b=s1.heap.objs.size:=by simpa using hb
  subst e
  exact I1.ZY (sM _) (I1.hok.fresh (sM _))
theorem Aj.get'{K:Wp}{M:Ms}{H:Hp}{vs:Gc V}{ds:Gc D}{i:Nat}(h:Aj K M H vs ds)(hi:i<ds.length):∃x,vs[i]?=Fk x:=by
 have:=h.length
 exact⟨vs[i],sA (by lia)⟩
structure SqF(K:Wp)(M:Ms)(H:Hp)(gs:Gd)(k:tV)(a:sF)(ds:Gc D):Prop where
 keep:∀(H2:Hp) (M2:Ms) (S2:Sto),Sp1 M H M2 H2->StR K M2 S2 H2->gOk gs S2->∃xs,(if k=true then SqT K H2 a xs else SqL K H2 a xs)/\Aj K M2 H2 xs ds
noncomputable def sqD(S:Sto):D->sD (Gc D×Gd)
 | .tup ds=>Fk (ds,[])
 | .lst ds=>Fk (ds,[])
 | .ref n=>(Et S n).map λds=>(ds,[(n,ds)])
 | .scr ns=>Fk (ns.map .int,[])
 |_=>none
theorem Q4{K:Wp}{M:Ms}{H:Hp}{S:Sto}{v:V}{d:D}{ds:Gc D}{gs:Gd}(st:StR K M S H)(h:Br K M H v d)(e:sqD S d=Fk (ds,gs)):∃k a,v=.ref a/\SqF K M H gs k a ds:=by
 cases h with
 |tup h r=>cases e;exact⟨true,_,rfl,⟨λH2 M2 S2 g _ _=>⟨_,g.sqT h,r.step g⟩⟩⟩
 |lst h n r=>cases e;exact⟨false,_,rfl,⟨λH2 M2 S2 g _ _=>⟨_,SqL.of (g.keep _ _ h n),r.step g⟩⟩⟩
 |scr h=>
  cases e
  refine⟨false,_,rfl,⟨λH2 M2 S2 g _ _=>⟨_,?_,Kj⟩⟩⟩
  rcases h with⟨h,n⟩|h
  .rcases h with h|⟨o,h⟩
   .exact .inl (.inl (g.keep _ _ h n))
   .exact .inl (.inr ⟨o,g.keep _ _ h n⟩)
  .exact .inr h
 |ref h=>
  obtain⟨es,e1,e⟩:=JE e
  cases e
  refine⟨false,_,rfl,⟨λH2 M2 S2 g st2 ok=>?_⟩⟩
  obtain⟨xs,h1,h2⟩:=st2.cell _ _ _ (Nx g.pre h) (FC (ok _ (tJ.mpr rfl)))
  exact⟨xs,SqL.of h1,h2⟩
 |non=>cases e
 |bl b=>cases e
 |int b=>cases e
 |str b=>cases e
 |ty b=>cases e
 |dct h n r=>cases e
theorem k7{K:Wp}{M:Ms}{H:Hp}{gs:Gd}{k:tV}{a:sF}{ds:Gc D}(h:SqF K M H gs k a ds):eY K M H gs ds (if k=true then Itt K a else Itl K a):=by
 cases k with
 |true=>
  exact{
   go:=λi H2 M2 S2 g st ok hi=>let⟨xs,h1,h2⟩:=h.keep H2 M2 S2 g st ok;let⟨x,hx⟩:=h2.get' hi;⟨xs,x,h1,hx⟩
   stop:=λi H2 M2 S2 g st ok hi=>let⟨xs,h1,h2⟩:=h.keep H2 M2 S2 g st ok;⟨xs,h1,by have:=h2.length;lia⟩
   yld:=λi H2 M2 S2 x H3 d g st ok hd hy=>by
    obtain⟨xs,h1,h2⟩:=h.keep H2 M2 S2 g st ok
    obtain⟨rfl,hy⟩:=hy
    refine⟨λ_ _ e=>e,?_⟩
    have hx:=hy xs h1
    obtain⟨x',h3,h4⟩:=h2.get hd
    rw[hx]at h3;cases h3
    exact h4}
 |false=>
  exact{
   go:=λi H2 M2 S2 g st ok hi=>let⟨xs,h1,h2⟩:=h.keep H2 M2 S2 g st ok;let⟨x,hx⟩:=h2.get' hi;⟨xs,x,h1,hx⟩
   stop:=λi H2 M2 S2 g st ok hi=>let⟨xs,h1,h2⟩:=h.keep H2 M2 S2 g st ok;⟨xs,h1,by have:=h2.length;lia⟩
   yld:=λi H2 M2 S2 x H3 d g st ok hd hy=>by
    obtain⟨xs,h1,h2⟩:=h.keep H2 M2 S2 g st ok
    obtain⟨rfl,hy⟩:=hy
    refine⟨λ_ _ e=>e,?_⟩
    have hx:=hy xs h1
    obtain⟨x',h3,h4⟩:=h2.get hd
    rw[hx]at h3;cases h3
    exact h4}
noncomputable def Fq(f:Ev):Sr:=λE S=>(f E S).bind λr=>(sqD r.2 r.1).map λp=>(p,r.2)
theorem Np{S:Sto}{d:D}{ds:Gc D}{gs:Gd}(e:sqD S d=Fk (ds,gs)):gOk gs S:=by
 cases d<;>first|(cases e;done)|skip
 all_goals first
  |(cases e;intro g hg;cases hg;done)
  |(obtain⟨es,e1,e⟩:=JE e
    cases e
    intro g hg
    rw[tJ.mp hg]
    exact e1)
theorem gz{X:Cx}{tg e:sk}{f:Ev}(h:DE X e f):DI X tg e (Fq f):=⟨NV (iU h.pe) λσ H R z=>by
 obtain⟨M,E,S,ds,gs,S',e,r,st,q⟩:=z
 obtain⟨⟨d,S1⟩,e1,e⟩:=As e
 obtain⟨⟨ds',gs'⟩,e2,e⟩:=JE e
 cases e
 refine⟨M,E,S,d,S1,e1,r,st,λv H1 M1 g1 st1 r1=>?_⟩
 obtain⟨k,a,rfl,sq⟩:=Q4 st1 r1 e2
 obtain⟨xs,hs,_⟩:=sq.keep H1 M1 S1 (Gr.refl st1.mo).st st1 (Np e2)
 have it:=k7 sq
 refine⟨a,rfl,?_⟩
 cases k with
 |true=>exact .inr ⟨⟨xs,hs⟩,q _ _ M1 g1 st1 it⟩
 |false=>exact .inl ⟨⟨xs,hs⟩,q _ _ M1 g1 st1 it⟩⟩
noncomputable def Ka(lo:Int)(n:Nat):Gc D:=(tL n).map λ(i:Nat)=>.int (lo+(i:Int))
theorem ig{K:Wp}{M:Ms}{H:Hp}{lo:Int}{n:Nat}:eY K M H [] (Ka lo n) (Itr lo n) where
 go:=λi H2 M2 S2 g st ok hi=>by
  have:i<n:=by unfold Ka at hi;simpa using hi
  exact this
 stop:=λi H2 M2 S2 g st ok hi=>by
  have:n<=i:=by unfold Ka at hi;simpa using hi
  exact this
 yld:=λi H2 M2 S2 x H3 d g st ok hd hy=>by
  obtain⟨rfl,rfl⟩:=hy
  refine⟨λ_ _ e=>e,?_⟩
  unfold Ka at hd
  rw[sP]at hd
  cases e:(tL n)[i]? with
  |none=>rw[e]at hd;cases hd
  |some j=>
   rw[e]at hd
   cases hd
   have:j=i:=by
    obtain⟨h1,h2⟩:=sO.mp e
    simpa using h2.symm
   subst this
   exact .int _
noncomputable def L7(fs:Gc Ev):Sr:=λE S=>(evs fs E S).bind λr=>match r.1 with
 | [.int j]=>if(decide (-(2^62)<=j) && decide (j<2^62))=true then Fk ((Ka 0 j.toNat,[]),r.2)else none
 | [.int i,.int j]=>if(decide (-(2^62)<=i) && decide (i<2^62) && decide (-(2^62)<=j) && decide (j<2^62))=true then Fk ((Ka i (j-i).toNat,[]),r.2)else none
 |_=>none
theorem Q7{K:Wp}{M:Ms}{H:Hp}{vs:Gc V}{j:Int}(h:Aj K M H vs [.int j]):vs=[.int j]:=by
 cases h with
 |cons h t=>cases t;cases h;rfl
theorem WD{K:Wp}{M:Ms}{H:Hp}{vs:Gc V}{i j:Int}(h:Aj K M H vs [.int i,.int j]):vs=[.int i,.int j]:=by
 cases h with
 |cons h t=>cases h;cases Q7 t;rfl
theorem Us{X:Cx}{tg a:sk}{o:Ev}{p pos:Pos}(hg:Gl X "range")(hm:X.mg "range"=none)(ha:DEs X [a] [o])(hs:sf [a] X.env=[(false,eval a X.env)]:=by rfl):DI X tg (.Call (.Name "range" p) [a] [] pos) (L7 [o]):=⟨
 NV (Vv hg hm ha.pe hs) λσ H R z=>by
  obtain⟨M,E,S,ds,gs,S',e,r,st,q⟩:=z
  obtain⟨⟨ws,S1⟩,e1,e⟩:=As e
  have hl:=LZ e1
  refine Fs e1 r st λvs H1 M1 g1 st1 r1=>?_
  dsimp only at e
  split at e
  .split at e
   .rename_i j hk
    rw[sU]at hk
    cases e
    exact⟨j,Q7 r1,sd hk.1,sd hk.2,q _ _ M1 g1 st1 ig⟩
   .cases e
  .simp at hl
  .cases e⟩
open Classical in
def Lx(gs:Gd)(t:Tf)(body:Ex):Gc D->En->Sto->sD (Fl×En×Sto)
 | [],E,S=>if gOk gs S then Fk (.nx,E,S)else none
 |d::ds,E,S=>if gOk gs S then(t d E S).bind λE1=>(body E1 S).bind λr=>match r.1 with
  | .nx=>Lx gs t body ds r.2.1 r.2.2
  | .ret w=>Fk (.ret w,r.2)
  else none
def L6(s:Sr)(t:Tf)(body:Ex):Ex:=λE S=>(s E S).bind λr=>Lx r.1.2 t body r.1.1 E r.2
theorem O8{α:Type}{xs:Gc α}{i:Nat}{x:α}{r:Gc α}(h:xs.drop i=x::r):xs[i]?=Fk x/\xs.drop (i+1)=r/\i<xs.length:=by
 have hi:i<xs.length:=by
  by_cases hi:i<xs.length
  .exact hi
  .rw[uH (by lia)]at h;cases h
 rw[tS hi]at h
 cases h
 exact⟨sA hi,rfl,hi⟩
theorem eT{X:Cx}{tg iter:sk}{body:Gc tP}{s:Sr}{t:Tf}{b:Ex}{pos:Pos}(hp:PassesOwn (model X.prog X.w) X.A X.env X.xe)(hc:X.calm=true)(hi:DI X tg iter s)(hg:DG X tg t)(hb:DSs X body b)(hs:∀x,foldedSetIterable iter X.env x=pure x:=by intro _;rfl):DS X (.For tg iter body [] pos) (L6 s t b):=⟨F7 (gD hp hc hi.pe hg.pe hb.pe hs) λDn σ H z=>by
 obtain⟨M,E,S,fl,E',S',e,r,st,q⟩:=z
 obtain⟨⟨⟨ds,gs⟩,S1⟩,e1,e⟩:=As e
 dsimp only at e
 refine⟨M,E,S,ds,gs,S1,e1,r,st,λJ H1 M1 g1 st1 it=>?_⟩
 refine⟨λi m σ' H'=>m=ds.length-i/\∃E2 S2 M2,Lx gs t b (ds.drop i) E2 S2=Fk (fl,E',S')/\Gr M1 H1 M2 H'/\EnR X.K M2 E2 σ' H'/\StR X.K M2 S2 H',⟨_,rfl,E,S1,M1,e,.refl st1.mo,r.step g1.st,st1⟩,λi m σ2 H2 hW=>?_⟩
 obtain⟨rfl,E2,S2,M2,e2,g2,r2,st2⟩:=hW
 cases ed:ds.drop i with
 |nil=>
  rw[ed]at e2
  unfold Lx at e2
  split at e2
  .rename_i ok
   cases e2
   left
   exact⟨it.stop i H2 M2 _ g2.st st2 ok (AAG.mp ed),q _ _ M2 (g1.trans g2) r2 st2⟩
  .cases e2
 |cons d rest=>
  obtain⟨d1,d2,d3⟩:=O8 ed
  rw[ed]at e2
  unfold Lx at e2
  split at e2
  .rename_i ok
   obtain⟨E3,e3,e2⟩:=As e2
   obtain⟨⟨f4,E4,S4⟩,e4,e2⟩:=As e2
   dsimp only at e2
   right
   refine⟨it.go i H2 M2 S2 g2.st st2 ok d3,λσ' H'=>∃m',m'<ds.length-i/\(m'=ds.length-(i+1)/\∃E2 S2 M2,Lx gs t b (ds.drop (i+1)) E2 S2=Fk (fl,E',S')/\Gr M1 H1 M2 H'/\EnR X.K M2 E2 σ' H'/\StR X.K M2 S2 H'),λσ' H' z=>z,λx H3 hy=>?_⟩
   obtain⟨k3,rx⟩:=it.yld i H2 M2 S2 x H3 d g2.st st2 ok d1 hy
   have g3:Gr M2 H2 M2 H3:=.grow st2.mo k3
   refine⟨M2,d,E2,E3,S2,e3,r2.step g3.st,st2.grow k3,rx,λσ4 r4=>?_⟩
   refine⟨M2,E3,S2,f4,E4,S4,e4,r4,st2.grow k3,?_⟩
   split at e2
   .exact λσ6 H6 M6 g6 r6 st6=>⟨_,by lia,rfl,E4,S4,M6,by rw[d2];exact e2,(g2.trans g3).trans g6,r6,st6⟩
   .cases e2
    exact λv H6 M6 g6 st6 r6=>q _ _ M6 (((g1.trans g2).trans g3).trans g6) st6 r6
  .cases e2⟩
noncomputable def He(c:Ev)(b:Ex):Nat->En->Sto->sD (Fl×En×Sto)
 |0,_,_=>none
 |k+1,E,S=>(c E S).bind λr=>match r.1 with
  | .bl true=>(b E r.2).bind λp=>match p.1 with
    | .nx=>He c b k p.2.1 p.2.2
    | .ret w=>Fk (.ret w,p.2)
  | .bl false=>Fk (.nx,E,r.2)
  |_=>none
noncomputable def OK(fuel:En->Nat)(c:Ev)(b:Ex):Ex:=λE S=>He c b (fuel E) E S
theorem kP{X:Cx}{c:sk}{body:Gc tP}{k:Ev}{b:Ex}{pos:Pos}(fuel:En->Nat)(hp:PassesOwn (model X.prog X.w) X.A X.env X.xe)(hc:DT X c k)(hb:DSs X body b):DS X (.While c body [] pos) (OK fuel k b):=⟨
 F7 (YT hp hc.pe hb.pe) λDn σ H z=>by
  obtain⟨M,E,S,fl,E',S',e,r,st,q⟩:=z
  refine⟨λm σ' H'=>∃E2 S2 M2,He k b m E2 S2=Fk (fl,E',S')/\Gr M H M2 H'/\EnR X.K M2 E2 σ' H'/\StR X.K M2 S2 H',⟨fuel E,E,S,M,e,.refl st.mo,r,st⟩,λm σ2 H2 hW=>?_⟩
  obtain⟨E2,S2,M2,e2,g2,r2,st2⟩:=hW
  cases m with
  |zero=>cases e2
  |succ m=>
   obtain⟨⟨w3,S3⟩,e3,e2⟩:=As e2
   dsimp only at e2
   split at e2
   .obtain⟨⟨f4,E4,S4⟩,e4,e2⟩:=As e2
    refine⟨M2,E2,S2,true,S3,e3,r2,st2,λH3 M3 g3 st3=>?_⟩
    refine bT ⟨λσ' H'=>∃m',m'<m+1/\∃E2 S2 M2,He k b m' E2 S2=Fk (fl,E',S')/\Gr M H M2 H'/\EnR X.K M2 E2 σ' H'/\StR X.K M2 S2 H',λσ' H' z=>z,?_⟩
    refine⟨M3,E2,S3,f4,E4,S4,e4,r2.step g3.st,st3,?_⟩
    dsimp only at e2
    split at e2
    .exact λσ5 H5 M5 g5 r5 st5=>⟨m,by lia,E4,S4,M5,e2,(g2.trans g3).trans g5,r5,st5⟩
    .cases e2
     exact λv H5 M5 g5 st5 r5=>q _ _ M5 ((g2.trans g3).trans g5) st5 r5
   .cases e2
    refine⟨M2,_,S2,false,_,e3,r2,st2,λH3 M3 g3 st3=>?_⟩
    refine bQ ?_
    exact q _ _ M3 (g2.trans g3) (r2.step g3.st) st3
   .cases e2⟩
noncomputable def UN(i:Nat):En->Nat:=λE=>match at? E i with
 |some (.int j)=>j.natAbs+2
 |_=>0
section
variable{K:Wp}{M M' M2:Ms}{H H' H2:Hp}{S:Sto}
structure GrX(M:Ms)(H:Hp)(M':Ms)(H':Hp):Prop where
 pre:M.cel <+: M'.cel
 fresh:∀a,a∈M'.cel->a∈M.cel\/H a=none
 keep:∀a o,H a=Fk o->a∉M.cel->H' a=Fk o
 some:∀a,H a≠none->H' a≠none
theorem GrX.none(g:GrX M H M' H'){a:sF}(h:H' a=none):H a=none:=by
 cases e:H a with
 |none=>rfl
 |some o=>exact absurd h (g.some a (by rw[e];intro z;cases z))
theorem Gr.x(g:Gr M H M' H'):GrX M H M' H':=⟨g.pre,g.fresh,g.keep,g.some⟩
theorem GrX.trans(h:GrX M H M' H')(g:GrX M' H' M2 H2):GrX M H M2 H2:=
 ⟨h.pre.trans g.pre,λa z=>(g.fresh a z).elim (h.fresh a) λz=>.inr (h.none z),λa o e n=>g.keep a o (h.keep a o e n) (λz=>by
   rcases h.fresh a z with z|z
   .exact n z
   .rw[e]at z;cases z),λa e=>g.some a (h.some a e)⟩
theorem StR.fR(r:StR K M S H){a:sF}(e:H a=none):StR K ⟨M.cel,a::M.tmp⟩ S (upd H a (.lst []))/\GrX M H ⟨M.cel,a::M.tmp⟩ (upd H a (.lst []))/\Sp1 M H ⟨M.cel,a::M.tmp⟩ (upd H a (.lst [])):=by
 have k:∀b o,H b=Fk o->upd H a (.lst []) b=Fk o:=EY e
 have na:¬M.mem a:=λz=>r.mo.some z e
 have s1:Sp1 M H ⟨M.cel,a::M.tmp⟩ (upd H a (.lst [])):=⟨r.mo,uV,λb z=>by
  rcases z with z|z
  .exact .inl (.inl z)
  .rcases sN.mp z with z|z
   .subst z;exact .inr e
   .exact .inl (.inr z),λb o eb _=>k b o eb⟩
 refine⟨⟨λb z=>?_,r.nd,λb hb z=>?_,r.len,λn b c h1 h2=>?_⟩,⟨uV,λb z=>.inl z,λb o eb _=>k b o eb,λb eb z=>?_⟩,s1⟩
 .by_cases h:b=a
  .subst h;exact⟨_,Av,trivial⟩
  .rw[Ad h]
   refine r.mo b ?_
   rcases z with z|z
   .exact .inl z
   .rcases sN.mp z with z|z
    .exact absurd z h
    .exact .inr z
 .rcases sN.mp hb with hb|hb
  .subst hb;exact na (.inl z)
  .exact r.nt b hb z
 .exact(r.cell n b c h1 h2).step s1 λo e=>k _ _ e
 .cases h:H b with
  |none=>exact eb h
  |some o=>rw[k b o h]at z;cases z
theorem StR.ZO(r:StR K M S H){a:sF}{ys:Gc V}(ha:a∈M.tmp):StR K M S (upd H a (.lst ys))/\Sp1 M H M (upd H a (.lst ys)):=by
 have s1:Sp1 M H M (upd H a (.lst ys)):=⟨r.mo,uV,λb z=>.inl z,λb o eb nb=>by rw[Ad (λz=>nb (by rw[z];exact .inr ha))];exact eb⟩
 refine⟨⟨λb z=>?_,r.nd,r.nt,r.len,λn b c h1 h2=>?_⟩,s1⟩
 .by_cases h:b=a
  .subst h;exact⟨_,Av,trivial⟩
  .rw[Ad h];exact r.mo b z
 .have hb:b≠a:=λz=>r.nt a ha (by rw[<-z];exact se h1)
  exact(r.cell n b c h1 h2).step s1 λo e=>by rw[Ad hb];exact e
theorem StR.cn{c:Gc sF}{t:Gc sF}{a:sF}{xs:Gc V}{ds:Gc D}{cf:tV}{d:D}{S':Sto}(r:StR K ⟨c,a::t⟩ S H)(nt:a∉t)(e:H a=Fk (.lst xs))(rr:Aj K ⟨c,a::t⟩ H xs ds)(ef:fin cf (.own ds) S=Fk (d,S')):∃c',StR K ⟨c',t⟩ S' H/\Br K ⟨c',t⟩ H (.ref a) d/\c <+: c'/\(∀b∈c',b∈c\/b=a):=by
 have nc:a∉c:=r.nt a sZ
 cases cf with
 |false=>
  cases ef
  have s1:Sp1 ⟨c,a::t⟩ H ⟨c,t⟩ H:=⟨r.mo,uV,λb z=>.inl (z.imp id (sQ _)),λ_ _ e _=>e⟩
  refine⟨c,⟨λb z=>r.mo b (z.imp id (sQ _)),r.nd,λb hb=>r.nt b (sQ _ hb),r.len,λn b cl h1 h2=>?_⟩,.lst e (λz=>z.elim nc nt) (rr.step s1),uV,λb z=>.inl z⟩
  exact(r.cell n b cl h1 h2).step s1 λo e=>e
 |true=>
  cases ef
  have s1:Sp1 ⟨c,a::t⟩ H ⟨c++[a],t⟩ H:=⟨r.mo,wO _ _,λb z=>by
   rcases z with z|z
   .rcases sx.mp z with z|z
    .exact .inl (.inl z)
    .exact .inl (.inr (by rw[tJ.mp z];exact sZ))
   .exact .inl (.inr (sQ _ z)),λ_ _ e _=>e⟩
  have hl:c.length=S.length:=r.len
  refine⟨c++[a],⟨λb z=>?_,?_,λb hb z=>?_,by simp[hl],λn b cl h1 h2=>?_⟩,.ref ?_,wO _ _,λb z=>?_⟩
  .refine r.mo b ?_
   rcases z with z|z
   .rcases sx.mp z with z|z
    .exact .inl z
    .exact .inr (by rw[tJ.mp z];exact sZ)
   .exact .inr (sQ _ z)
  .rw[xo]
   refine⟨r.nd,by simp,λx hx y hy z=>?_⟩
   simp at hy;subst hy
   exact nc (by rw[<-z];exact hx)
  .rcases sx.mp z with z|z
   .exact r.nt b (sQ _ hb) z
   .rw[tJ.mp z]at hb;exact nt hb
  .by_cases h:n<S.length
   .rw[sH (by rw[hl];exact h)]at h1
    rw[sH h]at h2
    exact(r.cell n b cl h1 h2).step s1 λo e=>e
   .have hm:n=S.length:=by
     have:=(sO.mp h2).1
     simp at this;lia
    subst hm
    rw[uB (by rw[hl];exact sM _)]at h1
    rw[uB (sM _)]at h2
    rw[hl]at h1
    simp at h1 h2
    subst h1 h2
    exact⟨xs,e,rr.step s1⟩
  .rw[<-hl];exact sV
  .rcases sx.mp z with z|z
   .exact .inl z
   .exact .inr (tJ.mp z)
end
open Classical in
def Bo(gs:Gd)(t:Tf)(c:Ev)(f:Ev):Gc D->Gc D->En->Sto->sD (Gc D×Sto)
 | [],acc,_,S=>if gOk gs S then Fk (acc,S)else none
 |d::ds,acc,E,S=>if gOk gs S then(if acc.length<sizeLine then(t d E S).bind λE1=>(c E1 S).bind λr=>match r.1 with
   | .bl true=>(f E1 r.2).bind λp=>Bo gs t c f ds (acc++[p.1]) E1 p.2
   | .bl false=>Bo gs t c f ds acc E1 r.2
   |_=>none
  else none)else none
noncomputable def BK:Ev:=λ_ S=>Fk (.bl true,S)
noncomputable def MS(cap:Gc Nat)(m:Nat)(E:En):En:=cap.map (at? E)++sS m none
def Mc(cf:tV)(cap:Gc Nat)(m:Nat)(s:Sr)(t:Tf)(c:Ev)(f:Ev):Ev:=λE S=>(s E S).bind λr=>(Bo r.1.2 t c f r.1.1 [] (MS cap m E) r.2).bind λq=>fin cf (.own q.1) q.2
noncomputable abbrev Bg:=Mc false
noncomputable abbrev OY:=Mc true
noncomputable def ixC(cap:Gc Nat)(m:Nat):Gc (sD Nat):=cap.map Fk++sS m none
theorem EnR.cap{K:Wp}{M:Ms}{E:En}{σ:Sg}{H:Hp}(r:EnR K M E σ H)(cap:Gc Nat)(m:Nat):EnR K M (MS cap m E) (sig (ixC cap m) σ) H:=by
 unfold MS sig ixC
 refine⟨by simp,λi d e=>?_⟩
 have h1:=Vp e
 rw[sP]at h1
 cases e1:cap[i]? with
 |none=>rw[e1]at h1;cases h1
 |some j=>
  rw[e1]at h1
  have h2:at? E j=Fk d:=by simpa using h1
  obtain⟨v,hv,rd⟩:=r.val j d (at?_some h2)
  refine⟨v,?_,rd⟩
  have hi:i<cap.length:=(sO.mp e1).1
  rw[uA,sH (by simpa using hi),sP,sP,e1]
  show Fk ((σ[j]?).join)=Fk (Fk v)
  rw[hv]
  rfl
theorem UA{K:Wp}{cf:tV}{cap:Gc Nat}{m:Nat}{s:Sr}{t:Tf}{c f:Ev}{σ:Sg}{H:Hp}{Q:VK}(h:tD K (Mc cf cap m s t c f) σ H Q):Zl (ixC cap m) (tI K s) (tG K t) (tDT K c) (tD K f) σ H Q:=by
 obtain⟨M,E,S,d,S',e,r,st,q⟩:=h
 obtain⟨⟨⟨ds,gs⟩,S1⟩,e1,e⟩:=As e
 obtain⟨⟨accf,Sf⟩,e3,e⟩:=As e
 dsimp only at e e3
 refine⟨M,E,S,ds,gs,S1,e1,r,st,λJ H1 M1 g1 st1 it A0 hD=>?_⟩
 obtain⟨st0,gx0,s0⟩:=st1.fR hD
 have nt:A0∉M1.tmp:=λz=>st1.mo.some (.inr z) hD
 refine⟨λi mm σ' H' ys=>mm=ds.length-i/\∃Ei Si Mi acc,Bo gs t c f (ds.drop i) acc Ei Si=Fk (accf,Sf)/\GrX M1 H1 Mi H'/\Mi.tmp=A0::M1.tmp/\EnR K Mi Ei σ' H'/\StR K Mi Si H'/\H' A0=Fk (.lst ys)/\Aj K Mi H' ys acc,
  ⟨_,rfl,_,S1,_,[],e3,gx0,rfl,((r.step g1.st).step s0).cap cap m,st0,Av,.nil⟩,λi mm σ2 H2 ys hW=>?_⟩
 obtain⟨rfl,Ei,Si,Mi,acc,ec,gx,ht,r2,st2,hy,ry⟩:=hW
 have sp:Sp1 M1 H1 Mi H2:=⟨st1.mo,gx.pre,λa z=>by
  rcases z with z|z
  .exact(gx.fresh a z).imp .inl id
  .rw[ht]at z
   rcases sN.mp z with z|z
   .subst z;exact .inr hD
   .exact .inl (.inr z),λa o eo no=>gx.keep a o eo λz=>no (.inl z)⟩
 refine⟨hy,?_⟩
 cases ed:ds.drop i with
 |nil=>
  rw[ed]at ec
  unfold Bo at ec
  split at ec
  .rename_i ok
   cases ec
   left
   obtain⟨ci,ti⟩:=Mi
   have ht':ti=A0::M1.tmp:=ht
   subst ht'
   obtain⟨c',st',rd',pr',sub'⟩:=st2.cn nt hy ry e
   refine⟨it.stop i H2 _ _ sp st2 ok (AAG.mp ed),q _ _ ⟨c',M1.tmp⟩ (g1.trans ⟨st1.mo,gx.pre.trans pr',rfl,λa z=>?_,gx.keep,gx.some⟩) st' rd'⟩
   rcases sub' a z with z|z
   .exact gx.fresh a z
   .subst z;exact .inr hD
  .cases ec
 |cons d rest=>
  obtain⟨d1,d2,d3⟩:=O8 ed
  rw[ed]at ec
  unfold Bo at ec
  split at ec
  .rename_i ok
   split at ec
   .rename_i hz
    obtain⟨E3,e4,ec⟩:=As ec
    obtain⟨⟨w5,S5⟩,e5,ec⟩:=As ec
    right
    refine⟨it.go i H2 Mi Si sp st2 ok d3,by rw[ry.length];exact hz,λx H3 hyl=>?_⟩
    obtain⟨k3,rx⟩:=it.yld i H2 Mi Si x H3 d sp st2 ok d1 hyl
    have g3:Gr Mi H2 Mi H3:=.grow st2.mo k3
    have st3:=st2.grow k3
    refine⟨Mi,d,Ei,E3,Si,e4,r2.step g3.st,st3,rx,λσ4 r4=>?_⟩
    have hA:A0∈Mi.tmp:=by rw[ht];exact sZ
    have hy3:H3 A0=Fk (.lst ys):=k3 _ _ hy
    have ry3:Aj K Mi H3 ys acc:=ry.step g3.st
    have fin:∀{E6:En} {S6:Sto} {M6:Ms} {H6:Hp} {zs:Gc V} {acc6:Gc D},Bo gs t c f rest acc6 E6 S6=Fk (accf,Sf)->GrX M1 H1 M6 H6->M6.tmp=A0::M1.tmp->EnR K M6 E6 σ4 H6->StR K M6 S6 H6->H6 A0=Fk (.lst zs)->Aj K M6 H6 zs acc6->
      ∃m',m'<ds.length-i/\(m'=ds.length-(i+1)/\∃Ei Si Mi acc,Bo gs t c f (ds.drop (i+1)) acc Ei Si=Fk (accf,Sf)/\GrX M1 H1 Mi H6/\Mi.tmp=A0::M1.tmp/\EnR K Mi Ei σ4 H6/\StR K Mi Si H6/\H6 A0=Fk (.lst zs)/\Aj K Mi H6 zs acc):=
     λ{E6 S6 M6 H6 zs acc6} ec g6 t6 r6 st6 h6 y6=>⟨_,by lia,rfl,E6,S6,M6,acc6,by rw[d2];exact ec,g6,t6,r6,st6,h6,y6⟩
    dsimp only at ec
    split at ec
    .obtain⟨⟨w7,S7⟩,e7,ec⟩:=As ec
     refine⟨Mi,E3,Si,true,S5,e5,r4,st3,λH5 M5 g5 st5=>?_⟩
     refine bT ?_
     refine⟨M5,E3,S5,w7,S7,e7,r4.step g5.st,st5,λy H7 M7 g7 st7 d7=>?_⟩
     have nA:∀{M6:Ms} {H6:Hp} {S6:Sto},StR K M6 S6 H6->A0∈M6.tmp->A0∉M6.cel:=λr6 h6=>r6.nt A0 h6
     have hA5:A0∈M5.tmp:=by rw[g5.tmp];exact hA
     have hA7:A0∈M7.tmp:=by rw[g7.tmp];exact hA5
     have hy5:H5 A0=Fk (.lst ys):=g5.keep _ _ hy3 (nA st3 hA)
     have hy7:H7 A0=Fk (.lst ys):=g7.keep _ _ hy5 (nA st5 hA5)
     have ry7:Aj K M7 H7 ys acc:=(ry3.step g5.st).step g7.st
     refine⟨hy7,?_⟩
     obtain⟨st8,s8⟩:=st7.ZO (ys:=ys++[y]) hA7
     have gx7:GrX M1 H1 M7 H7:=((gx.trans g3.x).trans g5.x).trans g7.x
     have gx8:GrX M1 H1 M7 (upd H7 A0 (.lst (ys++[y]))):=⟨gx7.pre,gx7.fresh,λa o eo no=>by
      rw[Ad (λz=>by subst z;rw[hD]at eo;cases eo)]
      exact gx7.keep a o eo no,λa ea=>by
      by_cases h:a=A0
      .subst h;rw[Av];intro z;cases z
      .rw[Ad h];exact gx7.some a ea⟩
     exact fin ec gx8 (by rw[g7.tmp,g5.tmp];exact ht) (((r4.step g5.st).step g7.st).step s8) st8 Av ((ry7.append (.cons d7 .nil)).step s8)
    .refine⟨Mi,E3,Si,false,S5,e5,r4,st3,λH5 M5 g5 st5=>?_⟩
     refine bQ ?_
     exact fin ec ((gx.trans g3.x).trans g5.x) (by rw[g5.tmp];exact ht) (r4.step g5.st) st5 (g5.keep _ _ hy3 (st3.nt A0 hA)) (ry3.step g5.st)
    .cases ec
   .cases ec
  .cases ec
structure DTs(X:Cx)(ifs:Gc sk)(c:Ev):Prop where
 pe:PTs X ifs (tDT X.K c)
theorem Xl{X:Cx}{e:Gc sk}{t t':TT}(h:PTs X e t)(m:∀σ H Q,t' σ H Q->t σ H Q):PTs X e t':=λpins s σ H Q I q=>h pins s σ H Q I (m _ _ _ q)
theorem WG{X:Cx}:DTs X [] BK:=⟨Xl bZ λσ H Q z=>by
 obtain⟨M,E,S,b,S',e,r,st,q⟩:=z
 cases e
 exact q _ M (.refl st.mo) st⟩
theorem bD{X:Cx}{c:sk}{f:Ev}(h:DT X c f):DTs X [c] f:=⟨bO h.pe⟩
section
variable{X:Cx}{N':Gc Str}{cf:tV}{cap:Gc Nat}{m:Nat}{scope:uZ}{elt tg iter:sk}{ifs:Gc sk}{pos:Pos}{s:Sr}{t:Tf}{c f:Ev}
def Blk(X:Cx)(N':Gc Str)(scope:uZ)(tg:sk)(ifs:Gc sk)(elt:sk)(t:Tf)(c f:Ev):Prop:=
 ∀(s:sE) (H:Hp) (fp:Gc sF),DG (HQ X N' scope s H fp) tg t/\DTs (HQ X N' scope s H fp) ifs c/\DE (HQ X N' scope s H fp) elt f
theorem Uj(cap:Gc Nat)(m:Nat)(N':Gc Str)(hc:X.calm=true)(S:AO X.N X.env.scope N' (ixC cap m) scope)(hi:DI X tg iter s)(hb:Blk X N' scope tg ifs elt t c f)(hs:∀x,foldedSetIterable iter X.env x=pure x:=by intro _;rfl):DE X (.ListComp elt [⟨tg,iter,ifs,0⟩] scope pos) (Mc cf cap m s t c f):=⟨
 Bv (aI (g:=tG X.K t) (tc:=tDT X.K c) (te:=tD X.K f) hc S hi.pe (λs H fp=>⟨(hb s H fp).1.pe,(hb s H fp).2.1.pe,(hb s H fp).2.2.pe⟩) hs) λ_ _ _ h=>UA h⟩
theorem RT{i:Nat}{y:Str}{py spos:Pos}(cap:Gc Nat)(m:Nat)(N':Gc Str)(hc:X.calm=true)(hN:X.N.Nodup)(hi':X.N[i]?=Fk y)(hx:X.env.scope.names.lookup y=Fk .local)(S:AO X.N X.env.scope N' (ixC cap m) scope)(hi:DI X tg iter s)(hb:Blk X N' scope tg ifs elt t c f)(hsw:swapsWith (.ListComp elt [⟨tg,iter,ifs,0⟩] scope pos) (Fk (.Name y py)) spos.line X.env=pure true:=by rfl)(hs:∀x,foldedSetIterable iter X.env x=pure x:=by intro _;rfl):DS X (.Assign [.Name y py] (.ListComp elt [⟨tg,iter,ifs,0⟩] scope pos) spos) (A8 i (Mc cf cap m s t c f)):=⟨
 F7 (Ra (g:=tG X.K t) (tc:=tDT X.K c) (te:=tD X.K f) hc hN hi' hx S hi.pe (λs H fp=>⟨(hb s H fp).1.pe,(hb s H fp).2.1.pe,(hb s H fp).2.2.pe⟩) hsw hs) λDn σ H z=>by
  obtain⟨M,E,S,fl,E',S',e,r,st,q⟩:=z
  obtain⟨⟨d,S1⟩,e1,e⟩:=JE e
  cases e
  exact UA ⟨M,E,S,d,S1,e1,r,st,λv H1 M1 g1 st1 r1=>q _ _ M1 g1 ((r.step g1.st).put r1) st1⟩⟩
end
noncomputable def Kc{α:Type}(xs:Gc α)(lo hi:sD Int):Gc α:=(xs.drop (HT.sIx xs.length 0 lo)).take (HT.sIx xs.length xs.length hi-HT.sIx xs.length 0 lo)
theorem UX{K:Wp}{M:Ms}{H:Hp}{xs:Gc V}{ds:Gc D}(h:Aj K M H xs ds)(lo hi:sD Int):Aj K M H (Yd xs lo hi) (Kc ds lo hi):=by
 unfold Yd Kc
 rw[h.length]
 exact(h.drop _).take _
theorem V9{α:Type}{xs:Gc α}{lo hi:sD Int}(h1:HT.sIx xs.length 0 lo=0)(h2:HT.sIx xs.length xs.length hi=xs.length):Kc xs lo hi=xs:=by
 unfold Kc
 rw[h1,h2]
 simp
noncomputable def wSl(lo hi:sD Int):Op1:=λw=>match w with
 | .val (.tup ds)=>Fk (.val (.tup (Kc ds lo hi)))
 | .val (.str z)=>if z.length<=sizeLine then Fk (.val (.str (Txt.slice z lo hi)))else none
 |w=>(asL w).map λds=>.own (Kc ds lo hi)
def qQ(K:Wp):V->sD Int->sD Int->Hp->VK->Prop:=λx lo hi H Q=>∃M w r,wSl lo hi w=Fk r/\MOk M H/\Sh K M H x w/\∀v H',Nw K M H H' v r->Q v H'
theorem gQ{X:Cx}:SlR X (λx lo hi H Q=>∃z,x=.str z/\z.length<=sizeLine/\Q (.str (Txt.slice z lo hi)) H):=by
 intro pins s σ H x v vl vu lo hi sl Q I rx hs pl pu h
 obtain⟨z,rfl,hz,q⟩:=h
 obtain⟨t,rfl⟩:=rx
 have fin:∀t' k,EP X pins σ Q (.str (Txt.slice z lo hi) t') {s with toks:=k}:=λt' k=>⟨.str _,H,I.tok k,⟨t',rfl⟩,q⟩
 cases pl with
 |none=>
  cases pu with
  |none=>exact⟨"str",_,wB.lookup,zW _ _ _,wJ (l:=none) (u:=none) (st:=none) hs rfl (yU ⟨sL (za z _ _) hz,fin⟩)⟩
  |int j u=>exact⟨"str",_,wB.lookup,zW _ _ _,wJ (l:=none) (u:=Fk (j,u)) (st:=none) hs rfl (yU ⟨sL (za z _ _) hz,fin⟩)⟩
 |int i u'=>
  cases pu with
  |none=>exact⟨"str",_,wB.lookup,zW _ _ _,wJ (l:=Fk (i,u')) (u:=none) (st:=none) hs rfl (yU ⟨sL (za z _ _) hz,fin⟩)⟩
  |int j u=>exact⟨"str",_,wB.lookup,zW _ _ _,wJ (l:=Fk (i,u')) (u:=Fk (j,u)) (st:=none) hs rfl (yU ⟨sL (za z _ _) hz,fin⟩)⟩
theorem lR{X:Cx}:SlR X (qQ X.K):=by
 intro pins s σ H x v vl vu lo hi sl Q I rx hs pl pu h
 obtain⟨M,w,r,e,mo,sh,q⟩:=h
 unfold wSl at e
 split at e
 .rename_i ds
  cases e
  cases sh with
  |tup hx rr=>
   rename_i a xs
   have hl:=rr.length
   by_cases hw:HT.sIx xs.length 0 lo=0/\HT.sIx xs.length xs.length hi=xs.length
   .refine St.dR pins s σ H _ v vl vu lo hi sl Q I rx hs pl pu ⟨a,xs,rfl,hx,hw.1,hw.2,?_⟩
    have ew:Kc ds lo hi=ds:=V9 (by rw[<-hl];exact hw.1) (by rw[<-hl];exact hw.2)
    rw[ew]at q
    exact q _ _ (.same mo (.tup hx rr))
   .exact gi pins s σ H _ v vl vu lo hi sl Q I rx hs pl pu ⟨a,xs,rfl,hx,hw,λp hp=>q _ _ (.tup mo hp (UX rr lo hi))⟩
 .split at e
  .cases e
   cases sh
   exact gQ pins s σ H _ v vl vu lo hi sl Q I rx hs pl pu ⟨_,rfl,by assumption,q _ _ (.same mo (.str _))⟩
  .cases e
 .cases e1:asL w with
  |none=>rw[e1]at e;cases e
  |some ds=>
   rw[e1]at e
   cases e
   obtain⟨a,xs,rfl,h1,rr⟩:=sh.l e1
   exact aB pins s σ H _ v vl vu lo hi sl Q I rx hs pl pu ⟨a,xs,rfl,.of h1,λp hp=>q _ _ (.lst mo hp (UX rr lo hi))⟩
noncomputable def cy:Wv->sD Int
 | .val (.int i)=>Fk i
 |_=>none
noncomputable def KY(l h:tV):OpN:=λws=>match l,h,ws with
 |false,false,[a]=>wSl none none a
 |true,false,[a,b]=>(cy b).bind λi=>wSl (Fk i) none a
 |false,true,[a,b]=>(cy b).bind λi=>wSl none (Fk i) a
 |true,true,[a,b,c]=>(cy b).bind λi=>(cy c).bind λj=>wSl (Fk i) (Fk j) a
 |_,_,_=>none
theorem VC{K:Wp}{M:Ms}{H:Hp}{v:V}{w:Wv}{i:Int}(s:Sh K M H v w)(e:cy w=Fk i):v=.int i:=by
 cases w with
 |own ds=>cases e
 |val d=>
  cases d<;>first|(cases e;done)|skip
  cases e;cases s;rfl
section
variable{X:Cx}{e lo hi:sk}{oe ol oh:Ev}{c:tV}{pos p2:Pos}
theorem m9(h:DE X e oe)(hl:DE X lo ol):DE X (.Subscript e (.Slice (Fk lo) none none p2) pos) (N1 c (KY true false) [oe,ol]):=⟨Bv (Nv lR h.pe (NF hl.pe) Ti) λσ H Q z=>by
 obtain⟨M0,E,S0,w,S1,e,r,st,q⟩:=z
 have z:tD X.K oe σ H λx H1=>tD X.K ol σ H1 λy H2=>rN X.K (KY true false) [x,y] H2 Q:=MT (Q:=Q) e r st q
 refine G6 z λx H1 z1=>G6 z1 λy H2 z2=>?_
 obtain⟨M,ws,w',e1,mo,sh,q1⟩:=z2
 cases sh with
 |cons h1 t=>
  cases t with
  |cons h2 t=>
   cases t
   obtain⟨i,ei,e1⟩:=As e1
   exact⟨i,VC h2 ei,M,_,w',e1,mo,h1,q1⟩⟩
theorem kZ(h:DE X e oe)(hh:DE X hi oh):DE X (.Subscript e (.Slice none (Fk hi) none p2) pos) (N1 c (KY false true) [oe,oh]):=⟨Bv (Nv lR h.pe Ti (NF hh.pe)) λσ H Q z=>by
 obtain⟨M0,E,S0,w,S1,e,r,st,q⟩:=z
 have z:tD X.K oe σ H λx H1=>tD X.K oh σ H1 λy H2=>rN X.K (KY false true) [x,y] H2 Q:=MT (Q:=Q) e r st q
 refine G6 z λx H1 z1=>G6 z1 λy H2 z2=>?_
 obtain⟨M,ws,w',e1,mo,sh,q1⟩:=z2
 cases sh with
 |cons h1 t=>
  cases t with
  |cons h2 t=>
   cases t
   obtain⟨i,ei,e1⟩:=As e1
   exact⟨i,VC h2 ei,M,_,w',e1,mo,h1,q1⟩⟩
theorem Vq{K:Wp}{M:Ms}{H:Hp}{S:Sto}{v:V}{d:D}{i:Int}(r:Br K M H v d)(e:cy (dr S d)=Fk i):v=.int i:=by
 cases r<;>first|(cases e;done)|skip
 .cases e;rfl
 .rename_i n h
  unfold dr at e
  dsimp only at e
  split at e<;>cases e
theorem lE(h:DE X e oe)(hl:DE X lo ol)(hh:DE X hi oh):DE X (.Subscript e (.Slice (Fk lo) (Fk hi) none p2) pos) (N1 c (KY true true) [oe,ol,oh]):=⟨Bv (Nv lR h.pe (NF hl.pe) (NF hh.pe)) λσ H Q z=>by
 obtain⟨M0,E,S0,w,S1,e,r,st,q⟩:=z
 obtain⟨⟨ds,S2⟩,e1,e⟩:=As e
 obtain⟨w2,e2,e⟩:=As e
 obtain⟨⟨d1,Sa⟩,ea,e1⟩:=As e1
 obtain⟨⟨ds1,Sb⟩,eb,e1⟩:=JE e1
 cases e1
 obtain⟨⟨d2,Sc⟩,ec,eb⟩:=As eb
 obtain⟨⟨ds2,Sd⟩,ed,eb⟩:=JE eb
 cases eb
 obtain⟨⟨d3,Se⟩,ee,ed⟩:=As ed
 obtain⟨⟨ds3,Sf⟩,ef,ed⟩:=JE ed
 cases ed
 cases ef
 obtain⟨i,ei,e2⟩:=As e2
 obtain⟨j,ej,e2⟩:=As e2
 refine⟨M0,E,S0,d1,Sa,ea,r,st,λx H1 M1 g1 st1 r1=>?_⟩
 refine⟨M1,E,Sa,d2,Sc,ec,r.step g1.st,st1,λy H2 M2 g2 st2 r2=>⟨i,?_,?_⟩⟩
 .exact Vq r2 ei
 refine⟨M2,E,Sc,d3,Se,ee,(r.step g1.st).step g2.st,st2,λu H3 M3 g3 st3 r3=>⟨j,?_,?_⟩⟩
 .exact Vq r3 ej
 refine⟨M3,_,w2,e2,st3.mo,ck st3 ((r1.step g2.st).step g3.st),λv H4 n=>?_⟩
 obtain⟨M4,g4,st4,d4⟩:=n.fin st3 e
 exact q v H4 M4 (((g1.trans g2).trans g3).trans g4) st4 d4⟩
structure WM(K:Wp)(mg:Str->sD W1)(x:Str)(d:D):Prop where
 ex:∃v u,mg x=Fk u/\RelV v u/\∀M H,Br K M H v d
theorem l9{x:Str}{d:D}(c:WM X.K X.mg x d)(hg:Gl X x)(hd:(x==("__debug__":Str))=false:=by decide):DE X (.Name x pos) (eC d):=⟨by
 obtain⟨v,u,h1,h2,h3⟩:=c.ex
 exact Bv (bW hg h1 h2 hd) λσ H Q z=>by
  obtain⟨M0,E,S0,w,S1,e,rr,st,q⟩:=z
  cases e
  exact q _ _ M0 (.refl st.mo) st (h3 _ _)⟩
theorem W5{x:Str}{T:ug}(hg:Gl X x)(hm:X.mg x=none)(hv:bootBuiltins x=Fk (.type T))(hn:x≠ "__name__":=by decide)(hd:(x==("__debug__":Str))=false:=by decide):DE X (.Name x pos) (eC (.ty T)):=
 Ol (bF (v:=.ty T) hg hm hv rfl hn hd) λ_ _ _=>.ty T
structure rL(K:Wp)(w:tu)(mg:Str->sD W1)(x:Str)(tbl:Gc (Str×D)):Prop where
 ex:∃a kvs,mg x=Fk (.ref a)/\TopD K w a kvs/\∀k,(tbl.lookup k=none->kvs.lookup k=none)/\∀d,tbl.lookup k=Fk d->∃v,kvs.lookup k=Fk v/\∀M H,Br K M H v d
end
noncomputable def JV:Nat->Gc D->Gc D
 |_,[]=>[]
 |k,d::ds=>.tup [.int k,d]::JV (k+1) ds
theorem Hz:∀{ds:Gc D} {k i:Nat},(JV k ds)[i]?=(ds[i]?).map λd=>.tup [.int ((k+i:Nat):Int),d]
 | [],k,i=>by simp[JV]
 |d::ds,k,0=>by simp[JV]
 |d::ds,k,i+1=>by
  simp only[JV,List.getElem?_cons_succ]
  rw[Hz,show k+1+i=k+(i+1) by lia]
theorem NH:∀{ds:Gc D} {k:Nat},(JV k ds).length=ds.length
 | [],k=>rfl
 |d::ds,k=>by simp[JV,NH (ds:=ds)]
theorem SqF.sqB{K:Wp}{M:Ms}{H:Hp}{gs:Gd}{k:tV}{a:sF}{ds:Gc D}(h:SqF K M H gs k a ds){H2:Hp}{M2:Ms}{S2:Sto}(g:Sp1 M H M2 H2)(st:StR K M2 S2 H2)(ok:gOk gs S2):∃xs,SqB K H2 k a xs/\Aj K M2 H2 xs ds:=by
 obtain⟨xs,h1,h2⟩:=h.keep H2 M2 S2 g st ok
 refine⟨xs,?_,h2⟩
 cases k with
 |true=>exact h1
 |false=>exact h1
theorem fJ{K:Wp}{M:Ms}{H:Hp}{gs:Gd}{k:tV}{a:sF}{ds:Gc D}(h:SqF K M H gs k a ds):eY K M H gs (JV 0 ds) (ItE K k a) where
 go:=λi H2 M2 S2 g st ok hi=>by
  rw[NH]at hi
  obtain⟨xs,h1,h2⟩:=h.sqB g st ok
  obtain⟨x,hx⟩:=h2.get' hi
  exact⟨xs,x,h1,hx⟩
 stop:=λi H2 M2 S2 g st ok hi=>by
  rw[NH]at hi
  obtain⟨xs,h1,h2⟩:=h.sqB g st ok
  exact⟨xs,h1,by have:=h2.length;lia⟩
 yld:=λi H2 M2 S2 x H3 d g st ok hd hy=>by
  obtain⟨xs,h1,h2⟩:=h.sqB g st ok
  obtain⟨p,y,hp,rfl,hy,rfl⟩:=hy
  have hx:=hy xs h1
  rw[Hz]at hd
  obtain⟨d0,e,hd⟩:=JE hd
  subst hd
  obtain⟨x',h3,h4⟩:=h2.get e
  rw[hx]at h3;cases h3
  have k3:=EY (o:=.tup [.int i,y]) hp
  refine⟨k3,.tup (.of Av) (.cons ?_ (.cons (h4.step (Gr.grow st.mo k3).st) .nil))⟩
  rw[zc]
  exact .int _
noncomputable def YI(f:Ev):Sr:=λE S=>(f E S).bind λr=>(sqD r.2 r.1).map λp=>((JV 0 p.1,p.2),r.2)
theorem gL{X:Cx}{a:sk}{f:Ev}{p pos tp:Pos}{elts:Gc sk}{k:Nat}(hg:Gl X "enumerate")(hm:X.mg "enumerate"=none)(ha:DE X a f)(hs:sf [a] X.env=[(false,eval a X.env)]:=by rfl):DI X (.Tuple elts k tp) (.Call (.Name "enumerate" p) [a] [] pos) (YI f):=⟨
 NV (Wx hg hm (J2 ha.pe Qm (by rw[hs];rfl)) hs) λσ H R z=>by
  obtain⟨M,E,S,ds,gs,S',e,r,st,q⟩:=z
  obtain⟨⟨d,S1⟩,e1,e⟩:=As e
  obtain⟨⟨ds',gs'⟩,e2,e⟩:=JE e
  cases e
  refine⟨M,E,S,d,S1,e1,r,st,λv H1 M1 g1 st1 r1=>?_⟩
  obtain⟨k,a,rfl,sq⟩:=Q4 st1 r1 e2
  obtain⟨xs,hs,_⟩:=sq.sqB (Gr.refl st1.mo).st st1 (Np e2)
  exact⟨k,a,rfl,⟨xs,hs⟩,q _ _ M1 g1 st1 (fJ sq)⟩⟩
noncomputable def Ly(ds es:Gc D):Gc D:=(ds.zip es).map λp=>.tup [p.1,p.2]
theorem YQ{ds es:Gc D}{i:Nat}{d:D}(h:(Ly ds es)[i]?=Fk d):∃x y,ds[i]?=Fk x/\es[i]?=Fk y/\d=.tup [x,y]:=by
 unfold Ly at h
 simp only[sP,Option.map_eq_some_iff]at h
 obtain⟨⟨x,y⟩,h1,h2⟩:=h
 rw[xC]at h1
 exact⟨x,y,h1.1,h1.2,h2.symm⟩
theorem Kk{ds es:Gc D}:(Ly ds es).length=min ds.length es.length:=by simp[Ly]
theorem SqF.more{K:Wp}{M:Ms}{H:Hp}{gs gs':Gd}{k:tV}{a:sF}{ds:Gc D}(h:SqF K M H gs k a ds)(s:∀g∈gs,g∈gs'):SqF K M H gs' k a ds:=⟨λH2 M2 S2 g st ok=>h.keep H2 M2 S2 g st λx hx=>ok x (s x hx)⟩
theorem dP{K:Wp}{M:Ms}{H:Hp}{gs:Gd}{k m:tV}{a b:sF}{ds es:Gc D}(h:SqF K M H gs k a ds)(h':SqF K M H gs m b es):eY K M H gs (Ly ds es) (Itz K k a m b) where
 go:=λi H2 M2 S2 g st ok hi=>by
  rw[Kk]at hi
  obtain⟨xs,h1,r⟩:=h.sqB g st ok
  obtain⟨ys,h2,r'⟩:=h'.sqB g st ok
  obtain⟨x,hx⟩:=r.get' (show i<ds.length by lia)
  obtain⟨y,hy⟩:=r'.get' (show i<es.length by lia)
  exact⟨xs,ys,x,y,h1,h2,hx,hy⟩
 stop:=λi H2 M2 S2 g st ok hi=>by
  rw[Kk]at hi
  obtain⟨xs,h1,r⟩:=h.sqB g st ok
  obtain⟨ys,h2,r'⟩:=h'.sqB g st ok
  have:=r.length
  have:=r'.length
  exact⟨xs,ys,h1,h2,by lia⟩
 yld:=λi H2 M2 S2 x H3 d g st ok hd hy=>by
  obtain⟨xs,h1,r⟩:=h.sqB g st ok
  obtain⟨ys,h2,r'⟩:=h'.sqB g st ok
  obtain⟨p,x1,y1,hp,rfl,q1,q2,rfl⟩:=hy
  obtain⟨d1,d2,e1,e2,rfl⟩:=YQ hd
  have hx:=q1 xs h1
  have hy:=q2 ys h2
  obtain⟨x',h3,h4⟩:=r.get e1
  obtain⟨y',h5,h6⟩:=r'.get e2
  rw[hx]at h3;cases h3
  rw[hy]at h5;cases h5
  have k3:=EY (o:=.tup [x1,y1]) hp
  exact⟨k3,.tup (.of Av) (.cons (h4.step (Gr.grow st.mo k3).st) (.cons (h6.step (Gr.grow st.mo k3).st) .nil))⟩
noncomputable def YH(f g:Ev):Sr:=λE S=>(evs [f,g] E S).bind λr=>match r.1 with
 | [d,e]=>(sqD r.2 d).bind λp=>(sqD r.2 e).map λq=>((Ly p.1 q.1,p.2++q.2),r.2)
 |_=>none
theorem nX{X:Cx}{a b:sk}{f g:Ev}{p pos tp:Pos}{elts:Gc sk}{k:Nat}(hg:Gl X "zip")(hm:X.mg "zip"=none)(ha:DE X a f)(hb:DE X b g)(hs:sf [a,b] X.env=[(false,eval a X.env),(false,eval b X.env)]:=by rfl)(hs2:sf [b] X.env=[(false,eval b X.env)]:=by rfl):DI X (.Tuple elts k tp) (.Call (.Name "zip" p) [a,b] [] pos) (YH f g):=⟨
 NV (eQ hg hm (AE ha (AE hb AV hs2) (by rw[hs,hs2])).pe hs hs2) λσ H R z=>by
  obtain⟨M,E,S,ds,gs,S',e,r,st,q⟩:=z
  obtain⟨⟨ws,S1⟩,e1,e⟩:=As e
  refine Fs (fs:=[f,g]) e1 r st λvs H1 M1 g1 st1 r1=>?_
  dsimp only at e
  split at e
  .obtain⟨⟨ds1,gs1⟩,eu,e⟩:=As e
   obtain⟨⟨ds2,gs2⟩,ee,e⟩:=JE e
   cases e
   cases r1 with
   |cons h1 t=>
    cases t with
    |cons h2 t=>
     cases t
     obtain⟨k1,a1,rfl,s1⟩:=Q4 st1 h1 eu
     obtain⟨k2,a2,rfl,s2⟩:=Q4 st1 h2 ee
     obtain⟨xs,hxs,_⟩:=s1.sqB (Gr.refl st1.mo).st st1 (Np eu)
     obtain⟨ys,hys,_⟩:=s2.sqB (Gr.refl st1.mo).st st1 (Np ee)
     exact⟨_,_,_,_,rfl,⟨_,hxs⟩,⟨_,hys⟩,q _ _ M1 g1 st1 (dP (s1.more λx hx=>yK _ hx) (s2.more λx hx=>uJ _ hx))⟩
  .cases e⟩
noncomputable def intD:D->sD Int
 | .int i=>Fk i
 |_=>none
noncomputable def IJ(ds:Gc D):sD (Gc Int):=ds.mapM intD
theorem JU{K:Wp}{M:Ms}{H:Hp}:∀{vs:Gc V} {ds:Gc D} {ns:Gc Int},Aj K M H vs ds->IJ ds=Fk ns->vs=ns.map V.int
 |_,_,ns,.nil,e=>by cases e;rfl
 |_,_,ns,.cons (d:=d) (ds:=ds) h t,e=>by
  unfold IJ at e
  rw[AAF]at e
  cases e1:intD d with
  |none=>rw[e1]at e;cases e
  |some b=>
   rw[e1]at e
   cases e2:ds.mapM intD with
   |none=>rw[e2]at e;cases e
   |some cs=>
    rw[e2]at e
    cases e
    have hd:d=.int b:=by
     cases d<;>first|(cases e1;done)|skip
     cases e1;rfl
    subst hd
    cases h
    rw[su,<-JU t e2]
theorem Tt{X:Cx}(hc:X.calm=true):El X (.builtin "sum") (λxs H Q=>∃(p:sF) (ns:Gc Int),xs=[.ref p]/\SqL X.K H p (ns.map V.int)/\Q (.int ns.sum) H):=by
 intro pins s σ H xs us Q I r h
 obtain⟨p,ns,rfl,hp,q⟩:=h
 obtain⟨u,rfl,ru⟩:=r.one
 cases (show u=tw p from ru)
 obtain⟨its,rv,pl,hz⟩:=I.list hp
 have hd:X.A.in1.handled=none:=I.ok.hd hc
 refine call_sum_walkG (uy pl.isList ?_)
 have hlen:ns.length=its.length:=by have:=rv.length;simpa using this
 have hpl:=pl.isList
 have hlt:p<s.heap.objs.size:=by
  obtain⟨o,ho,_⟩:=hpl
  exact sW ho
 refine⟨s.heap.objs.size,_,_,its.length,_,_,λi=>ns.getD i 0,rfl,St.Md (vs:=its) hd (tE hlt),⟨⟨_,sg _ rfl,rfl,rfl⟩,?_⟩,?_,?_,?_⟩
 .obtain⟨o,ho,r⟩:=hpl
  exact⟨o,sC _ ho,r⟩
 .intro b hb
  rw[uo]
  simp at hb
  rcases hb with h|h
  .rw[h];exact zN _
  .rw[h];exact xq hlt
 .intro i v hv
  have hi:i<its.length:=(sO.mp hv).1
  have hb:(ns.map V.int)[i]?=Fk (.int (ns.getD i 0)):=by
   rw[sP,sA (by lia)]
   simp[sG,sA (show i<ns.length by lia)]
  obtain⟨u,hu,ru⟩:=rv.get hb
  rw[hv]at hu
  cases hu
  exact ru
 .intro h' tk t' hk
  have e:preSum (λi=>ns.getD i 0) its.length=ns.sum:=by
   rw[<-hlen,St.Kt (sM _),ve (sM _)]
  rw[e]
  exact⟨.int _,H,I.kept (t':=tk) λb o eb=>hk b o (by simp;exact tE (sW eb)) (sC _ eb),⟨_,rfl⟩,q⟩
noncomputable def QP:Op1:=λw=>(asL w).bind λds=>(IJ ds).map λns=>.val (.int ns.sum)
theorem iS{X:Cx}(hc:X.calm=true):El X (.builtin "sum") (rN X.K (o1 QP)):=by
 intro pins s σ H xs us Q I r h
 obtain⟨M,ws,w,e,mo,sh,q⟩:=h
 obtain⟨v,w1,rfl,rfl,s1,e1⟩:=Ig sh e
 obtain⟨ds,e2,e1⟩:=As e1
 obtain⟨ns,e3,e1⟩:=JE e1
 cases e1
 obtain⟨a,ys,rfl,h3,h4⟩:=s1.l e2
 exact Tt hc pins s σ H _ us Q I r ⟨a,ns,rfl,by rw[<-JU h4 e3];exact .of h3,q _ _ (.same mo (.int _))⟩
noncomputable def L8(ns:Gc Int):Gc Int:=ns.mergeSort (λa b=>decide (a<=b))
theorem Me(ns:Gc Int):(L8 ns).Perm ns:=List.mergeSort_perm _ _
theorem RV(ns:Gc Int):(L8 ns).Pairwise (· <= ·):=by
 have:=List.pairwise_mergeSort (le:=λ(a b:Int)=>decide (a<=b)) (λa b c h1 h2=>by simp at *; lia) (λa b=>by simp;lia) ns
 unfold L8
 exact this.imp λh=>sd h
theorem R0{ns ms:Gc Int}(p:ms.Perm ns)(s:ms.Pairwise (· <= ·)):ms=L8 ns:=PySem.W.ksm_same (p.trans (Me ns).symm) s (RV ns)
theorem intsAre_of:∀{ns:Gc Int} {its:Gc W1},Vals (ns.map V.int) its->uz its ns
 | [],_,.nil=>.nil
 |n::ns,_,.cons h t=>by
  obtain⟨tk,rfl⟩:=h
  exact .cons n tk (intsAre_of t)
theorem KD:∀{ns:Gc Int} {its:Gc W1},uz its ns->Vals (ns.map V.int) its
 |_,_,.nil=>.nil
 |_,_,.cons n tk t=>.cons ⟨tk,rfl⟩ (KD t)
theorem OP{X:Cx}:El X (.builtin "sorted") (λxs H Q=>∃(p:sF) (ns:Gc Int),xs=[.ref p]/\SqL X.K H p (ns.map V.int)/\ns.length<64/\∀q,H q=none->Q (.ref q) (upd H q (.lst ((L8 ns).map V.int)))):=by
 intro pins s σ H xs us Q I r h
 obtain⟨p,ns,rfl,hp,h64,q⟩:=h
 obtain⟨u,rfl,ru⟩:=r.one
 cases (show u=tw p from ru)
 obtain⟨its,rv,pl,hz⟩:=I.list hp
 have hlen:ns.length=its.length:=by have:=rv.length;simpa using this
 refine PyProof.Rows.sorted_ints pl.isList (intsAre_of rv) (by lia) λout ns' a1 a2 a3=>?_
 obtain⟨e,he⟩:=PyProof.Rows.sortedAll_at s.heap its out
 have hn:H (s.heap.objs.size+1)=none:=I.hok.fresh (AAH _)
 have hs:=R0 a2 a3
 subst hs
 refine⟨.ref _,_,I.laid (a:=s.heap.objs.size+1) (o:=.lst ((L8 ns).map V.int)) (t':=s.toks) (λ_ _=>PyProof.Rows.sortedAll_old) (AAH _) ?_,rfl,q _ hn⟩
 refine⟨?_,out.toList,e,KD a1,?_⟩
 .rw[tq,(Me ns).length_eq]
  have:(64:Nat)<=sizeLine:=by decide
  lia
 .rw[Array.toArray_toList];exact he
noncomputable def Na:Op1:=λw=>(asL w).bind λds=>(IJ ds).bind λns=>if ns.length<64 then Fk (.own ((L8 ns).map D.int))else none
theorem Yw{X:Cx}:El X (.builtin "sorted") (rN X.K (o1 Na)):=by
 intro pins s σ H xs us Q I r h
 obtain⟨M,ws,w,e,mo,sh,q⟩:=h
 obtain⟨v,w1,rfl,rfl,s1,e1⟩:=Ig sh e
 obtain⟨ds,e2,e1⟩:=As e1
 obtain⟨ns,e3,e1⟩:=As e1
 split at e1
 .cases e1
  obtain⟨a,ys,rfl,h3,h4⟩:=s1.l e2
  exact OP pins s σ H _ us Q I r ⟨a,ns,rfl,by rw[<-JU h4 e3];exact .of h3,by assumption,λp hp=>q _ _ (.lst mo hp Kj)⟩
 .cases e1
theorem Nj(l:sF)(items:uI W1)(n:Nat)(b:sF)(items2:uI W1)(n2:Nat)(dd:sD sF)(sl:uI (sD W1))(hs0:¬(!items.isEmpty && u6 (items.size+items2.size))=true)(hs1:items.size<=sizeLine)(hs2:items.size+items2.size<=sizeLine+1):Meets (xO.«list.extend» ⟨[.ref l,.ref b],[]⟩) (λ_ R s=>s.heap.get? l=Fk {cls:=.type "list",dict:=none,data:=.seq items n,slots:= #[]}/\s.heap.get? b=Fk {cls:=.type "tuple",dict:=dd,data:=.seq items2 n2,slots:=sl}/\R (.ok (.ret tZ)) {s with heap:=s.heap.update l (yp λx=>x++items2),toks:=s.toks}):=
 .of_wp λprog w A R s h=>by
  obtain⟨hp,g,d,tk,os⟩:=s;obtain⟨hl,hb,h⟩:=h;have f1:=AutoSeq1.idx_int;have f2:=zA;have f3:=AutoSeq1.sub_list_list;have f4:=AutoSeq1.sub_tuple_list;have f5:=AutoSeq1.sub_list_tuple
  have hz':(items++items2).size<=sizeLine+1:=by rw[Array.size_append];exact hs2
  wp_walk using(yV hl rfl (hz:=hs1) (_hz':=hz')),sv hl,sv hb;exact⟨_,rfl,h⟩
def Xm(K:Wp):V->Gc V->Hp->VK->Prop:=λx vs H Q=>∃l b xs zs,x=.ref l/\vs=[.ref b]/\H l=Fk (.lst xs)/\SqT K H b zs/\xs.length+zs.length<=sizeLine/\Q .non (upd H l (.lst (xs++zs)))
theorem R6{X:Cx}:MtM X "list.extend" (Xm X.K):=by
 intro pins s σ H x vs v us Q I rx rv h
 obtain⟨l,b,xs,zs,rfl,rfl,hH,hB,hz,q⟩:=h
 cases rx
 obtain⟨u,rfl,ru⟩:=rv.one
 cases ru
 obtain⟨z,its,n,r,hl,e⟩:=I.Yy hH
 obtain⟨its2,r2,⟨⟨c,dd,dt,sl⟩,e2,hc,n2,hd⟩,z2⟩:=I.tuple hB
 simp only at hc hd
 subst hc hd
 have hl2:=r2.length
 have hsz:its.toArray.size+its2.toArray.size<=sizeLine:=by rw[sY,sY];lia
 have hlong:¬(!its.toArray.isEmpty && u6 (its.toArray.size+its2.toArray.size))=true:=by
  rw[NU hsz,Bool.and_false]
  exact uE
 refine yF AAp ⟨_,e,rfl⟩ AAU (AAA _ _)
  (Nj l its.toArray n b its2.toArray n2 dd sl hlong (by rw[sY];lia) (by lia)) ⟨e,e2,?_⟩
 refine⟨.non,_,I.kh (its':=its++its2) hH e (by simp) (r.append r2) ?_,rfl,q⟩
 rw[uN]
 lia
noncomputable def jV:Mo
 |S,ds,[x]=>match dr S x with
  | .val (.tup zs)=>if ds.length+zs.length<=sizeLine then Fk (.non,ds++zs)else none
  |w=>(asL w).bind λzs=>if ds.length+zs.length<=sizeLine then Fk (.non,ds++zs)else none
 |_,_,_=>none
theorem mR{X:Cx}:MtR X "list.extend" (jN X.K jV):=by
 intro pins s σ H x vs v us Q I rx rv h
 obtain⟨M,S,n,a,ds,args,d,ds',rfl,hc,hn,e,st,ra,q⟩:=h
 unfold jV at e
 split at e
 .obtain⟨xs,h1,h2⟩:=st.cell n a _ hc hn
  obtain⟨y,rfl,ry⟩:=Qj ra
  have sy:=ck st ry
  split at e
  .rename_i ed
   rw[ed]at sy
   split at e
   .rename_i hz
    cases e
    cases sy with
    |tup hx rr=>
     obtain⟨st2,g2⟩:=st.chg hc hn (h2.append rr)
     exact R6 pins s σ H _ _ v us Q I rx rv ⟨a,_,xs,_,rfl,rfl,h1,hx,by rw[h2.length,rr.length];exact hz,q _ _ st2 g2 .non⟩
   .cases e
  .obtain⟨zs,e1,e⟩:=As e
   split at e
   .rename_i hz
    cases e
    obtain⟨b,ys,rfl,h3,h4⟩:=sy.l e1
    obtain⟨st2,g2⟩:=st.chg hc hn (h2.append h4)
    exact To pins s σ H _ _ v us Q I rx rv ⟨a,b,xs,ys,rfl,rfl,h1,h3,by rw[h2.length,h4.length];exact hz,q _ _ st2 g2 .non⟩
   .cases e
 .cases e
theorem Xw{X:Cx}:OpR X (binaryOp .Mult) (λx y H Q=>∃a xs k,x=.ref a/\y=.int k/\SqT X.K H a xs/\xs≠[]/\k<=0/\ -(2^63)<=k/\∀p,H p=none->Q (.ref p) (upd H p (.tup []))):=by
 intro pins s σ H x y v u Q I rx ry h
 obtain⟨a,xs,k,rfl,rfl,hx,hne,hk,hk2,q2⟩:=h
 cases rx
 obtain⟨t,rfl⟩:=ry
 obtain⟨its,r,⟨⟨c,dd,data,sl⟩,ho,hc,n,hd⟩,hzz⟩:=I.tuple hx
 simp only at hc hd
 subst hc hd
 have hl:=r.length
 have hpos:0<xs.length:=AAW.mpr hne
 refine xB (T:="tuple") (U:="int") (by decide) ⟨_,ho,rfl⟩ (λs'=>yE s' k t) G8 zl wR KU zK.lookup
  (yF wR (yE s k t) zL (y0 _ _) (IY k t a its.toArray n dd sl) ⟨ho,rfl,⟨_,ho,rfl⟩,?_⟩)
 refine vN yG ⟨_,ho,rfl⟩ F.entry_tuple_mul ?_ (AAq _ _)
 unfold xO.«tuple.__mul__»
 wp_walk using sv ho
 rw[tN (show¬(decide (k< -2^63)||decide (k≥2^63))=true by
  rw[uU]
  rintro (z|z)
  .have:=sd z;lia
  .have:=sd z;lia)]
 wp_walk using sv ho
 have hemp:its.toArray.isEmpty=false:=by
  cases its with
  |nil=>rw[vA]at hl;lia
  |cons b bs=>rfl
 rw[tN (show¬(its.toArray.isEmpty||k==1)=true by
  rw[hemp,Bool.false_or]
  intro z
  have:=eq_of_beq z
  lia)]
 wp_walk using sv ho
 all_goals first
  |exact⟨_,rfl,.ref _,_,I.laid (o:=.tup []) (t':=s.toks) (λb ob q=>sC _ q) (sM _) ⟨ux _,[],.nil,xE _ _⟩,rfl,q2 _ (I.hok.fresh (sM _))⟩
  |(exfalso
    rename_i hh
    exact hh (by rw[uU];exact .inl (vV hk)))
noncomputable def Bx:Op2:=λa b=>match asT a with
 |some xs=>match asI b with
  |some k=>if(!xs.isEmpty && decide (k<=0) && decide (-(2^63)<=k))=true then Fk (.val (.tup []))else eR (.val (.tup xs)) (.val (.int k))
  |none=>eR a b
 |none=>eR a b
theorem jH{X:Cx}:OpR X (binaryOp .Mult) (rOp X.K Bx):=by
 intro pins s σ H x y v u Q I rx ry h
 obtain⟨M,w1,w2,r,e,mo,s1,s2,q⟩:=h
 have no:eR w1 w2=Fk r->wpAny (model X.prog X.w) X.A (binaryOp .Mult v u) (EP X pins σ Q) X.xe s:=λe=>ae pins s σ H x y v u Q I rx ry ⟨M,_,_,r,e,mo,s1,s2,q⟩
 unfold Bx at e
 cases e1:asT w1 with
 |none=>rw[e1]at e;exact no e
 |some xs=>
  rw[e1]at e
  dsimp only at e
  cases e2:asI w2 with
  |none=>rw[e2]at e;exact no e
  |some k=>
   rw[e2]at e
   obtain rfl:=Qb e1
   obtain rfl:=OV e2
   by_cases hk:(!xs.isEmpty && decide (k<=0) && decide (-(2^63)<=k))=true
   .dsimp only at e
    rw[tK hk]at e
    rw[sU,sU]at hk
    cases e
    obtain rfl:=Br.iv s2
    obtain⟨a,ys,rfl,h1,r1⟩:=Br.iv s1
    have hne:ys≠[]:=λzz=>by
     subst zz
     cases r1
     exact absurd hk.1.1 (by decide)
    exact Xw pins s σ H _ _ v u Q I rx ry ⟨a,ys,k,rfl,rfl,h1,hne,sd hk.1.2,sd hk.2,λp hp=>q _ _ (.tup mo hp .nil)⟩
   .dsimp only at e
    rw[tN hk]at e
    exact no e
theorem NB{A:tM}{k:Nat}(hr:Eg k A):A.units+100<cLine:=by have:=hr.un;lia
section
variable{P:sj}{w:tu}{K:Wp}{mg:Str->sD W1}{base:tT}
theorem Ng{x:Str}{st:tP}{k np:Nat}{ps:Gc Str}(S:St.Src K mg x st)(hbi:∀f fd,Fun K x x st f fd->Binds K fd ps []):St.Dfn P w K mg base x k ps (spD K np λ_ _=>none):=by
 obtain⟨f,fd,Fu,hm⟩:=S.ex
 refine⟨f,fd,hm,Fu.kp,hbi f fd Fu,⟨λvs H Q E h=>?_,λA outer s H args us vs Q E hr h0 hb hv h=>?_⟩⟩
 .obtain⟨_,_,_,_,_,_,e,_⟩:=h;cases e
 .obtain⟨_,_,_,_,_,_,e,_⟩:=h;cases e
end
noncomputable def scE:Nat->sk->Gc uZ
 |0,_=>[]
 |n+1,.ListComp e gs s _=>s::(gs.flatMap λg=>scE n g.iter)++scE n e++(gs.flatMap λg=>g.ifs.flatMap (scE n))
 |n+1,.BoolOp _ vs _=>vs.flatMap (scE n)
 |n+1,.Call f as _ _=>scE n f++as.flatMap (scE n)
 |n+1,.BinOp a _ b _=>scE n a++scE n b
 |n+1,.UnaryOp _ a _=>scE n a
 |n+1,.Compare a _ cs _=>scE n a++cs.flatMap (scE n)
 |n+1,.Subscript a b _=>scE n a++scE n b
 |n+1,.Tuple es _ _=>es.flatMap (scE n)
 |n+1,.List es _=>es.flatMap (scE n)
 |n+1,.IfExp c a b _=>scE n c++scE n a++scE n b
 |n+1,.Dict _ vs _=>vs.flatMap (scE n)
 |n+1,.Slice a b c _=>(a.toList++b.toList++c.toList).flatMap (scE n)
 |n+1,.Attribute v _ _=>scE n v
 |_,_=>[]
noncomputable def scS:Nat->tP->Gc uZ
 |0,_=>[]
 |n+1,.Return (Fk e) _=>scE 30 e
 |n+1,.Assign ts e _=>ts.flatMap (scE 30)++scE 30 e
 |n+1,.AugAssign t _ e _=>scE 30 t++scE 30 e
 |n+1,.Expr e _=>scE 30 e
 |n+1,.If t a b _=>scE 30 t++a.flatMap (scS n)++b.flatMap (scS n)
 |n+1,.For _ it a b _=>scE 30 it++a.flatMap (scS n)++b.flatMap (scS n)
 |n+1,.While t a b _=>scE 30 t++a.flatMap (scS n)++b.flatMap (scS n)
 |_,_=>[]
noncomputable def GA(st:tP)(k:Nat):uZ:=((Ba st).flatMap (scS 20)).getD k (AF st)
structure rR(P:sj)(w:tu)(K:Wp)(mg:Str->sD W1)(base:tT)(x:Str)(k np:Nat)(tbl:Gc (Str×Fn)):Prop where
 ex:∃a kvs,mg x=Fk (.ref a)/\TopD K w a kvs/\∀p G,tbl.lookup p=Fk G->∃f fd ps,kvs.lookup p=Fk (.ref f)/\Pb P w K mg base CX0 k f fd ps (spD K np G)/\vG K (.ref f)=true/\Binds K fd ps []
section
variable{P:sj}{w:tu}{K:Wp}{mg:Str->sD W1}{base h:tT}
theorem gR{x:Str}{st:tP}{f:sF}{oc:W1}{od an:sD sF}{osl:uI (sD W1)}{kV doc pm cdv ct:W1}(X:K.In h)(G:h.Ns mainGlobals mg)(a:uR K mainGlobals x=Fk (Fk (.ref f)))(l:K.lookup f=Fk ⟨oc,od,.func (v3 x x (Ir st) (Ba st) (AF st) .none kV doc pm an cdv ct),osl⟩)(c:xh K cdv x=true)(k:vG K (.ref f)=true):St.Src K mg x st:=
 ⟨f,_,g9 l c k,wC X G a⟩
def IsD(K:Wp)(u:W1)(d:D):Prop:=∃v,RelV v u/\∀M H,Br K M H v d
theorem NA{i:Int}{t:Tok}:IsD K (.int i t) (.int i):=⟨.int i,⟨t,rfl⟩,λ_ _=>.int i⟩
theorem F6{x:Str}{t:Tok}:IsD K (.str x t) (.str x):=⟨.str x,⟨t,rfl⟩,λ_ _=>.str x⟩
theorem Qy:∀{us:Gc W1} {ds:Gc D},Paired (λd u=>IsD K u d) ds us->∃xs,Vals xs us/\∀M H,Aj K M H xs ds
 |_,_,.nil=>⟨[],.nil,λ_ _=>.nil⟩
 |_,_,.cons h t=>by
  obtain⟨v,h1,h2⟩:=h
  obtain⟨xs,h3,h4⟩:=Qy t
  exact⟨v::xs,.cons h1 h3,λM H=>.cons (h2 M H) (h4 M H)⟩
theorem Nk{a:sF}{od:sD sF}{osl:uI (sD W1)}{its:Gc W1}{n:Nat}{ds:Gc D}(l:K.lookup a=Fk ⟨.type "tuple",od,.seq its.toArray n,osl⟩)(hz:its.length<=sizeLine)(r:Paired (λd u=>IsD K u d) ds its):IsD K (.ref a) (.tup ds):=by
 obtain⟨xs,h1,h2⟩:=Qy r
 exact⟨.ref a,rfl,λM H=>.tup (.inr ⟨_,its.toArray,n,l,rfl,rfl,by simpa using hz,by simpa using h1⟩) (h2 M H)⟩
theorem Qw{x:Str}{u:W1}{d:D}(X:K.In h)(G:h.Ns mainGlobals mg)(e:uR K mainGlobals x=Fk (Fk u))(r:IsD K u d):WM K mg x d:=by
 obtain⟨v,h1,h2⟩:=r
 exact⟨v,u,wC X G e,h1,h2⟩
structure rZ(w:tu)(K:Wp)(mg:Str->sD W1)(x:Str)(ns:Gc (Str×Str)):Prop where
 ex:∃a kvs,mg x=Fk (.ref a)/\TopD K w a kvs/\Paired (λ(n:Str×Str) (q:Str×V)=>n.1=q.1/\∃f,q.2=.ref f/\mg n.2=Fk (.ref f)) ns kvs
end
noncomputable def putD(kvs:Gc (Key×D))(k:Key)(v:D):Gc (Key×D):=
 if(kvs.any λkv=>decide (kv.1=k))=true then kvs.map (λkv=>if kv.1=k then(kv.1,v)else kv)else kvs++[(k,v)]
noncomputable def MX(kvs more:Gc (Key×D)):Gc (Key×D):=more.foldl (λacc kv=>putD acc kv.1 kv.2) kvs
noncomputable def jQ:D->sD Key
 | .int i=>Fk (.inl i)
 | .str x=>Fk (.inr x)
 |_=>none
noncomputable def XZ:tV->Gc (Key×D)->Sto->D×Sto
 |false,es,S=>(.dct es,S)
 |true,es,S=>(.ref S.length,S++[.dct es])
section
variable{K:Wp}{M M':Ms}{H:Hp}{S:Sto}{E:En}{σ:Sg}
theorem Cs.any(k:Key){kvs:Gc (Key×V)}{es:Gc (Key×D)}(h:Cs K M H kvs es):(kvs.any λkv=>decide (kv.1=k))=es.any λkv=>decide (kv.1=k):=h.ind (P:=λv d=>(v.any λkv=>decide (kv.1=k))=d.any λkv=>decide (kv.1=k)) rfl λ_ t=>by rw[vh,vh,t]
theorem Cs.app{kvs kvs':Gc (Key×V)}{es es':Gc (Key×D)}(h:Cs K M H kvs es)(s:Cs K M H kvs' es'):Cs K M H (kvs++kvs') (es++es'):=h.ind (P:=λv d=>Cs K M H (v++kvs') (d++es')) s λh t=>.cons h t
theorem Cs.iR{k:Key}{v:V}{d:D}(r:Br K M H v d):∀{kvs:Gc (Key×V)} {es:Gc (Key×D)},Cs K M H kvs es->Cs K M H (kvs.map λkv=>if kv.1=k then(kv.1,v)else kv) (es.map λkv=>if kv.1=k then(kv.1,d)else kv)
 |_,_,.nil=>.nil
 |_,_,.cons (k:=k') h t=>by
  rw[su,su]
  by_cases e:k'=k
  .rw[tK e,tK e];exact .cons r (Cs.iR r t)
  .rw[tN e,tN e];exact .cons h (Cs.iR r t)
theorem Cs.put{k:Key}{v:V}{d:D}{kvs:Gc (Key×V)}{es:Gc (Key×D)}(r:Br K M H v d)(h:Cs K M H kvs es):Cs K M H (putK kvs k v) (putD es k d):=by
 unfold putK putD
 rw[h.any k]
 split
 .exact h.iR r
 .exact h.app (.cons r .nil)
theorem Cs.merge{more:Gc (Key×V)}{more':Gc (Key×D)}{kvs:Gc (Key×V)}{es:Gc (Key×D)}(h:Cs K M H more more')(g:Cs K M H kvs es):Cs K M H (K4 kvs more) (MX es more'):=
 h.ind (P:=λv d=>∀kvs es,Cs K M H kvs es->Cs K M H (K4 kvs v) (MX es d)) (λ_ _ g=>g) (λr t _ _ g=>t _ _ (g.put r)) _ _ g
theorem fq{v:V}{d:D}{k:Key}(r:Br K M H v d)(e:jQ d=Fk k):v=kV k:=by
 cases r<;>cases e<;>rfl
theorem StR.dn(r:StR K M S H){a:sF}(e:H a=none):StR K ⟨M.cel,a::M.tmp⟩ S (upd H a (.dK []))/\Sp1 M H ⟨M.cel,a::M.tmp⟩ (upd H a (.dK [])):=by
 have k:∀b o,H b=Fk o->upd H a (.dK []) b=Fk o:=EY e
 have na:¬M.mem a:=λz=>r.mo.some z e
 have s1:Sp1 M H ⟨M.cel,a::M.tmp⟩ (upd H a (.dK [])):=⟨r.mo,uV,λb z=>by
  rcases z with z|z
  .exact .inl (.inl z)
  .rcases sN.mp z with z|z
   .subst z;exact .inr e
   .exact .inl (.inr z),λb o eb _=>k b o eb⟩
 refine⟨⟨λb z=>?_,r.nd,λb hb z=>?_,r.len,λn b c h1 h2=>?_⟩,s1⟩
 .by_cases h:b=a
  .subst h;exact⟨_,Av,trivial⟩
  .rw[Ad h]
   refine r.mo b ?_
   rcases z with z|z
   .exact .inl z
   .rcases sN.mp z with z|z
    .exact absurd z h
    .exact .inr z
 .rcases sN.mp hb with hb|hb
  .subst hb;exact na (.inl z)
  .exact r.nt b hb z
 .exact(r.cell n b c h1 h2).step s1 λo e=>k _ _ e
theorem StR.qd{c t:Gc sF}{a:sF}{kvs:Gc (Key×V)}{es:Gc (Key×D)}(cf:tV)(r:StR K ⟨c,a::t⟩ S H)(nt:a∉t)(rr:Cs K ⟨c,a::t⟩ H kvs es):∃c',StR K ⟨c',t⟩ (XZ cf es S).2 (upd H a (.dK kvs))/\Br K ⟨c',t⟩ (upd H a (.dK kvs)) (.ref a) (XZ cf es S).1/\c <+: c'/\(∀b∈c',b∈c\/b=a):=by
 have nc:a∉c:=r.nt a sZ
 have hl:c.length=S.length:=r.len
 have ne:∀b∈c,b≠a:=λb hb z=>nc (by rw[<-z];exact hb)
 have kp:∀b o,H b=Fk o->¬Ms.mem ⟨c,a::t⟩ b->upd H a (.dK kvs) b=Fk o:=λb o eb nb=>by rw[Ad (λz=>nb (.inr (by rw[z];exact sZ)))];exact eb
 have old:∀{c':Gc sF},Sp1 ⟨c,a::t⟩ H ⟨c',t⟩ (upd H a (.dK kvs))->∀(n:Nat) (b:sF) (cl:Cl),c[n]?=Fk b->S[n]?=Fk cl->Rz K ⟨c',t⟩ (upd H a (.dK kvs)) b cl:=λs1 n b cl h1 h2=>by
  have hb:=ne b (se h1)
  exact(r.cell n b cl h1 h2).step s1 λo e=>by rw[Ad hb];exact e
 have mo:∀b,Ms.mem ⟨c,t⟩ b\/b=a->∃o,upd H a (.dK kvs) b=Fk o/\Mob o:=λb z=>by
  by_cases h:b=a
  .subst h;exact⟨_,Av,trivial⟩
  .rw[Ad h]
   rcases z with z|z
   .exact r.mo b (z.imp id (sQ _))
   .exact absurd z h
 cases cf with
 |false=>
  have s1:Sp1 ⟨c,a::t⟩ H ⟨c,t⟩ (upd H a (.dK kvs)):=⟨r.mo,uV,λb z=>.inl (z.imp id (sQ _)),kp⟩
  exact⟨c,⟨λb z=>mo b (.inl z),r.nd,λb hb=>r.nt b (sQ _ hb),r.len,old s1⟩,.dct Av (λz=>z.elim nc nt) (rr.step s1),uV,λb z=>.inl z⟩
 |true=>
  have s1:Sp1 ⟨c,a::t⟩ H ⟨c++[a],t⟩ (upd H a (.dK kvs)):=⟨r.mo,wO _ _,λb z=>by
   rcases z with z|z
   .rcases sx.mp z with z|z
    .exact .inl (.inl z)
    .exact .inl (.inr (by rw[tJ.mp z];exact sZ))
   .exact .inl (.inr (sQ _ z)),kp⟩
  refine⟨c++[a],⟨λb z=>mo b ?_,?_,λb hb z=>?_,by simp[XZ,hl],λn b cl h1 h2=>?_⟩,.ref (by rw[<-hl];exact sV),wO _ _,λb z=>?_⟩
  .rcases z with z|z
   .rcases sx.mp z with z|z
    .exact .inl (.inl z)
    .exact .inr (tJ.mp z)
   .exact .inl (.inr z)
  .rw[xo]
   refine⟨r.nd,by simp,λx hx y hy z=>?_⟩
   simp at hy;subst hy
   exact nc (by rw[<-z];exact hx)
  .rcases sx.mp z with z|z
   .exact r.nt b (sQ _ hb) z
   .rw[tJ.mp z]at hb;exact nt hb
  .have h2:(S++[Cl.dct es])[n]?=Fk cl:=h2
   by_cases h:n<S.length
   .rw[sH (by rw[hl];exact h)]at h1
    rw[sH h]at h2
    exact old s1 n b cl h1 h2
   .have hm:n=S.length:=by
     have:=(sO.mp h2).1
     simp at this;lia
    subst hm
    rw[uB (by rw[hl];exact sM _)]at h1
    rw[uB (sM _)]at h2
    rw[hl]at h1
    simp at h1 h2
    subst h1 h2
    exact⟨kvs,Av,rr.step s1⟩
  .rcases sx.mp z with z|z
   .exact .inl z
   .exact .inr (tJ.mp z)
noncomputable def evP:Gc (Ev×Ev)->En->Sto->sD (Gc (Key×D)×Sto)
 | [],_,S=>Fk ([],S)
 |(k,v)::r,E,S=>(k E S).bind λa=>(jQ a.1).bind λkk=>(v E a.2).bind λb=>(evP r E b.2).map λq=>((kk,b.1)::q.1,q.2)
theorem YZ:∀{fs:Gc (Ev×Ev)} {M:Ms} {S:Sto} {es:Gc (Key×D)} {S':Sto} {H:Hp} {Q:Gc (V×V)->Hp->Prop},evP fs E S=Fk (es,S')->EnR K M E σ H->StR K M S H->(∀kvs H' M',Gr M H M' H'->StR K M' S' H'->Cs K M' H' kvs es->kvs.length=fs.length->Q (kvs.map λkv=>(kV kv.1,kv.2)) H')->Qp (fs.map λx=>(tD K x.1,tD K x.2)) σ H Q
 | [],M,S,es,S',H,Q,e,r,st,q=>by
   cases e
   exact q [] H M (.refl st.mo) st .nil rfl
 |(fk,fv)::fs,M,S,es,S',H,Q,e,r,st,q=>by
  obtain⟨⟨dk,S1⟩,e1,e⟩:=As e
  obtain⟨kk,ek,e⟩:=As e
  obtain⟨⟨dv,S2⟩,e2,e⟩:=As e
  obtain⟨⟨es',S3⟩,e3,e⟩:=JE e
  cases e
  refine⟨M,E,S,dk,S1,e1,r,st,λv H1 M1 g1 st1 d1=>?_⟩
  refine⟨M1,E,S1,dv,S2,e2,r.step g1.st,st1,λv2 H2 M2 g2 st2 d2=>?_⟩
  refine YZ e3 ((r.step g1.st).step g2.st) st2 λkvs H3 M3 g3 st3 rk hl=>?_
  rw[fq d1 ek]
  exact q ((kk,v2)::kvs) H3 M3 ((g1.trans g2).trans g3) st3 (.cons (d2.step g3.st) rk) (by simp[hl])
end
noncomputable def VS(cf:tV)(fs:Gc (Ev×Ev)):Ev:=λE S=>(evP fs E S).map λr=>XZ cf (MX [] r.1) r.2
abbrev fL:=VS false
section
variable{X:Cx}{pos:Pos}
structure DPs(X:Cx)(pos:Pos)(ks:Gc (sD sk))(vs:Gc sk)(fs:Gc (Ev×Ev)):Prop where
 pe:PPs X pos ks vs (fs.map λx=>(tD X.K x.1,tD X.K x.2))
 all:ks.all (·.isSome)=true
 len:ks.length=vs.length
 num:fs.length=vs.length
theorem aC:DPs X pos [] [] []:=⟨aq,rfl,rfl,rfl⟩
theorem Xz{k v:sk}{ks:Gc (sD sk)}{vs:Gc sk}{fk fv:Ev}{fs:Gc (Ev×Ev)}(hk:DE X k fk)(hv:DE X v fv)(h:DPs X pos ks vs fs):DPs X pos (Fk k::ks) (v::vs) ((fk,fv)::fs):=
 ⟨Wg hk.pe hv.pe h.pe,by rw[wV,h.all];rfl,by rw[tY,tY,h.len],by rw[tY,tY,h.num]⟩
theorem Zf{K:Wp}{M:Ms}{H:Hp}{S S':Sto}{Q:VK}{cf:tV}{p:sF}{M2:Ms}{H2:Hp}{S2:Sto}{kvs:Gc (Key×V)}{es:Gc (Key×D)}(st:StR K M S H)(hp:H p=none)(g:Gr ⟨M.cel,p::M.tmp⟩ (upd H p (.dK [])) M2 H2)(st2:StR K M2 S2 H2)(rk:Cs K M2 H2 kvs es)(q:∀v H' M',Gr M H M' H'->StR K M' (XZ cf es S2).2 H'->Br K M' H' v (XZ cf es S2).1->Q v H'):Q (.ref p) (upd H2 p (.dK kvs)):=by
 obtain⟨c2,t2⟩:=M2
 have ht:t2=p::M.tmp:=g.tmp
 subst ht
 have np:p∉M.tmp:=λz=>st.mo.some (.inr z) hp
 obtain⟨c',st',rd,pr,sub⟩:=st2.qd cf np rk
 refine q _ _ ⟨c',M.tmp⟩ ⟨st.mo,(show M.cel <+: c2 from g.pre).trans pr,rfl,λb z=>?_,λb o eb nb=>?_,λb eb=>?_⟩ st' rd
 .rcases sub b z with z|z
  .rcases g.fresh b z with z|z
   .exact .inl z
   .right
    by_cases h:b=p
    .rw[h];exact hp
    .rw[Ad h]at z;exact z
  .right;rw[z];exact hp
 .have h:b≠p:=λz=>by rw[z,hp]at eb;cases eb
  rw[Ad h]
  exact g.keep b o (by rw[Ad h];exact eb) nb
 .by_cases h:b=p
  .subst h;rw[Av];intro z;cases z
  .rw[Ad h]
   exact g.some b (by rw[Ad h];exact eb)
theorem dy{cf:tV}{ks:Gc (sD sk)}{vs:Gc sk}{fs:Gc (Ev×Ev)}(h:DPs X pos ks vs fs)(h0:ks≠[])(h15:ks.length<=15):DE X (.Dict ks vs pos) (VS cf fs):=⟨
 Bv (cX h.pe h.all h.len h0 h15) λσ H Q z=>by
  obtain⟨M,E,S,d,S',e,r,st,q⟩:=z
  obtain⟨⟨es,S2⟩,e1,e⟩:=JE e
  intro p hp
  obtain⟨st0,s0⟩:=st.dn hp
  refine YZ e1 (r.step s0) st0 λkvs H2 M2 g st2 rk hl=>⟨g.keep p _ Av (st0.nt p sZ),kvs,rfl,by rw[hl,h.num,<-h.len];exact h15,?_⟩
  refine Zf (cf:=cf) (S':=S') st hp g st2 (rk.merge .nil) ?_
  have e':XZ cf (MX [] es) S2=(d,S'):=e
  rw[e']
  exact q⟩
end
def Tb(old:sF->Prop)(H:Hp)(h:tT)(e:sF)(v:W1):Prop:=
 v=.none\/∃T oT ts,v=.ref T/\T≠e/\h.get? T=Fk oT/\oT.data=.fields ts/\ts[3]?=Fk .none/\H T=none/\¬old T
structure Fly(old:sF->Prop)(H:Hp)(h:tT)(e C:sF)(od:sD sF):Prop where
 free:H e=none
 new:¬old e
 ex:∃oe vs a0 v,h.get? e=Fk oe/\oe.cls=.ref C/\oe.data=.fields vs/\vs[0]?=Fk a0/\vs[1]?=Fk v/\Tb old H h e v/\∀dx,od=Fk dx->oe.dict=Fk dx
theorem Fly.imp{old old':sF->Prop}{H:Hp}{h:tT}{e C:sF}{od:sD sF}(f:Fly old H h e C od)(m:∀b,old' b->old b):Fly old' H h e C od:=by
 obtain⟨oe,vs,a0,v,h1,h2,h3,h4,h5,t,hd⟩:=f.ex
 refine⟨f.free,λz=>f.new (m _ z),oe,vs,a0,v,h1,h2,h3,h4,h5,?_,hd⟩
 rcases t with t|⟨T,oT,ts,t1,t2,t3,t4,t5,t6,t7⟩
 .exact .inl t
 .exact .inr ⟨T,oT,ts,t1,t2,t3,t4,t5,t6,λz=>t7 (m _ z)⟩
structure fZ(old:sF->Prop)(H:Hp)(h:tT)(e C:sF)(od:sD sF):Prop where
 free:H e=none
 new:¬old e
 ex:∃oe vs a0 T oT ts,h.get? e=Fk oe/\oe.cls=.ref C/\oe.data=.fields vs/\vs[0]?=Fk a0/\vs[1]?=Fk (.ref T)/\(T≠e/\h.get? T=Fk oT/\oT.data=.fields ts/\ts[3]?=Fk .none/\H T=none/\¬old T)/\∀dx,od=Fk dx->oe.dict=Fk dx
theorem fZ.fly{old:sF->Prop}{H:Hp}{h:tT}{e C:sF}{od:sD sF}(f:fZ old H h e C od):Fly old H h e C od:=by
 obtain⟨oe,vs,a0,T,oT,ts,h1,h2,h3,h4,h5,r,hd⟩:=f.ex
 exact⟨f.free,f.new,oe,vs,a0,.ref T,h1,h2,h3,h4,h5,.inr ⟨T,oT,ts,rfl,r⟩,hd⟩
structure Trn(X:Cx)(old:sF->Prop)(H:Hp)(h h':tT)(e C:sF)(od:sD sF):Prop where
 keep:∀b o,h.get? b=Fk o->b∉frs X.stack->(H b≠none\/old b\/∀vs,o.data≠.fields vs)->h'.get? b=Fk o
 slot:∀b o,h.get? b=Fk o->(∀vs,o.data≠.fields vs)->∃sl,h'.get? b=Fk {o with slots:=sl}
 fly:fZ old H h' e C od
theorem DF.there{P:sj}{w:tu}{H:Hp}{h:tT}{a:sF}{o:HO}(x:DF P w H h a o):∃ob,h.get? a=Fk ob:=by
 cases o with
 |lst xs=>obtain⟨_,_,_,_,e⟩:=x;exact⟨_,e⟩
 |tup xs=>obtain⟨_,_,_,ob,e,_⟩:=x;exact⟨_,e⟩
 |dK kvs=>obtain⟨_,_,_,_,o,_,_,e,_⟩:=x;exact⟨_,e⟩
 |dT kvs=>obtain⟨_,_,_,_,o,_,_,e,_⟩:=x;exact⟨_,e⟩
 |set S n=>obtain⟨o,_,_,_,e,_⟩:=x;exact⟨_,e⟩
 |ins C dx fs=>obtain⟨_,_,_,e,_⟩:=x;exact⟨_,e⟩
 |own y=>obtain⟨_,e⟩:=x;exact⟨_,e⟩
 |xd fs=>obtain⟨_,⟨_,_,_,e,_⟩,_⟩:=x;exact⟨_,e⟩
 |rng lo hi=>obtain⟨_,_,_,e⟩:=x;exact⟨_,e⟩
 |frz ob u=>obtain⟨e,_⟩:=x;exact⟨_,e⟩
 |tbl ps=>exact⟨_,(show h.get? a=Fk _ from x)⟩
 |met f y=>exact⟨_,(show h.get? a=Fk _ from x)⟩
 |ext φ=>obtain⟨_,⟨_,e⟩,_⟩:=x;exact⟨_,e⟩
section
variable{X:Cx}{pins:Gc (sF×Obj)}{σ:St}{H:Hp}{s:sE}{old:sF->Prop}{e C:sF}{od:sD sF}{Q:Unit->sE->Prop}{E:W1->sE->Prop}{A:tM}
theorem UL{h:tT}{a b:sF}{oa o:Obj}{vs:uI W1}(ha:h.get? a=Fk oa)(hd:oa.data=.fields vs)(hb:h.get? b=Fk o)(n:∀vs,o.data≠.fields vs):b≠a:=λz=>by
 rw[z,ha]at hb
 cases hb
 exact n _ hd
theorem cE{H:Hp}{h:tT}{a b:sF}{oa o:Obj}{vs:uI W1}(ha:h.get? a=Fk oa)(hd:oa.data=.fields vs)(fr:H a=none)(nw:¬old a)(hb:h.get? b=Fk o)(k:H b≠none\/old b\/∀vs,o.data≠.fields vs):b≠a:=λz=>by
 subst z
 rcases k with k|k|k
 .exact k fr
 .exact nw k
 .exact UL ha hd hb k rfl
theorem Qu{ts:uI W1}{i:Nat}{v:W1}(h:ts[i]?=Fk v):ts.setIfInBounds i v=ts:=by
 apply Array.ext (by simp)
 intro j h1 h2
 rw[Array.getElem_setIfInBounds]
 split
 .rename_i z
  subst z
  obtain⟨_,q⟩:=vp.mp h
  exact q.symm
 .rfl
theorem PQ{M:AAd}(I:Inv X pins σ H s)(hA:A.frames=Fk X.stack)(hst:X.stack=X.env::X.outer)(hf:X.env.frame=Fk X.env.locals)(free:H e=none)(new:¬old e)(ho:∀b,old b->s.heap.get? b≠none){oe:Obj}{vs:uI W1}{a0 head:W1}{hadNext:tV}(he:s.heap.get? e=Fk oe)(hc:oe.cls=.ref C)(hd:oe.data=.fields vs)(h0:vs[0]?=Fk a0)(hz:1<vs.size)(hdx:∀dx,od=Fk dx->oe.dict=Fk dx)(hQ:∀h',Trn X old H s.heap h' e C od->Q () {s with heap:=h'}):wpAny M A (do let a<-frameOf X.env;let pl<-entryPlaceOf X.env.locals hadNext;let b<-AAX head a .none (rawInt X.env.locals) .none pl;setField (.ref e) 1 b) (λ_ s2=>wpAny M A (setFlight (.ref e) none) Q E s2) E s:=by
 have st:=I.stack
 have ef:e∉frs X.stack:=λm=>by
  obtain⟨_,o,q,n⟩:=st.mem m
  exact UL he hd q n rfl
 have hfr:A.frames=Fk (X.env::X.outer):=by rw[hA,hst]
 rw[hst]at st
 refine rz (wpAny_frameOf_fun hfr st hf λh1 hs=>?_)
 obtain⟨sz,out,sl⟩:=hs
 refine rz (wpAny_entryPlaceOf λpl hpl=>?_)
 unfold AAX newFields
 refine rz (vF ?_ (hpl.sizeOk5 _ _ _ _ _))
 generalize hob:({cls:=.type "traceback",data:=.fields ([head,.ref X.env.locals,.none,rawInt X.env.locals,.none]++(if pl.isEmpty then sS 6 tZ else pl)).toArray}:Obj)=tb
 have ef':e∉(X.env::X.outer).filterMap (·.frame):=by rw[<-hst];exact ef
 have e1:h1.get? e=Fk oe:=(out e ef').trans he
 have e2:(h1.push tb).get? e=Fk oe:=sC _ e1
 refine wI e2 hd hz ?_
 have Te:h1.objs.size≠e:=wM (sW e1)
 have d3:=vm hd (·.setIfInBounds 1 (tw h1.objs.size))
 have e3:=uQ (uk (·.setIfInBounds 1 (tw h1.objs.size))) e2 (vL d3)
 have tbd:∃ts:uI W1,tb.data=.fields ts/\3<ts.size:=⟨_,by rw[<-hob],by simp only[sY,uN,tY,vA]<;>lia⟩
 obtain⟨ts,td,tz⟩:=tbd
 have T3:((h1.push tb).update e (uk (·.setIfInBounds 1 (tw h1.objs.size)))).get? h1.objs.size=Fk tb:=(tH _ _ Te.symm).trans (sg h1 (vL td))
 unfold setFlight
 refine rz (uw e3 d3 (x:=.ref h1.objs.size) (by simp[hz]) ?_)
 rw[tK (show(tw h1.objs.size !=tZ)=true from by simp)]
 refine wI T3 td tz (hQ _ ?_)
 have T4:=uQ (uk (·.setIfInBounds 3 ((none:sD sF).elim tZ λf=>rawInt f))) T3 (vL (vm td _))
 have all:∀b o,b≠e->h1.get? b=Fk o->(((h1.push tb).update e (uk (·.setIfInBounds 1 (tw h1.objs.size)))).update h1.objs.size (uk (·.setIfInBounds 3 ((none:sD sF).elim tZ λf=>rawInt f)))).get? b=Fk o:=λb o n q=>by
  rw[tH _ _ (wM (sW q)),tH _ _ (uO n)]
  exact sC _ q
 have Tn:s.heap.get? h1.objs.size=none:=by
  cases q:s.heap.get? h1.objs.size with
  |none=>rfl
  |some o=>
   obtain⟨sl',z⟩:=sl _ o q
   exact absurd (sW z) (uj _)
 refine⟨λb o q nf k=>all b o (cE he hd free new q k) ((out b (by rw[<-hst];exact nf)).trans q),λb o q n=>?_,free,new,_,_,a0,h1.objs.size,_,_,(tH _ _ Te).trans e3,(Obj.cls_mapFields _ _).trans hc,d3,by rw[x8 (by decide)];exact h0,by simp[hz],⟨Te,T4,vm td _,by simp[tz],?_,λz=>ho _ z Tn⟩,λdx z=>?_⟩
 .obtain⟨sl',z⟩:=sl b o q
  exact⟨sl',all b _ (UL he hd q n) z⟩
 .cases q:H h1.objs.size with
  |none=>rfl
  |some o=>
   obtain⟨ob,z⟩:=DF.there (I.hok _ o q)
   rw[Tn]at z;cases z
 .rw[<-hdx dx z]
  obtain⟨c,dd,da,sl⟩:=oe
  cases da<;>first|rfl|(simp[uk];done)
theorem NY{M:AAd}(I:Inv X pins σ H s)(hA:A.frames=Fk X.stack)(hst:X.stack=X.env::X.outer)(hf:X.env.frame=Fk X.env.locals)(f:Fly old H s.heap e C od)(ho:∀b,old b->s.heap.get? b≠none)(hQ:∀h',Trn X old H s.heap h' e C od->Q () {s with heap:=h'}):wpAny M A (noteFrame (.ref e) X.env) (λ_ s2=>wpAny M A (setFlight (.ref e) none) Q E s2) E s:=by
 obtain⟨oe,vs,a0,v,h1,h2,h3,h4,h5,t,hd⟩:=f.ex
 have hz:=(vp.mp h5).1
 unfold noteFrame
 simp only[hf]
 refine rz (uw h1 h3 h5 ?_)
 rcases t with t|⟨T,oT,ts,t1,t2,t3,t4,t5,t6,t7⟩
 .subst t
  rw[tN (by decide)]
  exact PQ I hA hst hf f.free f.new ho h1 h2 h3 h4 hz hd hQ
 .subst t1
  rw[tK (show(tw T !=tZ)=true from by simp)]
  refine rz (uw t3 t4 t5 ?_)
  rw[tN (show¬((tZ==rawInt X.env.locals)=true)from by simp[rawInt])]
  refine rz (wI t3 t4 (vp.mp t5).1 ?_)
  have oth:∀b,b≠T->(s.heap.update T (uk (·.setIfInBounds 3 tZ))).get? b=s.heap.get? b:=λb n=>tH _ _ (uO n)
  have sm:=Qu t5
  have up:(s.heap.update T (uk (·.setIfInBounds 3 tZ))).get? T=Fk oT:=by
   rw[uQ _ t3 (vL (vm t4 _))]
   obtain⟨c,dd,da,sl⟩:=oT
   cases t4
   show Fk ({cls:=c,dict:=dd,data:=.fields (ts.setIfInBounds 3 .none),slots:=sl}:Obj)=_
   rw[sm]
  have same:∀b,(s.heap.update T (uk (·.setIfInBounds 3 tZ))).get? b=s.heap.get? b:=λb=>by
   by_cases z:b=T
   .rw[z,up,t3]
   .exact oth b z
  have I':Inv X pins σ H {s with heap:=s.heap.update T (uk (·.setIfInBounds 3 tZ))}:=I.kept (t':=s.toks) λb u q=>(same b).trans q
  refine PQ (s:={s with heap:=s.heap.update T (uk (·.setIfInBounds 3 tZ))}) I' hA hst hf f.free f.new (λb z q=>ho b z ((same b).symm.trans q)) ((same e).trans h1) h2 h3 h4 hz hd λh' t=>hQ h' ⟨λb o q=>t.keep b o ((same b).trans q),λb o q=>t.slot b o ((same b).trans q),t.fly⟩
theorem Ul{M:AAd}(I:Inv X pins σ H s)(f:fZ old H s.heap e C od)(hQ:∀h',Trn X old H s.heap h' e C od->Q () {s with heap:=h'}):wpAny M A (setFlight (.ref e) none) Q E s:=by
 obtain⟨oe,vs,a0,T,oT,ts,h1,h2,h3,h4,h5,⟨t2,t3,t4,t5,t6,t7⟩,hd⟩:=f.ex
 unfold setFlight
 refine rz (uw h1 h3 h5 ?_)
 rw[tK (show(tw T !=tZ)=true from by simp)]
 refine wI t3 t4 (vp.mp t5).1 (hQ _ ?_)
 have up:(s.heap.update T (uk (·.setIfInBounds 3 ((none:sD sF).elim tZ λf=>rawInt f)))).get? T=Fk oT:=by
  rw[uQ _ t3 (vL (vm t4 _))]
  obtain⟨c,dd,da,sl⟩:=oT
  cases t4
  show Fk ({cls:=c,dict:=dd,data:=.fields (ts.setIfInBounds 3 .none),slots:=sl}:Obj)=_
  rw[Qu t5]
 have same:∀b,(s.heap.update T (uk (·.setIfInBounds 3 ((none:sD sF).elim tZ λf=>rawInt f)))).get? b=s.heap.get? b:=λb=>by
  by_cases z:b=T
  .rw[z,up,t3]
  .exact tH _ _ (uO z)
 exact⟨λb o q _ _=>(same b).trans q,λb o q _=>⟨o.slots,(same b).trans q⟩,f.free,f.new,oe,vs,a0,T,oT,ts,(same e).trans h1,h2,h3,h4,h5,⟨t2,up,t4,t5,t6,t7⟩,hd⟩
end
def dI(X:Cx)(pins:Gc (sF×Obj))(b:sF):Prop:=X.s₀.heap.get? b≠none\/∃p∈X.pn++pins,p.1=b
section
variable{X:Cx}{pins:Gc (sF×Obj)}{σ:St}{H:Hp}{s:sE}{old:sF->Prop}{e C:sF}{od:sD sF}{h':tT}
theorem Uv(hst:X.stack=X.env::X.outer)(hf:X.env.frame=Fk X.env.locals):frs X.stack=X.env.locals::X.fs:=by
 rw[hst];unfold frs Cx.fs frs;rw[uK,hf]
theorem Fb(I:Inv X pins σ H s)(hx:X.ex=[]):∀b,dI X pins b->s.heap.get? b≠none:=λb z=>by
 rcases z with z|⟨p,m,rfl⟩
 .cases q:X.s₀.heap.get? b with
  |none=>exact absurd q z
  |some o=>
   obtain⟨o',e'⟩:=I.base.there b o q (by rw[hx];exact λz=>nomatch z)
   rw[e'];exact λz=>nomatch z
 .rw[(I.pin p m).1];exact λz=>nomatch z
theorem QK(I:Inv X pins σ H s)(t:Trn X old H s.heap h' e C od):HOk X.prog X.w H h':=λa o q=>by
 refine(I.hok a o q).Sj (λb u hb e1=>?_) (λ_ z=>z) λ_ _ z=>z
 have hn:H b≠none:=by
  rcases hb with z|z
  .subst z;rw[q];exact λz=>nomatch z
  .rw[z];exact λz=>nomatch z
 exact t.keep b u e1 (λz=>hn (I.P7 b z)) (.inl hn)
theorem TL(I:Inv X pins σ H s)(hst:X.stack=X.env::X.outer)(hf:X.env.frame=Fk X.env.locals)(hx:X.ex=[])(t:Trn X (dI X pins) H s.heap h' e C od):Un X.fs X.ex X.H₀ H X.s₀.heap h':=by
 have hs:=Uv hst hf
 have nL:∀b o,X.s₀.heap.get? b=Fk o->b≠X.env.locals:=λb o e1=>tE (sI (sW e1) I.ok.above)
 have od:∀b o,X.s₀.heap.get? b=Fk o->dI X pins b:=λb o e1=>.inl (by rw[e1];exact λz=>nomatch z)
 have fd:∀b o,b∈X.fs->X.s₀.heap.get? b=Fk o->∀vs,o.data≠.fields vs:=λb o hb e1 vs=>by
  obtain⟨_,o',e2,q⟩:=I.ok.QM.mem hb
  rw[e1]at e2;cases e2
  exact q vs
 refine⟨λb o e1 n hb hx'=>?_,λb o e1 n hb hx'=>?_,I.base.free,λb o e1 hx'=>?_,I.base.WK,I.base.Sq,I.base.V4⟩
 .refine t.keep b o (I.base.keep b o e1 n hb hx') (λz=>?_) (.inr (.inl (od b o e1)))
  rw[hs]at z
  exact(sN.mp z).elim (nL b o e1) hb
 .obtain⟨sl,q⟩:=I.base.slot b o e1 n hb hx'
  obtain⟨sl',q'⟩:=t.slot b _ q (fd b o hb e1)
  exact⟨sl',q'⟩
 .obtain⟨o',q⟩:=I.base.there b o e1 hx'
  by_cases hb:b∈frs X.stack
  .obtain⟨_,o2,q2,d⟩:=I.stack.mem hb
   obtain⟨sl,z⟩:=t.slot b o2 q2 d
   exact⟨_,z⟩
  .exact⟨o',t.keep b o' q hb (.inr (.inl (od b o e1)))⟩
theorem Vm(I:Inv X pins σ H s)(hst:X.stack=X.env::X.outer)(hf:X.env.frame=Fk X.env.locals)(hx:X.ex=[])(t:Trn X (dI X pins) H s.heap h' e C od):Inv X pins σ H {s with heap:=h'}:=by
 have hs:=Uv hst hf
 have cl:∀c v,s.heap.IsCell c v->h'.IsCell c v:=λc v ⟨o,ho,hd⟩=>by
  obtain⟨sl,q⟩:=t.slot c o ho λvs z=>by rw[hd]at z;cases z
  exact⟨_,q,hd⟩
 refine⟨I.ok,I.os,I.bare,TL I hst hf hx t,?_,λx c e1=>?_,I.free,I.Iq,λp m=>?_,QK I t,I.len⟩
 .obtain⟨m,hn,hl⟩:=I.loc
  refine⟨m,Heap.UpToSlots.ns (λb o e1 e2=>t.slot b o e1 e2) hn,λi x v e1 e2 e3=>?_⟩
  obtain⟨u,r,l⟩:=hl i x v e1 e2 e3
  refine⟨u,r,?_⟩
  rcases l with l|⟨k,c,e4,z⟩
  .exact .inl l
  .exact .inr ⟨k,c,e4,cl c _ z⟩
 .obtain⟨v,z⟩:=I.cell x c e1
  exact⟨v,cl c v z⟩
 .obtain⟨p1,p2,p3,p4,p5⟩:=I.pin p m
  refine⟨t.keep _ _ p1 (λz=>?_) (.inr (.inl (.inr ⟨p,m,rfl⟩))),p2,p3,p4,p5⟩
  rw[hs]at z
  exact(sN.mp z).elim p3 p4
end
abbrev Rk:=sF->sD sF->St->Hp->Prop
abbrev TR:=St->Hp->Rk->Prop
inductive XP(X:Cx)(pins:Gc (sF×Obj))(Z:Rk)(ev:W1)(s':sE):Prop
 |mk (e C:sF) (od:sD sF) (σ':Sg) (H':Hp) (h:ev=.ref e) (I:Inv X pins σ' H' s') (z:Z C od σ' H') (fl:Fly (dI X pins) H' s'.heap e C od)
def PX(X:Cx)(st:tP)(t:TR):Prop:=∀(pins:Gc (sF×Obj)) (s:sE) (σ:St) (H:Hp) (Z:Rk),Inv X pins σ H s->t σ H Z->wpAny (model X.prog X.w) X.A (exec st X.env) (λ_ _=>vS) (XP X pins Z) s
def PXs(X:Cx)(sts:Gc tP)(t:TR):Prop:=∀(pins:Gc (sF×Obj)) (s:sE) (σ:St) (H:Hp) (Z:Rk),Inv X pins σ H s->t σ H Z->wpAny (model X.prog X.w) X.A (execs sts X.env) (λ_ _=>vS) (XP X pins Z) s
def PXe(X:Cx)(e:sk)(t:TR):Prop:=∀(pins:Gc (sF×Obj)) (s:sE) (σ:St) (H:Hp) (Z:Rk),Inv X pins σ H s->t σ H Z->wpAny (model X.prog X.w) X.A (eval e X.env) (λ_ _=>vS) (XP X pins Z) s
noncomputable def CXr(P:sj)(w:tu):CXT:=λouter H s E ev s'=>∃e C od H',ev=.ref e/\s'.os=s.os/\xU s'.gens/\Un (frs outer) [] H H' s.heap s'.heap/\HOk P w H' s'.heap/\Fly (λb=>s.heap.get? b≠none) H' s'.heap e C od/\E (.ref C) od H'
theorem XI{P:sj}{w:tu}{K:Wp}{mg:Str->sD W1}{base:tT}{N:Gc Str}{qual:Str}{scope:uZ}{f:sF}{cd:W1}{A:tM}{outer:Gc uY}{s:sE}{H:Hp}{E:XK}{pins:Gc (sF×Obj)}{Z:Rk}{ev:W1}{s':sE}(h:XP (IK (CXr P w) P w K mg base N qual scope f cd A outer s H E).nox pins Z ev s')(hZ:∀C od σ' H',Z C od σ' H'->E (.ref C) od H'):(IK (CXr P w) P w K mg base N qual scope f cd A outer s H E).xe ev s':=by
 obtain⟨e,C,od,σ',H',rfl,I,z,fl⟩:=h
 show wpAny _ _ (leaving _ (.ref e)) _ _ s'
 unfold leaving
 refine rz (NY I I.ok.frames rfl rfl fl (Fb I rfl) λh' t=>?_)
 exact⟨e,C,od,H',rfl,I.os,I.bare,TL I rfl rfl rfl t,QK I t,t.fly.fly.imp λb z=>.inl z,hZ _ _ _ _ z⟩
structure Tg where
 nm:Str
 pay:sD Int
instance:Coe Str Tg:=⟨λx=>⟨x,none⟩⟩
def jI(mg:Str->sD W1)(x:Tg)(C:sF)(od:sD sF)(H:Hp):Prop:=mg x.nm=Fk (.ref C)/\∀n,x.pay=Fk n->∃dx,od=Fk dx/\H dx=Fk (.xd [("at",.int n)])
abbrev Rx:=En->Sto->sD (Tg×En×Sto)
abbrev Rf:=Gc D->Sto->sD (Tg×Sto)
inductive tR(K:Wp)(mg:Str->sD W1)(r:Rx)(σ:Sg)(H:Hp)(Z:Rk):Prop
 |mk (M:Ms) (E:En) (S:Sto) (x:Tg) (E':En) (S':Sto) (e:r E S=Fk (x,E',S')) (rr:EnR K M E σ H) (st:StR K M S H) (q:∀C od σ' H' M',jI mg x C od H'->Gr M H M' H'->EnR K M' E' σ' H'->StR K M' S' H'->Z C od σ' H')
structure RS(X:Cx)(st:tP)(r:Rx):Prop where
 pe:PX X st (tR X.K X.mg r)
structure RSs(X:Cx)(st:Gc tP)(r:Rx):Prop where
 pe:PXs X st (tR X.K X.mg r)
structure RE(X:Cx)(e:sk)(r:Rx):Prop where
 pe:PXe X e (tR X.K X.mg r)
inductive spR(K:Wp)(mg:Str->sD W1)(np:Nat)(R:Rf)(vs:Gc V)(H:Hp)(Q:VK)(E:XK):Prop
 |mk (M:Ms) (ds:Gc D) (S:Sto) (x:Tg) (S':Sto) (l:ds.length=np) (e:R ds S=Fk (x,S')) (r:Aj K M H vs ds) (st:StR K M S H) (q:∀C od H' M',jI mg x C od H'->Gr M H M' H'->StR K M' S' H'->E (.ref C) od H')
noncomputable def Fm(N:Nat)(r:Rx):Rf:=λds S=>(r (ds.map Fk++sS (N-ds.length) none) S).map λq=>(q.1,q.2.2)
structure N3(P:sj)(w:tu)(K:Wp)(mg:Str->sD W1)(base:tT)(x:Str)(k:Nat)(ps:Gc Str)(sp:Sp):Prop where
 ex:∃f fd,mg x=Fk (.ref f)/\vG K (.ref f)=true/\Binds K fd ps []/\Pb P w K mg base (CXr P w) k f fd ps sp
section
variable{P:sj}{w:tu}{K:Wp}{mg:Str->sD W1}{base:tT}
theorem iT{x:Str}{st:tP}{f:sF}{fd:vD}{N ps:Gc Str}{k np:Nat}{r:Rx}(Fu:Fun K x x st f fd)(S:BP N ps (AF st))(hp:ps.length=np)(hb:∀(cdv:W1) (A:tM) (outer:Gc uY) (s:sE) (H:Hp) (E:XK),Eg k (A.deeper (tQ x (AF st) s.heap.objs.size f cdv))->RSs (IK CX0 P w K mg base N x (AF st) f cdv A outer s H E).nox (Ba st) r):Pb P w K mg base (CXr P w) (k+1) f fd ps (spR K mg np (AY (Fm N.length r))):=by
 rw[Kx]
 obtain⟨oc,od,kV,doc,pm,an,cdv,ct,osl,rfl,lk,hcd⟩:=Fu.ex
 refine Z7 lk hcd S (λvs H Q E h=>?_) λA outer s H vs Q E hr h=>?_
 .obtain⟨M,ds,S0,d,S',hl,_,r,_⟩:=h
  have:=r.length
  lia
 .obtain⟨M,ds,S0,y,S',hl,e,rr,st,q⟩:=h
  have hlen:=rr.length
  refine⟨λ_ σ H=>tR K mg r σ H λC od _ H'=>E (.ref C) od H',λpins s1 σ1 H1 D I h=>?_,?_⟩
  .exact uh ((hb cdv A outer s H E hr).pe pins s1 σ1 H1 _ (I.Sw _) h) (λ_ _ z=>z.elim) λev s' z=>XI z λ_ _ _ _ z=>z
  .obtain⟨⟨y',E',S1⟩,e1,e⟩:=JE e
   cases e
   refine⟨M,_,S0,y',E',S1,e1,?_,st,λC od σ' H' M' hm g _ st'=>q C od H' M' hm g st'⟩
   rw[show L2.start N vs=vs.map Fk++sS (N.length-ds.length) none from by unfold L2.start;rw[hlen]]
   exact .args rr _
theorem Vd{x:Str}{st:tP}{N ps:Gc Str}{k np:Nat}{r:Rx}(S:St.Src K mg x st)(sc:BP N ps (AF st))(hp:ps.length=np)(hbi:∀f fd,Fun K x x st f fd->Binds K fd ps [])(hb:∀(f:sF) (cdv:W1) (A:tM) (outer:Gc uY) (s:sE) (H:Hp) (E:XK),Eg k (A.deeper (tQ x (AF st) s.heap.objs.size f cdv))->RSs (IK CX0 P w K mg base N x (AF st) f cdv A outer s H E).nox (Ba st) r):N3 P w K mg base x (k+1) ps (spR K mg np (AY (Fm N.length r))):=by
 obtain⟨f,fd,Fu,hm⟩:=S.ex
 exact⟨f,fd,hm,Fu.kp,hbi f fd Fu,iT Fu sc hp λcdv A outer s H E hr=>hb f cdv A outer s H E hr⟩
end
theorem Gg{X:Cx}{α:Type}{M:AAd}{A:tM}{t:Sem α}{Q Q':α->sE->Prop}{E:W1->sE->Prop}{s:sE}(hn:X.xe=λ_ _=>vS)(h:wpAny M A t Q X.xe s)(hQ:∀a s,Q a s->Q' a s):wpAny M A t Q' E s:=
 uh h hQ λ_ _ z=>by rw[hn]at z;exact z.elim
noncomputable def BB(R:Rf)(fs:Gc Ev):Rx:=λE S=>(evs fs E S).bind λq=>(R q.1 q.2).map λz=>(z.1,E,z.2)
theorem QH{X:Cx}{k np:Nat}{x:Str}{ps:Gc Str}{R:Rf}{e:sk}{es:Gc sk}{fs:Gc Ev}{p pos:Pos}(d:N3 X.prog X.w X.K X.mg X.base x k ps (spR X.K X.mg np R))(hr:Eg k X.A)(hg:Gl X x)(ha:DEs X (e::es) fs)(hn:fs.length=np:=by rfl)(hxe:X.xe=λ_ _=>vS:=by rfl)(hx:X.ex=[]:=by rfl)(hdb:(x==("__debug__":Str))=false:=by decide)(he:sf (e::es) X.env=(false,eval e X.env)::sf es X.env:=by rfl)(hpl:(backTo pos (sf es X.env)).any (·.1)=false:=by rfl):RE X (.Call (.Name x p) (e::es) [] pos) (BB R fs):=⟨by
 intro pins s σ H Z I h
 obtain⟨f,fd,hm,hk,hb,F⟩:=d.ex
 obtain⟨M,E,S,y,E',S',e0,r,st,q⟩:=h
 obtain⟨⟨ds,S1⟩,e1,e2⟩:=As e0
 obtain⟨⟨y',S2⟩,e3,e4⟩:=JE e2
 cases e4
 refine vC (Iy I hg hm ?_ hdb)
 have ha':=ha.pe pos pins s σ H (λvs H1=>∃M1,Gr M H M1 H1/\StR X.K M1 S1 H1/\Aj X.K M1 H1 vs ds) I (Fs e1 r st λvs H1 M1 g1 st1 r1=>⟨M1,g1,st1,r1⟩)
 refine yk (h₀:=X.base) I.ok.mod.kin hk (Gg hxe ha' λus s1 ⟨vs,H1,I1,rv,M1,g1,st1,r1⟩=>⟨I1.kIn,?_⟩) he hpl
 have sp:spR X.K X.mg np R vs H1 (λ_ _=>vS) (λv od H'=>∃C,v=.ref C/\Z C od σ H'):=
  ⟨M1,ds,S1,y',S2,by rw[LZ e1];exact hn,e3,r1,st1,λC od H' M' hc g2 st2=>⟨C,rfl,q C od σ H' M' hc (g1.trans g2) ((r.step g1.st).step g2.st) st2⟩⟩
 have hl:(us++[]).length=ps.length:=by rw[vJ,<-rv.length];exact F.len _ _ _ _ sp
 have hbs:=hb s1 us I1.kIn hl
 rw[vJ]at hbs
 refine wm (yb (F.run X.A X.stack s1 H1 ⟨us,[]⟩ us vs _ _ hr I1.dG hbs rv sp) λrs s' hq=>?_)
 cases rs with
 |error ev=>
  obtain⟨e,C,od,H',rfl,os,bare,un,hok,fly,C',hC,z⟩:=hq
  cases hC
  exact⟨e,C,od,σ,H',rfl,I1.aw os un hok bare (λb z=>nomatch z),z,fly.imp λb z=>Fb I1 hx b z⟩
 |ok fl=>
  cases fl with
  |ret u=>
   obtain⟨v,H',_,_,_,_,_,q⟩:=hq
   exact q.elim
  |next=>exact uW hq
  |brk=>exact uW hq
  |cont=>exact uW hq⟩
section
variable{X:Cx}{st:tP}{rest a b:Gc tP}{f g:Ex}{r r1 r2:Rx}{c e:sk}{k:Ev}{pos:Pos}
theorem nG(h:RE X e r)(hs:swapsWith e none pos.line X.env=pure false:=by rfl):RS X (.Expr e pos) r:=⟨λpins s σ H Z I q=>z0 (uh (h.pe pins s σ H Z I q) (λ_ _ z=>z) λ_ _ z=>z) I.quiet hs⟩
noncomputable def rNo:Rx:=λ_ _=>none
theorem mz:RS X st rNo:=⟨λ_ _ _ _ _ _ z=>by
 obtain⟨M,E,S,x,E',S',e,_⟩:=z
 cases e⟩
theorem eU:RSs X rest rNo:=⟨λ_ _ _ _ _ _ z=>by
 obtain⟨M,E,S,x,E',S',e,_⟩:=z
 cases e⟩
noncomputable def IW(r:Rx)(f:Ex)(r2:Rx):Rx:=λE S=>match r E S with
 |some z=>Fk z
 |none=>(f E S).bind λq=>match q.1 with
  | .nx=>r2 q.2.1 q.2.2
  | .ret _=>none
theorem XR(h1:RS X st r)(hb:DS X st f)(h2:RSs X rest r2)(hxe:X.xe=λ_ _=>vS:=by rfl):RSs X (st::rest) (IW r f r2):=⟨λpins s σ H Z I z=>by
 obtain⟨M,E,S,x,E',S',e,rr,ss,q⟩:=z
 unfold IW at e
 split at e
 .rename_i z' e1
  cases e
  refine wG (uh (h1.pe pins s σ H Z I ⟨M,E,S,x,E',S',e1,rr,ss,q⟩) (λ_ _ z=>z.elim) λ_ _ z=>z)
 .obtain⟨⟨fl,E1,S1⟩,e1,e⟩:=As e
  dsimp only at e
  split at e
  .refine wG (Gg hxe (hb.pe pins s σ H {nx:=λσ' H'=>tR X.K X.mg r2 σ' H' Z,rt:=λ_ _=>vS} I ⟨M,E,S,.nx,E1,S1,e1,rr,ss,λσ' H' M' g' r' st'=>⟨M',E1,S1,x,E',S',e,r',st',λC od σ2 H2 M2 hm g2=>q C od σ2 H2 M2 hm (g'.trans g2)⟩⟩) λfl s1 w=>?_)
   cases fl with
   |next=>
    obtain⟨σ',H',I',q'⟩:=w
    exact h2.pe pins s1 σ' H' Z I' q'
   |ret v=>obtain⟨_,_,_,_,_,q'⟩:=w;exact q'.elim
   |brk=>obtain⟨_,_,_,q'⟩:=w;exact q'.elim
   |cont=>obtain⟨_,_,_,q'⟩:=w;exact q'.elim
  .cases e⟩
theorem TX(h1:RS X st r):RSs X [st] r:=⟨λpins s σ H Z I z=>wG (uh (h1.pe pins s σ H Z I z) (λ_ _ z=>z.elim) λ_ _ z=>z)⟩
noncomputable def rIf(k:Ev)(r1 r2:Rx):Rx:=λE S=>(k E S).bind λq=>match q.1 with
 | .bl true=>r1 E q.2
 | .bl false=>r2 E q.2
 |_=>none
theorem kq(hc:DT X c k)(ha:RSs X a r1)(hb:RSs X b r2)(hxe:X.xe=λ_ _=>vS:=by rfl):RS X (.If c a b pos) (rIf k r1 r2):=⟨λpins s σ H Z I z=>by
 obtain⟨M,E,S,x,E',S',e,rr,ss,q⟩:=z
 obtain⟨⟨w1,S1⟩,e1,e⟩:=As e
 dsimp only at e
 split at e
 .refine wpAny_If (Gg hxe (hc.pe pins s σ H (λd H1=>d=true/\tR X.K X.mg r1 σ H1 Z) I ⟨M,E,S,_,S1,e1,rr,ss,λH1 M1 g1 st1=>⟨rfl,M1,E,S1,x,E',S',e,rr.step g1.st,st1,λC od σ2 H2 M2 hm g2=>q C od σ2 H2 M2 hm (g1.trans g2)⟩⟩) λd s1 w=>?_)
  obtain⟨H1,I1,rfl,q1⟩:=w
  exact ha.pe pins s1 σ H1 Z I1 q1
 .refine wpAny_If (Gg hxe (hc.pe pins s σ H (λd H1=>d=false/\tR X.K X.mg r2 σ H1 Z) I ⟨M,E,S,_,S1,e1,rr,ss,λH1 M1 g1 st1=>⟨rfl,M1,E,S1,x,E',S',e,rr.step g1.st,st1,λC od σ2 H2 M2 hm g2=>q C od σ2 H2 M2 hm (g1.trans g2)⟩⟩) λd s1 w=>?_)
  obtain⟨H1,I1,rfl,q1⟩:=w
  exact hb.pe pins s1 σ H1 Z I1 q1
 .cases e⟩
end
abbrev VEm:Gc W1:=[.type "ValueError",.type "Exception",.type "BaseException",.type "object"]
structure XcD(K:Wp)(mg:Str->sD W1)(x:Str):Prop where
 ex:∃C,mg x=Fk (.ref C)/\xI K C VEm "ValueError.__new__"=true
theorem aN{K:Wp}{h:tT}{mg:Str->sD W1}{x:Str}{C:sF}(X:K.In h)(G:h.Ns mainGlobals mg)(e:uR K mainGlobals x=Fk (Fk (.ref C)))(q:xI K C VEm "ValueError.__new__"=true):XcD K mg x:=⟨C,wC X G e,q⟩
theorem Z5{K:Wp}{h:tT}{C:sF}{bmB:Gc W1}{newId:ug}(X:K.In h)(q:xI K C bmB newId=true):∃bm N nm q bs hdct sn sub ab col dd k0 k1 k2 k3 k5 mN,h.get? C=Fk (excClassObj nm q C N bs bm hdct sn sub ab col dd k0 k1 k2 k3 k5 newId)/\h.Ns N mN/\mN "__init__"=none/\OwnTail h bmB bm:=by
 unfold xI at q
 split at q
 case h_2=>cases q
 rename_i dd cd sl ho
 split at q
 case h_2=>cases q
 rename_i C' bm k0 k1 k2 k3 n k5 hm hs
 simp only[sU,vc,xr]at q
 obtain⟨⟨⟨⟨⟨rfl,rfl⟩,hdel⟩,ht⟩,hok⟩,hni⟩:=q
 have hsl:sl= #[k0,k1,k2,k3,Fk (.builtin n),k5]:=Array.toList_inj.mp hs
 obtain⟨nm,bs,mro,ns,qn,hd,sn,sub,ab,col,del⟩:=cd
 dsimp only at hm hdel hok hni
 subst hm hdel hsl
 exact⟨bm,ns,nm,qn,bs,hd,sn,sub,ab,col,dd,k0,k1,k2,k3,k5,_,X _ _ ho,.of_isNs (yt X hok),PySem.W.nsMap_none_of_in X hok hni,yu X ht⟩
noncomputable def OU(x:Str)(fs:Gc Ev):Rx:=λE S=>(evs fs E S).map λq=>(⟨x,none⟩,E,q.2)
theorem jF{X:Cx}{x:Str}{e:sk}{es:Gc sk}{fs:Gc Ev}{np cpos pos:Pos}(hc:X.calm=true)(xc:XcD X.K X.mg x)(hg:Gl X x)(ha:DEs X (e::es) fs)(hl:fs.length<=sizeLine:=by decide)(hxe:X.xe=λ_ _=>vS:=by rfl)(hx:X.ex=[]:=by rfl)(hdb:(x==("__debug__":Str))=false:=by decide)(he:sf (e::es) X.env=(false,eval e X.env)::sf es X.env:=by rfl)(hpl:(backTo cpos (sf es X.env)).any (·.1)=false:=by rfl):RS X (.Raise (Fk (.Call (.Name x np) (e::es) [] cpos)) none pos) (OU x fs):=⟨by
 intro pins s σ H Z I h
 obtain⟨C,hm,hex⟩:=xc.ex
 obtain⟨M,E,S,y,E',S',e0,r,st,q⟩:=h
 obtain⟨⟨ds,S1⟩,e1,e2⟩:=JE e0
 cases e2
 obtain⟨tl,N,nm,qn,bs,hdct,sn,sub,ab,col,dd,k0,k1,k2,k3,k5,mN,hC,hN,hni,T⟩:=Z5 I.ok.mod.kin hex
 refine wpAny_Raise_call_subT (C:=C) (nm:=nm) (q:=qn) (N:=N) (bs:=bs) (bm:=tl) (hdct:=hdct) (sn:=sn) (sub:=sub) (ab:=ab) (col:=col) (dd:=dd) (k0:=k0) (k1:=k1) (k2:=k2) (k3:=k3) (k5:=k5)
  wK (mN:=mN) (T.hasType wK.hasBase) (I.ok.hd hc) (by rw[he];show(false||(backTo cpos (sf es X.env)).any (·.1))=false;rw[hpl];rfl) hni (Iy I hg hm ⟨rfl,?_⟩ hdb)
 have ha':=ha.pe cpos pins s σ H (λvs H1=>∃M1,Gr M H M1 H1/\StR X.K M1 S1 H1/\Aj X.K M1 H1 vs ds) I (Fs e1 r st λvs H1 M1 g1 st1 r1=>⟨M1,g1,st1,r1⟩)
 rw[he]at ha'⊢
 refine wq (Gg hxe ha' λus s1 ⟨vs,H1,I1,rv,M1,g1,st1,r1⟩=>?_)
 refine⟨rfl,by rw[<-rv.length,r1.length,LZ e1];exact hl,I1.bk _ _ hC,hN.keeps I1.bk,T.keeps I1.bk,λh' ea hmd=>?_⟩
 obtain⟨t,w1,w2,w3⟩:=hmd.there
 refine⟨ea,C,none,σ,H1,rfl,I1.kept (t':=s1.toks) hmd.keeps,q C none σ H1 M1 ⟨hm,λ_ z=>nomatch z⟩ g1 (r.step g1.st) st1,?_,λz=>Fb I1 hx _ z hmd.new,_,_,.ref t,.none,w1,rfl,rfl,rfl,rfl,.inl rfl,λ_ z=>nomatch z⟩
 cases o:H1 ea with
 |none=>rfl
 |some ho=>
  obtain⟨ob,z⟩:=DF.there (I1.hok ea ho o)
  rw[hmd.new]at z;cases z⟩
abbrev Cx.mrk(X:Cx)(e:sF):Cx:={X with A:=X.A.mark (Fk (.ref e)),calm:=false}
section
variable{X:Cx}{pins:Gc (sF×Obj)}{σ:St}{H:Hp}{s:sE}{e:sF}
theorem iI(ok:X.Ok):(Cx.mrk X e).Ok:=⟨ok.mod,ok.kind,ok.glob,ok.blt,ok.above,ok.inj,ok.has,ok.cab,(λz=>nomatch z),ok.frames,ok.stk,ok.exf,ok.bs,ok.bsz,ok.Yn,ok.cJ,ok.QM,ok.frf⟩
theorem Z9(I:Inv X pins σ H s):Inv (Cx.mrk X e) pins σ H s:=⟨iI I.ok,I.os,I.bare,I.base,I.loc,I.cell,I.free,I.Iq,I.pin,I.hok,I.len⟩
theorem JO(ok:X.Ok)(I:Inv (Cx.mrk X e) pins σ H s):Inv X pins σ H s:=⟨ok,I.os,I.bare,I.base,I.loc,I.cell,I.free,I.Iq,I.pin,I.hok,I.len⟩
theorem YL{D:Ends}{f:Flow}(ok:X.Ok)(h:SP (Cx.mrk X e) pins D f s):SP X pins D f s:=by
 cases f with
 |next=>obtain⟨σ',H',I,q⟩:=h;exact⟨σ',H',JO ok I,q⟩
 |brk=>obtain⟨σ',H',I,q⟩:=h;exact⟨σ',H',JO ok I,q⟩
 |cont=>obtain⟨σ',H',I,q⟩:=h;exact⟨σ',H',JO ok I,q⟩
 |ret u=>obtain⟨v,σ',H',I,r,q⟩:=h;exact⟨v,σ',H',JO ok I,r,q⟩
end
structure HS(X:Cx)(hs:Gc vT)(g:Tg->Ex):Prop where
 pe:∀(x:Tg) (C:sF) (od:sD sF) (pins:Gc (sF×Obj)) (s:sE) (σ:St) (H:Hp) (D:Ends) (e:sF),jI X.mg x C od H->Inv X pins σ H s->fZ (dI X pins) H s.heap e C od->tX X.K (g x) D σ H->
  wpAny (model X.prog X.w) X.A (handleBy (.ref e) X.env hs) (SP X pins D) (λ_ _=>vS) s
noncomputable def gNo:Tg->Ex:=λ_ _ _=>none
theorem Um{X:Cx}:HS X [] gNo:=⟨λ_ _ _ _ _ _ _ _ _ _ _ _ z=>by
 obtain⟨M,E,S,fl,E',S',e,_⟩:=z
 cases e⟩
structure XmD(K:Wp)(mg:Str->sD W1)(xs:Gc Str)(y:Str):Prop where
 ex:∃C',mg y=Fk (.ref C')/\∀x∈xs,∀C,mg x=Fk (.ref C)->wx K (.ref C) (.ref C')=Fk (x==y)
noncomputable def gOr(xs:Gc Str)(y:Str)(f:Ex)(g:Tg->Ex):Tg->Ex:=λx=>if x.nm∈xs then(if(x.nm==y)=true then f else g x)else Lb
theorem Er{X:Cx}{xs:Gc Str}{y:Str}{b₀:tP}{suite:Gc tP}{f:Ex}{g:Tg->Ex}{np pos:Pos}{rest:Gc vT}(xm:XmD X.K X.mg xs y)(hg:Gl X y)(hf:∀e,DSs (Cx.mrk X e) (b₀::suite) f)(hr:HS X rest g)(hxe:X.xe=λ_ _=>vS:=by rfl)(hx:X.ex=[]:=by rfl)(hst:X.stack=X.env::X.outer:=by rfl)(hfr:X.env.frame=Fk X.env.locals:=by rfl)(hdb:(y==("__debug__":Str))=false:=by decide):HS X (.ExceptHandler (Fk (.Name y np)) none (b₀::suite) pos::rest) (gOr xs y f g):=⟨by
 intro x C od pins s σ H D e tg I fl z
 have hm:=tg.1
 obtain⟨C',hm',hex⟩:=xm.ex
 have hin:x.nm∈xs:=by
  by_cases h:x.nm∈xs
  .exact h
  .obtain⟨M,E,S,fl,E',S',e,_⟩:=z
   unfold gOr at e
   rw[tN h]at e
   cases e
 have z':tX X.K (if(x.nm==y)=true then f else g x) D σ H:=by
  unfold gOr at z
  rw[tK hin]at z
  exact z
 have ex:=hex x.nm hin C hm
 obtain⟨oe,vs,a0,T,oT,ts,h1,h2,_⟩:=id fl.ex
 have LT:AAf (model X.prog X.w) s.heap (typeOf (.ref e)) (.ref C):=by
  rw[<-h2];exact(PySem.W.Looks.ld h1).andThen .now
 refine wpAny_handleBy_cons (codeAny_handlers_test (wj I.ok.kind hg (zI (by rw[I.ok.glob];exact I.mod.glob.keeps I.bk) hm' ?_) hdb)) (by intro q;cases q)
 refine PySem.W.exm_one I.kIn LT ex _ _ _ _ (λ_ _ q=>q) ?_
 cases hb:(x.nm==y)with
 |true=>
  rw[tK hb]at z'
  refine codeAny_handlers_suite (wpAny_passesOwnAt PassesOwnAt.never (Ul I fl λh' t=>?_))
  have I':=Z9 (e:=e) (Vm I hst hfr hx t)
  exact wpAny_passesOwnAt PassesOwnAt.never (Gg (X:=Cx.mrk X e) hxe ((hf e).pe pins _ σ H D I' z') λfl s2 w=>YL I.ok w)
 |false=>
  rw[tN (by rw[hb];decide)]at z'
  exact hr.pe x C od pins s σ H D e tg I fl z'⟩
section
variable{X:Cx}{pos:Pos}
noncomputable def Pm(oa ob oc:Ev):Ev:=λE S=>(evs [oa,ob] E S).bind λr=>match r.1 with
 | [.int i,.int j]=>if i<=j then(oc E r.2).bind λp=>match p.1 with
     | .int k=>Fk (.bl (decide (j<k)),p.2)
     |_=>none
   else Fk (.bl false,r.2)
 |_=>none
theorem lW{K:Wp}{oa ob oc:Ev}{σ:Sg}{H:Hp}{Q:VK}(h:tD K (Pm oa ob oc) σ H Q):ZI (rI0 λi j=>.bl (decide (i<=j))) (rI0 λi j=>.bl (decide (i<j))) (tD K oa) (tD K ob) (tD K oc) σ H Q:=by
 obtain⟨M,E,S,d,S',e,r,st,q⟩:=h
 obtain⟨⟨ws,S1⟩,e1,e⟩:=As e
 have zz:=Fs (K:=K) (σ:=σ) (fs:=[oa,ob]) (Q:=λvs H2=>∃i j:Int,vs=[V.int i,V.int j]/\rI0 (λi j=>.bl (decide (i<=j))) (.int i) (.int j) H2 λz H3=>∃k,z=.bl k/\(if k=true then tD K oc σ H3 λw' H4=>rI0 (λi j=>.bl (decide (i<j))) (.int j) w' H4 Q else Q (.bl false) H3)) e1 r st (λvs H1 M1 g1 st1 r1=>by
  dsimp only at e
  split at e
  .rename_i i j
   have hv:=WD r1
   refine⟨i,j,hv,i,j,rfl,rfl,_,rfl,?_⟩
   by_cases hij:i<=j
   .rw[tK hij]at e
    rw[tK (by simpa using hij)]
    obtain⟨⟨w2,S2⟩,e2,e⟩:=As e
    dsimp only at e
    split at e
    .rename_i k
     cases e
     refine⟨M1,E,S1,_,_,e2,r.step g1.st,st1,λv H2 M2 g2 st2 r2=>?_⟩
     cases r2
     exact⟨j,k,rfl,rfl,q _ _ M2 (g1.trans g2) st2 (.bl _)⟩
    .cases e
   .rw[tN hij]at e
    cases e
    rw[tN (by simpa using hij)]
    exact q _ _ M1 g1 st1 (.bl _)
  .cases e)
 refine G6 (show tD K oa σ H _ from zz) λx H1 z1=>G6 z1 λy H2 z2=>?_
 obtain⟨i,j,ev,z2⟩:=z2
 cases ev
 exact z2
theorem kX{a b c:sk}{oa ob oc:Ev}(ha:DE X a oa)(hb:DE X b ob)(hc:DE X c oc)(hm:lastMarks [.LtE,.Lt] [b,c]=false:=by with_unfolding_all rfl):DE X (.Compare a [.LtE,.Lt] [b,c] pos) (Pm oa ob oc):=⟨
 Bv (Xk gc gn ha.pe hb.pe hc.pe hm) λ_ _ _ h=>lW h⟩
end
theorem nI{K:Wp}{h:tT}{mg:Str->sD W1}{xs:Gc Str}{y:Str}{C':sF}(X:K.In h)(G:h.Ns mainGlobals mg)(e:uR K mainGlobals y=Fk (Fk (.ref C')))(t:∀x∈xs,∃C,uR K mainGlobals x=Fk (Fk (.ref C))/\wx K (.ref C) (.ref C')=Fk (x==y)):XmD K mg xs y:=⟨C',wC X G e,λx hx C hm=>by
 obtain⟨C2,e2,q⟩:=t x hx
 have:=hm.symm.trans (wC X G e2)
 cases this
 exact q⟩
theorem all_nil{p:Str->Prop}:∀x∈([]:Gc Str),p x:=λ_ z=>nomatch z
theorem all_cons{p:Str->Prop}{x:Str}{xs:Gc Str}(h:p x)(t:∀x∈xs,p x):∀y∈x::xs,p y:=λy m=>by
 rcases sN.mp m with rfl|m
 .exact h
 .exact t y m
noncomputable def Yr{α β:Type}(f:α->sD β):Gc α->sD (Gc β)
 | []=>Fk []
 |a::as=>(f a).bind λb=>(Yr f as).map λbs=>b::bs
section
variable{X:Cx}{pins:Gc (sF×Obj)}{σ:Sg}{H:Hp}{s:sE}{M:Ms}{S:Sto}
end
section
variable{X:Cx}{a b:sk}{fa fb:Ev}{pos:Pos}
end
theorem RI:∀{ns:Gc Int} {us:Gc W1},Vals (ns.map V.int) us->uz us ns
 | [],_,h=>by cases h;exact .nil
 |n::ns,_,h=>by
  cases h with
  |cons h t=>
   obtain⟨k,rfl⟩:=h
   exact .cons n k (RI t)
section
variable{prog:sj}{w:tu}{A:tM}{R:Result->sE->Prop}{I:sF}{fp wr:Gc sF}{n:Nat}{P:Nat->W1->Prop}{St:Nat->tT->Prop}{bt:Nat->Nat->tV}{d:W1}{kw:Gc (Str×W1)}{S:sF}{T:tT->Prop}
def oS(prog:sj)(w:tu)(A:tM)(T:tT->Prop)(P:Nat->W1->Prop)(bt:Nat->Nat->tV):Prop:=
 ∀i j u v (s:sE) (Q:W1->sE->Prop) (E:W1->sE->Prop),T s.heap->P i u->P j v->Q (.bool (bt i j)) s->wpAny (model prog w) A (richCompare .Lt u v) Q E s
def Keeps(T:tT->Prop)(wr:Gc sF)(S:sF):Prop:=∀h h':tT,(∀b o,b∉wr->b≠S->h.get? b=Fk o->h'.get? b=Fk o)->T h->T h'
abbrev Zp(I S:sF)(kw:Gc (Str×W1)):Code:=.builtin "min.loop" ⟨[.ref I,.none,.ref S],kw⟩
abbrev bst(xs:uI W1)(c:Nat):Obj:={cls:=.type "list",dict:=none,data:=.seq xs c,slots:= #[]}
theorem nmL:(toString "min" ++toString ".loop":ug)="min.loop":=by decide
theorem Ui(W:Walks prog w A.in1 I fp wr n P St)(hc:oS prog w A.in1 T P bt)(kT:Keeps T wr S)(hS:S∉fp):∀(k j:Nat) (s:sE) (v:W1) (c:Nat),n-(j+1)=k->j+1<=n->St (j+1) s.heap->P (argBest bt j) v->s.heap.get? S=Fk (bst #[v,v] c)->T s.heap->(∀u h' tk,P (argBest bt (n-1)) u->(∀b o,b∉wr->b≠S->s.heap.get? b=Fk o->h'.get? b=Fk o)->R (.ok (.ret u)) {s with heap:=h',toks:=tk})->codeAny (model prog w) A (Zp I S kw) R s
 |0,j,s,v,c,e,le,st,pv,g,tt,hR=>by
  have hw:S∉wr:=λz=>hS (W.sub _ z)
  have en:j+1=n:=by lia
  refine zp zO ?_
  rw[yN vi _]
  refine rz (vH g rfl (show wpAny _ A.in1 (tryCatch (pyNext (.ref I)) _ >>= _) _ _ s from rz (xt (W.done s _ _ (en▸st) λh' tk kp=>?_))))
  refine(show wpAny _ A.in1 (updateSeq S (λ_=> #[]) >>= _) _ _ _ from rz (yV (kp S _ hw g) rfl (rz (wu (sR ?_)))))
  exact hR v _ tk (by rw[<-en];exact pv) λb o b1 b2 z=>(tH _ _ (uO b2)).trans (kp b o b1 z)
 |k+1,j,s,v,c,e,le,st,pv,g,tt,hR=>by
  have hw:S∉wr:=λz=>hS (W.sub _ z)
  have lt:j+1<n:=by lia
  refine zp zO ?_
  rw[yN vi _]
  refine rz (vH g rfl (show wpAny _ A.in1 (tryCatch (pyNext (.ref I)) _ >>= _) _ _ s from rz (xt (W.item (j+1) s _ _ lt st λu h' tk pu st' kp=>?_))))
  have g':=kp S _ hw g
  refine(show wpAny _ A.in1 (tryCatch (holding [u,u] (richCompare .Lt u v >>= _)) _ >>= _) _ _ _ from rz (xt (ua (rz (hc (j+1) (argBest bt j) u v _ _ _ (kT _ _ (λb o b1 _ z=>kp b o b1 z) tt) pu pv (rz (ua (vW (rz (wu (sR ?_)))))))))))
  by_cases hb:bt (j+1) (argBest bt j)=true
  .simp only[hb,xP]
   refine rz (yV g' rfl (rz (wu ?_)))
   rw[nmL]
   refine sR ⟨zD vi _,Ui W hc kT hS k (j+1) _ u _ (by lia) lt (W.frame _ _ _ st' λb bf o z=>(tH _ _ (λq:S=b=>hS (by rw[q];exact bf))).trans z) (by simp only[argBest,hb,xP];exact pu) (uQ _ g' rfl) (kT _ _ (λb o b1 b2 z=>(tH _ _ (uO b2)).trans (kp b o b1 z)) tt) λu' h2 tk2 pu' kp2=>?_⟩
   exact hR u' h2 tk2 pu' λb o b1 b2 z=>kp2 b o b1 b2 ((tH _ _ (uO b2)).trans (kp b o b1 z))
  .simp only[hb,xk,xS]
   refine rz (wu ?_)
   rw[nmL]
   refine sR ⟨zD vi _,Ui W hc kT hS k (j+1) _ v c (by lia) lt st' (by simp only[argBest,hb,xk,xS];exact pv) g' (kT _ _ (λb o b1 _ z=>kp b o b1 z) tt) λu' h2 tk2 pu' kp2=>?_⟩
   exact hR u' h2 tk2 pu' λb o b1 b2 z=>kp2 b o b1 b2 (kp b o b1 z)
theorem bS(hd:n=0->kw=[(("default":Str),d)])(W:Walks prog w A.in1 I fp wr n P St)(hc:oS prog w A.in1 T P bt)(kT:Keeps T wr S)(hS:S∉fp){s:sE}{c:Nat}(st:St 0 s.heap)(tt:T s.heap)(g:s.heap.get? S=Fk (bst #[] c))(hR:∀u h' tk,(if n=0 then u=d else P (argBest bt (n-1)) u)->(∀b o,b∉wr->b≠S->s.heap.get? b=Fk o->h'.get? b=Fk o)->R (.ok (.ret u)) {s with heap:=h',toks:=tk}):codeAny (model prog w) A (Zp I S kw) R s:=by
 have hw:S∉wr:=λz=>hS (W.sub _ z)
 refine zp zO ?_
 rw[yN vi _]
 by_cases n0:n=0
 .subst n0
  cases hd rfl
  refine rz (vH g rfl (show wpAny _ A.in1 (tryCatch (pyNext (.ref I)) _ >>= _) _ _ s from rz (xt (W.done s _ _ st λh' tk kp=>?_))))
  refine rz (yj (sR ?_))
  exact hR d _ tk (by simp) λb o b1 b2 z=>kp b o b1 z
 .refine rz (vH g rfl (show wpAny _ A.in1 (tryCatch (pyNext (.ref I)) _ >>= _) _ _ s from rz (xt (W.item 0 s _ _ (by lia) st λu h' tk pu st' kp=>?_))))
  have g':=kp S _ hw g
  show wpAny _ A.in1 (updateSeq S (λ_=> #[u,u]) >>= _) _ _ _
  refine rz ?_
  refine yV g' rfl ?_ (hz:=ux _)
  rw[nmL]
  refine sR ⟨zD vi _,Ui W hc kT hS (n-1) 0 _ u _ (by lia) (by lia) (W.frame _ _ _ st' λb bf o z=>(tH _ _ (λq:S=b=>hS (by rw[q];exact bf))).trans z) pu (uQ _ g' rfl) (kT _ _ (λb o b1 b2 z=>(tH _ _ (uO b2)).trans (kp b o b1 z)) tt) λu' h2 tk2 pu' kp2=>?_⟩
  exact hR u' h2 tk2 (by rw[tN n0];exact pu') λb o b1 b2 z=>kp2 b o b1 b2 ((tH _ _ (uO b2)).trans (kp b o b1 z))
end
section
variable{prog:sj}{w:tu}{A:tM}{E:W1->sE->Prop}{s:sE}
theorem bJ {id : ug} {b : xO} {args : Gc W1} {kw : Gc (Str × W1)} {Q : W1 -> sE -> Prop} (hk : builtinKind id = none) (hp : plainId id = true) (hb : entryFor table id = Fk b) (ha : argsOk id ⟨args, kw⟩) (hc : wpAny (model prog w) A.in1 (b ⟨args, kw⟩) (fun fin s' => match fin with
      | .done f => (match (Except.ok f : Result) with | .ok (.ret v) => Q v s' | .ok _ => vS | .error e => E e s')
      | .again c => c.quiet = true /\ codeAny (model prog w) A c (fun r s' => match r with | .ok (.ret v) => Q v s' | .ok _ => vS | .error e => E e s') s') E s) : wpAny (model prog w) A (call (.builtin id) args kw) Q E s := by
  refine wm (yO hp hb ?_)
  simp only [checkBuiltinCall, hk]
  cases e : Manifest.signature? id with
  | none => exact sR hc
  | some sig =>
    simp only [argsOk, e] at ha
    have z : Bind.checkArgs id sig ⟨args, kw⟩ = pure () := ha
    simp only [z]
    exact sR hc
abbrev Rl(nss:Gc (Gc Int))(i j:Nat):tV:=HT.lexLt (nss.getD i []) (nss.getD j [])
def VU(N:Nat)(vs:Gc W1)(nss:Gc (Gc Int))(h:tT):Prop:=∀(i:Nat) (u:W1),vs[i]?=Fk u->∃(a:sF) (its:uI W1),u=.ref a/\a<N/\zS h a its/\uz its.toList (nss.getD i [])
theorem kz{l:sF}{vs:Gc W1}{nss:Gc (Gc Int)}{d:W1}{kw:Gc (Str×W1)}{Q:W1->sE->Prop}(h0:vs.length=0->kw=[(("default":Str),d)])(hh:A.handled=none)(hu:A.in1.units<cLine)(hl:s.heap.IsList l vs.toArray)(ht:VU s.heap.objs.size vs nss s.heap)(h:∀u h' tk,(if vs.length=0 then u=d else vs[argBest (Rl nss) (vs.length-1)]?=Fk u)->(∀b o,s.heap.get? b=Fk o->h'.get? b=Fk o)->Q u {s with heap:=h',toks:=tk}):codeAny (model prog w) A (Zp s.heap.objs.size (s.heap.push {cls:=.type "list_iterator",data:=.fields #[.ref l,.int 0 0]}).objs.size kw) (λr s'=>match r with| .ok (.ret v)=>Q v s'| .ok _=>vS| .error e=>E e s') {s with heap:=(s.heap.push {cls:=.type "list_iterator",data:=.fields #[.ref l,.int 0 0]}).push {cls:=.type "list",data:=.seq #[] 0}}:=by
 obtain⟨o,ho,hc,n,hd⟩:=id hl
 have lt:=sW ho
 have sz:(s.heap.push {cls:=.type "list_iterator",data:=.fields #[.ref l,.int 0 0]}).objs.size=s.heap.objs.size+1:=uo ..
 refine bS (d:=d) (by simpa using h0) (T:=VU s.heap.objs.size vs nss) (bt:=Rl nss) (Walks.list (A:=A.in1) (by simpa using hh) s.heap.objs.size l (tE lt) vs.toArray) ?_ ?_ ?_ ⟨⟨_,sC _ (sg _ rfl),rfl,rfl⟩,(hl.push _).push _⟩ ?_ (sg _ rfl) λu h' tk hu' hk=>?_
 .intro i j u v s1 Q1 E1 tt pu pv q
  obtain⟨a,ia,rfl,_,ta,na⟩:=tt i u (by simpa using pu)
  obtain⟨b,ib,rfl,_,tb,nb⟩:=tt j v (by simpa using pv)
  exact HT.RU ta tb na nb hu q
 .intro h1 h2 kp tt i u e
  obtain⟨a,ia,rfl,la,⟨o1,e1,r1⟩,na⟩:=tt i u e
  refine⟨a,ia,rfl,la,⟨o1,kp a o1 (by rw[tJ];exact tE la) (by rw[sz];exact tE (xq la)) e1,r1⟩,na⟩
 .rw[sz,sN,tJ,zZ]
  exact⟨wM (zN _),wM (xq lt)⟩
 .intro i u e
  obtain⟨a,ia,rfl,la,⟨o1,e1,r1⟩,na⟩:=ht i u e
  exact⟨a,ia,rfl,la,⟨o1,sC _ (sC _ e1),r1⟩,na⟩
 .refine h u h' tk ?_ λb o e=>?_
  .rw[sY]at hu'
   by_cases z:vs.length=0
   .rw[tK z]at hu' ⊢; exact hu'
   .rw[tN z]at hu' ⊢; simpa using hu'
  .have lb:=sW e
   exact hk b o (by rw[tJ];exact tE lb) (by rw[sz];exact tE (xq lb)) (sC _ (sC _ e))
theorem YK{l:sF}{vs:Gc W1}{nss:Gc (Gc Int)}{d:W1}{Q:W1->sE->Prop}(hh:A.handled=none)(hu:A.in1.units<cLine)(hl:s.heap.IsList l vs.toArray)(ht:VU s.heap.objs.size vs nss s.heap)(h:∀u h' tk,(if vs.length=0 then u=d else vs[argBest (Rl nss) (vs.length-1)]?=Fk u)->(∀b o,s.heap.get? b=Fk o->h'.get? b=Fk o)->Q u {s with heap:=h',toks:=tk}):wpAny (model prog w) A (call (.builtin "min") [.ref l] [("default",d)]) Q E s:=by
 refine bJ F.kind_min F.plain_min F.entry_min (by unfold argsOk;kernel_rfl) ?_
 show wpAny _ A.in1 (ye "min" ["key","default"] 0 ⟨[],[("default",d)]⟩ >>= _) _ _ s
 refine rz (wpAny_of_eq (show ye "min" ["key","default"] 0 ⟨[],[("default",d)]⟩=pure [none,Fk d]from rfl) (rz (sR (rz (uy hl ?_)))))
 refine rz (vF ?_)
 rw[nmL]
 exact sR ⟨zD vi _,kz (d:=d) (λ_=>rfl) hh hu hl ht h⟩
end
noncomputable def tMn(K:Wp)(ta:TA)(tb:TE):TE:=λσ H Q=>ta σ H λvs H1=>tb σ H1 λy H2=>∃(l:sF) (xs:Gc V) (nss:Gc (Gc Int)),vs=[.ref l]/\H2 l=Fk (.lst xs)/\(∀(i:Nat) (v:V),xs[i]?=Fk v->∃a,v=.ref a/\SqT K H2 a ((nss.getD i []).map V.int))/\
 Q (match xs with| []=>y|_=>xs.getD (argBest (Rl nss) (xs.length-1)) .non) H2
theorem mD{X:Cx}{a b:sk}{ta:TA}{tb:TE}{p pos kp:Pos}(hc:X.calm=true)(hu:X.A.units+100<cLine)(hg:Gl X "min")(hm:X.mg "min"=none)(ha:PA X [a] ta)(hb:PE X b tb)(hs:backTo pos (sf [a] X.env)=(false,eval a X.env)::backTo pos (sf [] X.env):=by rfl)(hp:(backTo pos (sf [a] X.env)).any (·.1)=false:=by rfl):PE X (.Call (.Name "min" p) [a] [⟨Fk "default",b,kp⟩] pos) (tMn X.K ta tb):=by
 intro pins s σ H Q I h
 refine vC (Lg I hg hm PyProof.Rows.boot_min ?_ (by decide) (by decide))
 refine PyProof.Rows.callWith_kw (thn (ha pos pins s σ H _ I h) λus s1 ⟨vs,H1,I1,r1,q1⟩=>PyProof.Rows.kws_cons (thn (hb pins s1 σ H1 _ I1 q1) λu s2 ⟨y,H2,I2,r2,q2⟩=>PyProof.Rows.kws_nil ?_)) hs hp
 obtain⟨l,xs,nss,e,hl,ht,q⟩:=q2
 subst e
 cases r1 with
 |cons r rr=>
  cases rr
  cases r
  obtain⟨its,rv,o,n,eo,ho,hd⟩:=Ii I2 (.inl hl)
  have hlen:=rv.length
  refine YK (vs:=its) (nss:=nss) (I2.ok.hd hc) (show X.A.units+1<cLine by lia) ⟨o,eo,ho,n,hd⟩ ?_ λv h' tk hv hk=>?_
  .intro i w ew
   have hi:i<xs.length:=by rw[hlen];exact(sO.mp ew).1
   obtain⟨w',ew',rw'⟩:=rv.get (sA hi)
   rw[ew]at ew';cases ew'
   obtain⟨c,ec,hT⟩:=ht i _ (sA hi)
   rw[ec]at rw'
   cases rw'
   obtain⟨its2,rv2,tp,_⟩:=I2.tuple hT
   exact⟨c,its2.toArray,rfl,tp.lt,tp,by simpa using RI rv2⟩
  .have I3:=I2.kept (t':=tk) hk
   cases xs with
   |nil=>
    have:its.length=0:=by simpa using hlen.symm
    rw[tK this]at hv
    subst hv
    exact⟨y,H2,I3,r2,q⟩
   |cons x xs=>
    have hn:¬its.length=0:=by rw[<-hlen];simp
    rw[tN hn,<-hlen]at hv
    have hi:argBest (Rl nss) ((x::xs).length-1)<(x::xs).length:=Nat.lt_of_lt_of_eq (sO.mp hv).1 hlen.symm
    obtain⟨w',ew',rw'⟩:=rv.get (sA hi)
    rw[hv]at ew';cases ew'
    refine⟨_,H2,I3,rw',?_⟩
    have eg:(x::xs).getD (argBest (Rl nss) ((x::xs).length-1)) .non=(x::xs)[argBest (Rl nss) ((x::xs).length-1)]:=by rw[sG,sA hi];rfl
    rw[<-eg]
    exact q
noncomputable def tupI:D->sD (Gc Int)
 | .tup es=>IJ es
 |_=>none
noncomputable def cS(u:D)(nss:Gc (Gc Int)):Gc D->D
 | []=>u
 |d::ds=>(d::ds).getD (argBest (Rl nss) ((d::ds).length-1)) .non
noncomputable def mnK(p q:D×Sto):sD (D×Sto):=match p.1 with
 | .lst ds=>(Yr tupI ds).map λnss=>(cS q.1 nss ds,q.2)
 |_=>none
noncomputable def eMn(fa fb:Ev):Ev:=λE S=>(fa E S).bind λp=>(fb E p.2).bind λq=>mnK p q
section
variable{K:Wp}{M:Ms}{H:Hp}
theorem N9:∀{xs:Gc V} {ds:Gc D} {nss:Gc (Gc Int)},Aj K M H xs ds->Yr tupI ds=Fk nss->∀(i:Nat) (v:V),xs[i]?=Fk v->∃a,v=.ref a/\SqT K H a ((nss.getD i []).map V.int)
 |_,_,_,.nil,_,i,v,e=>by simp at e
 |_,_,_,.cons h t,em,i,v,e=>by
  obtain⟨ns,e1,em⟩:=As em
  obtain⟨nss,e2,em⟩:=JE em
  cases em
  cases i with
  |zero=>
   simp at e
   subst e
   cases h with
   |tup hq rs=>
    have:=JU rs e1
    subst this
    exact⟨_,rfl,by simpa using hq⟩
   |_=>cases e1
  |succ i=>
   simp at e
   simpa using N9 t e2 i v e
theorem VM{xs:Gc V}{ds:Gc D}(h:Aj K M H xs ds)(k:Nat):Br K M H (xs.getD k .non) (ds.getD k .non):=h.ind (P:=λxs ds=>∀k:Nat,Br K M H (xs.getD k .non) (ds.getD k .non)) (λk=>by simp;exact .non) (λh t k=>by
 cases k with
 |zero=>simpa using h
 |succ k=>simpa using t k) k
end
theorem qD{X:Cx}{a b:sk}{oa ob:Ev}{p pos kp:Pos}(hc:X.calm=true)(hu:X.A.units+100<cLine)(hg:Gl X "min")(hm:X.mg "min"=none)(ha:DEs X [a] [oa])(hb:DE X b ob)(hs:backTo pos (sf [a] X.env)=(false,eval a X.env)::backTo pos (sf [] X.env):=by rfl)(hp:(backTo pos (sf [a] X.env)).any (·.1)=false:=by rfl):DE X (.Call (.Name "min" p) [a] [⟨Fk "default",b,kp⟩] pos) (eMn oa ob):=⟨
 Bv (mD hc hu hg hm ha.pe hb.pe hs hp) λσ H Q z=>by
  obtain⟨M,E,S,d,S',e,r,st,q⟩:=z
  obtain⟨⟨w,S1⟩,e1,e⟩:=As e
  obtain⟨⟨u,S2⟩,e2,e3⟩:=As e
  have e1':evs [oa] E S=Fk ([w],S1):=by
   show(oa E S).bind (λr=>(evs [] E r.2).map λq=>(r.1::q.1,q.2))=_
   rw[e1];rfl
  refine Fs e1' r st λvs H1 M1 g1 st1 r1=>?_
  refine⟨M1,E,S1,u,S2,e2,r.step g1.st,st1,λy H2 M2 g2 st2 r2=>?_⟩
  cases w with
  |lst ds=>
   obtain⟨nss,en,e4⟩:=JE (show(Yr tupI ds).map (λnss=>(cS u nss ds,S2))=Fk (d,S')from e3)
   cases r1 with
   |cons r1 rn=>
    cases rn
    have r1':=r1.step g2.st
    cases r1' with
    |lst h n rs=>
     rename_i a' xs
     refine⟨_,xs,nss,rfl,h,N9 rs en,?_⟩
     cases rs with
     |nil=>
      cases e4
      exact q _ _ M2 (g1.trans g2) st2 r2
     |cons h1 t1=>
      have hl:=(Aj.cons h1 t1).length
      cases e4
      show Q (List.getD _ (argBest (Rl nss) _) _) H2
      rw[hl]
      exact q _ _ M2 (g1.trans g2) st2 (VM (Aj.cons h1 t1) _)
  |_=>cases e3⟩
end Mi
end
noncomputable section
namespace Mi
open PySem PySem.Spec L2 PyProof.Rows
abbrev eIx(a b:Ev):Ev:=eOp (o2 wIx) [a,b]
abbrev eI(n:Int):Ev:=eC (.int n)
theorem scM{N P:Gc Str}{sc:uZ}(a:sc.kind=.function:=by rfl)(b:sc.isCoroutine=false:=by rfl)(c:sc.isGenerator=false:=by rfl)(d:N.Nodup:=by decide+kernel)(e:N.take P.length=P:=by rfl)(f:∀x∈P,sc.names.lookup x=Fk .local\/sc.names.lookup x=Fk .cell:=by decide+kernel)(g:∀y∈sc.names,y.2≠.free:=by decide+kernel):BP N P sc:=⟨a,b,c,d,e,f,g⟩
theorem csM{N:Gc Str}{osc:uZ}{N':Gc Str}{ix:Gc (sD Nat)}{scope:uZ}(a:scope.kind=.function:=by rfl)(b:∀y∈scope.names,y.2=.cell->scope.names.lookup y.1=Fk .cell:=by decide+kernel)(c:∀y∈scope.names,y.2=.local->scope.names.lookup y.1=Fk .local:=by decide+kernel)(d:∀y∈scope.names,y.2=.free->(osc.names.lookup y.1=Fk .cell\/osc.names.lookup y.1=Fk .free):=by decide+kernel)(e:Qc N osc scope N' ix=true:=by decide+kernel):AO N osc N' ix scope:=⟨a,b,c,d,e⟩
theorem len0{α:Type}{us:Gc α}(h:us.length=0):us=[]:=List.eq_nil_of_length_eq_zero h
theorem mh{α:Type}{us:Gc α}{n:Nat}(h:us.length=n+1):∃a r,us=a::r/\r.length=n:=by
 cases us with
 |nil=>cases h
 |cons a r=>exact⟨a,r,rfl,Nat.succ.inj h⟩
theorem Ke{α:Type}{us:Gc α}(h:us.length=1):∃a,us=[a]:=by
 obtain⟨a,r,rfl,k⟩:=mh h
 obtain rfl:=len0 k
 exact⟨a,rfl⟩
theorem Ye{α:Type}{us:Gc α}(h:us.length=2):∃a b,us=[a,b]:=by
 obtain⟨a,r,rfl,k⟩:=mh h
 obtain⟨b,rfl⟩:=Ke k
 exact⟨a,b,rfl⟩
theorem jL{α:Type}{us:Gc α}(h:us.length=3):∃a b c,us=[a,b,c]:=by
 obtain⟨a,r,rfl,k⟩:=mh h
 obtain⟨b,c,rfl⟩:=Ye k
 exact⟨a,b,c,rfl⟩
theorem qm{us:Gc W1}{n:Nat}(h:us.length=n):∃f:Nat->W1,us=(tL n).map f:=by
 refine⟨λi=>us.getD i .none,?_⟩
 subst h
 apply yH
 .simp
 .intro i h1 h2
  rw[zP,AAs,sG,sA h1];rfl
def BnR(x:Str)(st:tP)(ps:Gc Str):Prop:=∀(kV doc pm:W1) (an:sD sF) (cdv ct:W1) (f:Nat->W1),bindArgs (v3 x x (Ir st) (Ba st) (AF st) .none kV doc pm an cdv ct) ⟨(tL ps.length).map f,[]⟩=pure (ps.zip ((tL ps.length).map f))
theorem bnR{K:Wp}{x:Str}{st:tP}{ps:Gc Str}{f:sF}{fd:vD}(F:Fun K x x st f fd)(h:BnR x st ps):Binds K fd ps []:=F.binds λa b c d e g us hl=>by
 obtain⟨k,rfl⟩:=qm hl
 exact h a b c d e g k
section
variable{P:sj}{w:tu}{K:Wp}{mg:Str->sD W1}{base:tT}
theorem dfM{x:Str}{st:tP}{N ps:Gc Str}(k:Nat){np:Nat}{b:Ex}(S:St.Src K mg x st)(sc:BP N ps (AF st))(hb:∀{f:sF} {cdv:W1} {A:tM} {outer:Gc uY} {s:sE} {H:Hp} {E:XK},Eg k (A.deeper (tQ x (AF st) s.heap.objs.size f cdv))->(A.deeper (tQ x (AF st) s.heap.objs.size f cdv)).units+100<cLine->DSs (IK CX0 P w K mg base N x (AF st) f cdv A outer s H E).nox (Ba st) b)(hp:ps.length=np:=by rfl)(hbi:BnR x st ps:=by exact λ_ _ _ _ _ _ _=>rfl):St.Dfn P w K mg base x (k+1) ps (spD K np (AY (Af N.length b))):=eG S sc hp (λ_ _ F=>bnR F hbi) λ_ _ _ _ _ _ _ hr=>hb hr (NB hr)
end
theorem deM{X:Cx}{k k' np:Nat}{x:Str}{ps:Gc Str}{f:Fn}{e:sk}{es:Gc sk}{fs:Gc Ev}{p pos:Pos}(d:St.Dfn X.prog X.w X.K X.mg X.base x k ps (spD X.K np f))(hr:Eg k' X.A)(ha:DEs X (e::es) fs)(hk:k<=k':=by first|decide|lia)(hg:Gl X x:=by exact rfl)(hn:fs.length=np:=by rfl)(hdb:(x==("__debug__":Str))=false:=by decide)(he:sf (e::es) X.env=(false,eval e X.env)::sf es X.env:=by rfl)(hpl:(backTo pos (sf es X.env)).any (·.1)=false:=by rfl):DE X (.Call (.Name x p) (e::es) [] pos) (AB f fs):=bq d (hr.mono hk) hg ha hn hdb he hpl
end Mi
end
noncomputable section
namespace Mi
open PySem PySem.Spec L2 PyProof.Rows
def BmB(mg:Str->sD W1)(base:tT):Prop:=
 ∃bm o,mg "__builtins__"=Fk (.ref bm)/\bm≠builtinsNs/\bm≠mainGlobals/\base.get? bm=Fk o/\o.cls=.type "module" /\o.dict=Fk builtinsNs/\o.data=.plain
theorem Js.hd{K:Wp}{h:tT}{c P:sF}(k:Js K c P)(X:K.In h):PySem.W.CodeHd h c P:=by
 obtain⟨o,vs,file,tf,flags,tg,inF,text,tt,h0,r⟩:=k
 exact⟨o,vs,file,tf,flags,tg,inF,text,tt,X _ _ h0,r⟩
theorem Rh{pos:Pos}{a b:Int}{v cv:W1}{l:Gc W1}(h:TriplesOk l)(e:codeAmong pos (l++[rawInt a,rawInt b,v])=Fk cv):codeAmong pos l=Fk cv\/cv=v:=by
 induction l using TriplesOk.induct with
 |case1=>
  rw[tF,wy]at e
  unfold rawInt at e
  dsimp only at e
  split at e
  .cases e;exact .inr rfl
  .rw[wy]at e;cases e
 |case2 i t1 j t2 w r ih=>
  rw[TriplesOk.eq_def]at h
  rw[tU,tU,tU,wy]at e
  rw[wy]
  dsimp only at e h⊢
  split at e
  .rename_i z;rw[tK z];exact .inl e
  .rename_i z;rw[tN z];exact ih h e
 |case3 l n1 n2=>
  rw[TriplesOk.eq_def]at h
  split at h
  .exact(n1 rfl).elim
  .exact(n2 _ _ _ _ _ _ rfl).elim
  .exact h.elim
structure Pq(X:Cx)(pins:Gc (sF×Obj))(σ:Sg)(H:Hp)(s:sE)(x:Str)(P:sF)(params:yg)(body:sk)(sc:uZ)(clos:Gc (Str×sF))(f:sF)(H':Hp)(s':sE):Prop where
 inv:Inv X pins σ H' s'
 fn:∃pm c' ctv o,s'.heap.get? f=Fk (zq "<lambda>" (LM x) params body sc clos pm c' ctv)/\H' c'=Fk (.frz o (.own 0))/\TN (LM x) o
 new:s.heap.objs.size<=f
 tab:∃ps,H' P=Fk (.tbl ps)/\Rp X.K H' x P ps
 keep:∀b o,H b=Fk o->b≠P->H' b=Fk o
 none:H' f=none
theorem Xf{X:Cx}{pins:Gc (sF×Obj)}{σ:Sg}{H:Hp}{s:sE}{params:yg}{body:sk}{sc:uZ}{pos:Pos}{x:Str}{c P:sF}{ps:uI W1}{clos:Gc (Str×sF)}{Q:W1->sE->Prop}{E:W1->sE->Prop}(I:Inv X pins σ H s)(hqual:X.env.qual=x++(".<locals>.":Str))(hdf:defaultsOf params X.env=([],[]))(hcl:closureFor sc X.env=pure clos)(hcode:X.env.code=.ref c)(hcd:Js X.K c P)(bm:BmB X.mg X.base)(hP:H P=Fk (.tbl ps))(tok:Rp X.K H x P ps)(hQ:∀f H' s',Pq X pins σ H s x P params body sc clos f H' s'->Q (.ref f) s'):wpAny (model X.prog X.w) X.A (eval (.Lambda params body sc pos) X.env) Q E s:=by
 have hG:s.heap.Ns mainGlobals X.mg:=I.mod.glob.keeps I.bk
 have hCH:=hcd.hd I.kIn
 have hT:s.heap.get? P=Fk (xu ps):=I.hok P _ hP
 have hq:X.env.qual++("<lambda>":Str)=LM x:=by rw[hqual];rfl
 obtain⟨b0,ob,m1,m2,m3,m4,m5,m6,m7⟩:=bm
 have nb:b0≠P:=λz=>by
  have:=(I.bs b0 ob m4).2
  rw[z,hP]at this;cases this
 have hB:s.heap.BuiltinsAt X.mg P:=⟨b0,ob,m1,m2,m3,nb,I.bk _ _ m4,m5,m6,m7⟩
 have gP:mainGlobals≠P:=λz=>by
  obtain⟨o,es,ep,ho,_⟩:=id I.mod.glob
  have:=(I.bs _ o ho).2
  rw[z,hP]at this;cases this
 refine PySem.W.kla_eval hdf ?_
 cases hh:codeAmong pos ps.toList with
 |some cv=>
  refine PySem.W.kla_makeFunctionHit hcl I.ok.glob hG hcode hCH hT tok.tri hh hB λctv h' tk kp sz=>?_
  obtain⟨c',o,rfl,hz,vs,t,n1,n2⟩:=tok.cod pos cv hh
  have hcc:s.heap.get? c'=Fk o:=(I.hok c' _ hz).1
  have kp2:∀b u,s.heap.get? b=Fk u->(h'.push {cls:=zR "function",data:=Data.func (xv "<lambda>" (X.env.qual++("<lambda>":Str)) params body sc clos ((X.mg "__name__").getD tZ) (.ref c') ctv)}).get? b=Fk u:=λb u e=>sC _ (kp b u e)
  refine hQ _ H _ ⟨I.kept (t':=tk) kp2,⟨_,c',ctv,o,by rw[<-hq];exact sg _ rfl,hz,vs,t,n1,n2⟩,sz,⟨ps,hP,tok⟩,λ_ _ e _=>e,I.hok.fresh sz⟩
 |none=>
  refine PySem.W.kla_makeFunction hcl I.ok.glob hG hcode hCH hT tok.tri hh gP hB λc' ctv h' tk ext l1 l2 crec ht=>?_
  rw[hq]at crec
  generalize hfo:(zq "<lambda>" (X.env.qual++("<lambda>":Str)) params body sc clos ((X.mg "__name__").getD tZ) c' ctv)=fo
  have hfo2:fo=zq "<lambda>" (LM x) params body sc clos ((X.mg "__name__").getD tZ) c' ctv:=by rw[<-hfo,hq]
  obtain⟨c1,o,vs,t,ec,ho,hd,hv⟩:=id crec
  cases ec
  have kp:∀b u,b≠P->s.heap.get? b=Fk u->(h'.push fo).get? b=Fk u:=λb u n e=>sC _ (ext b u n e)
  have nH:H c'=none:=I.hok.fresh l1
  have cP:c'≠P:=λz=>by rw[z,hP]at nH;cases nH
  generalize hmo:ps++ #[rawInt ↑pos.line,rawInt ↑pos.col,tw c']=ps2 at ht
  let H':Hp:=upd (upd H c' (.frz o (.own 0))) P (.tbl ps2)
  have hk:∀b u,H b=Fk u->b≠P->H' b=Fk u:=λb u e n=>by
   show upd (upd H c' (.frz o (.own 0))) P (.tbl ps2) b=Fk u
   rw[Ad n,Ad (λz=>by rw[z,nH]at e;cases e)]
   exact e
  have hc1:H' c'=Fk (.frz o (.own 0)):=by
   show upd (upd H c' (.frz o (.own 0))) P (.tbl ps2) c'=_
   rw[Ad cP,Av]
  have hP':H' P=Fk (.tbl ps2):=Av
  have hn:∀b,b≠P->b≠c'->H b=none->H' b=none:=λb n1 n2 e=>by
   show upd (upd H c' (.frz o (.own 0))) P (.tbl ps2) b=none
   rw[Ad n1,Ad n2];exact e
  have pP:(h'.push fo).get? P=Fk (xu ps2):=sC _ ht
  have po:(h'.push fo).get? c'=Fk o:=sC _ ho
  have fz:fo.isFreed=false:=by rw[<-hfo];rfl
  have un:Un X.fs [] H H' s.heap (h'.push fo):=by
   refine⟨λb u e n _ _=>kp b u (λz=>?_) e,λb u e n _ _=>⟨u.slots,kp b u (λz=>?_) e⟩,λb u e n _=>hn b (λz=>?_) (λz=>?_) n,λb u e _=>?_,λb xs e=>hk b _ e (λz=>?_),λb u v e=>hk b _ e (λz=>?_),λb qs e=>?_⟩
   .rw[z,hP]at n;cases n
   .rw[z,hP]at n;cases n
   .rw[z,hP]at n;cases n
   .subst z;exact absurd (sI (sW e) l1) (uj _)
   .by_cases z:b=P
    .subst z;exact⟨_,pP⟩
    .exact⟨u,kp b u z e⟩
   .rw[z,hP]at e;cases e
   .rw[z,hP]at e;cases e
   .by_cases z:b=P
    .subst z
     rw[hP]at e;cases e
     exact⟨_,by rw[hmo];exact hP'⟩
    .exact⟨#[],by rw[Array.append_empty];exact hk b _ e z⟩
  have hok:HOk X.prog X.w H' (h'.push fo):=λa u q=>by
   by_cases z:a=P
   .subst z
    rw[hP']at q;cases q
    exact pP
   .by_cases z2:a=c'
    .subst z2
     rw[hc1]at q;cases q
     exact⟨po,o,po⟩
    .have q0:H a=Fk u:=by
      have:H' a=H a:=by
       show upd (upd H c' (.frz o (.own 0))) P (.tbl ps2) a=_
       rw[Ad z,Ad z2]
      rw[<-this];exact q
     refine(I.hok a u q0).Sj (λb v hb e=>kp b v (λzz=>?_) e) (λb e=>hk b _ e (λzz=>?_)) λb xs e=>hk b _ e (λzz=>?_)
     .rcases hb with hb|hb
      .exact z (hb.symm.trans zz)
      .rw[zz,hP]at hb;cases hb
     .rw[zz,hP]at e;cases e
     .rw[zz,hP]at e;cases e
  have sz:s.heap.objs.size<=h'.objs.size:=xX (uT l1 l2)
  have nF:H' h'.objs.size=none:=hn _ (λz=>by rw[<-z]at ht;exact absurd (sW ht) (uj _)) (λz=>by rw[<-z]at l2;exact uj _ l2) (I.hok.fresh sz)
  refine hQ _ H' _ ⟨I.un (t':=tk) un hok,⟨_,c',ctv,o,by rw[<-hfo2];exact sg _ fz,hc1,vs,t,hd,hv⟩,sz,⟨ps2,hP',?_⟩,hk,nF⟩
  refine⟨by rw[<-hmo];simpa using TriplesOk_snoc pos.line pos.col (.ref c') ps.toList tok.tri,tok.tat,λpos' cv e=>?_⟩
  rw[<-hmo]at e
  rcases Rh (l:=ps.toList) tok.tri (by simpa using e)with z|z
  .obtain⟨c2,o2,z1,z2,z3⟩:=tok.cod pos' cv z
   exact⟨c2,o2,z1,hk _ _ z2 (λzz=>by rw[zz,hP]at z2;cases z2),z3⟩
  .exact⟨c',o,z,hc1,vs,t,hd,hv⟩
end Mi
end
noncomputable section
namespace Mi
open PySem PySem.Spec L2
section
open PyProof.Rows (Below)
structure MI(H:Hp)(h:tT)(x:Str)(body:sk)(sc:uZ)(clos:Gc (Str×sF))(N:Gc Str)(σc:Sg)(f:sF):Prop where
 fn:∃params pm c' ctv o oc,h.get? f=Fk o/\o.data=.func (xv "<lambda>" (LM x) params body sc clos pm (.ref c') ctv)/\H c'=Fk (.frz oc (.own 0))/\TN (LM x) oc/\bindArgs (xv "<lambda>" (LM x) params body sc clos pm (.ref c') ctv) ⟨[],[]⟩=pure []
 nof:H f=none
 cell:∀y c,clos.lookup y=Fk c->(∃v,h.IsCell c v)/\H c=none
 inj:∀y z c,clos.lookup y=Fk c->clos.lookup z=Fk c->y=z
 has:∀y,(sc.names.lookup y=Fk .cell\/sc.names.lookup y=Fk .free)->∃c,clos.lookup y=Fk c
 val:∀(i:Nat) (y:Str) (v:V),N[i]?=Fk y->σc[i]?=Fk (Fk v)->Vis sc y->sc.names.lookup y=Fk .free/\∃c u,clos.lookup y=Fk c/\h.IsCell c (Fk u)/\RelV v u
 len:σc.length=N.length
 kind:sc.kind=.function
 co:sc.isCoroutine=false
 gen:sc.isGenerator=false
 MK:∀y∈sc.names,y.2≠.cell
theorem MI.later{H H':Hp}{h h':tT}{x:Str}{body:sk}{sc:uZ}{clos:Gc (Str×sF)}{N:Gc Str}{σc:Sg}{f:sF}{fs:Gc sF}(L:MI H h x body sc clos N σc f)(u:Un fs [] H H' h h'):MI H' h' x body sc clos N σc f:=by
 have cl:∀c v,h.IsCell c v->H c=none->h'.IsCell c v:=λc v ⟨o,ho,hd⟩ n=>by
  obtain⟨sl,q⟩:=u.any ho n (by simp)
  exact⟨_,q,hd⟩
 obtain⟨params,pm,c',ctv,o,oc,h1,h2,h3,h4,h5⟩:=L.fn
 obtain⟨sl,q⟩:=u.any h1 L.nof (by simp)
 refine⟨⟨params,pm,c',ctv,_,oc,q,h2,u.Sq _ _ _ h3,h4,h5⟩,u.free f o h1 L.nof (by simp),λy c e=>?_,L.inj,L.has,λi y v e1 e2 e3=>?_,L.len,L.kind,L.co,L.gen,L.MK⟩
 .obtain⟨⟨v,z⟩,n⟩:=L.cell y c e
  obtain⟨o',ho',_⟩:=id z
  exact⟨⟨v,cl c v z n⟩,u.free c o' ho' n (by simp)⟩
 .obtain⟨k,c,w,e,z,r⟩:=L.val i y v e1 e2 e3
  exact⟨k,c,w,e,cl c _ z (L.cell y c e).2,r⟩
noncomputable def MJ(P:sj)(w:tu)(K:Wp)(mg:Str->sD W1)(base:tT)(N:Gc Str)(x:Str)(sc:uZ)(clos:Gc (Str×sF))(f c':sF)(A:tM)(outer:Gc uY)(s:sE)(H:Hp):Cx where
 prog:=P
 w:=w
 K:=K
 mg:=mg
 base:=base
 A:=A.deeper (vU (LM x) sc s.heap.objs.size f (.ref c') clos)
 N:=N
 s₀:=s
 H₀:=H
 env:=vU (LM x) sc s.heap.objs.size f (.ref c') clos
 outer:=outer
 stack:=vU (LM x) sc s.heap.objs.size f (.ref c') clos::outer
 ex:=[]
 calm:=true
 fn:=λ_=>false
 pn:=[]
 xe:=λ_ _=>vS
theorem VY{P:sj}{w:tu}{K:Wp}{mg:Str->sD W1}{base:tT}{N:Gc Str}{x:Str}{body:sk}{sc:uZ}{clos:Gc (Str×sF)}{f c':sF}{A:tM}{outer:Gc uY}{s:sE}{H:Hp}{σc:Sg}{h':tT}{tk:Nat}{m:Str->sD W1}(L:MI H s.heap x body sc clos N σc f)(hd:A.handled=none)(e0:YW P w K mg base A outer s H)(hns:h'.Ns s.heap.objs.size m)(kp:∀b o,s.heap.get? b=Fk o->h'.get? b=Fk o):Inv (MJ P w K mg base N x sc clos f c' A outer s H) [] σc H {s with heap:=h',toks:=tk}:=by
 have noA:∀b:sF,b∉(MJ P w K mg base N x sc clos f c' A outer s H).ex:=λb z=>absurd (show b∈([]:Gc sF)from z) (by simp)
 have cl:∀c v,s.heap.IsCell c v->h'.IsCell c v:=λc v ⟨o,ho,hd⟩=>⟨o,kp _ _ ho,hd⟩
 refine⟨⟨e0.mod,L.kind,rfl,rfl,sM _,L.inj,L.has,λy c z _=>absurd z (by intro q;cases q),λ_=>hd,z8 e0.frames,.inr ⟨rfl,rfl⟩,λb z=>absurd z (noA b),e0.bs,e0.bsz,λb _ _=>noA b,λb z=>absurd z (noA b),e0.QM,e0.frf⟩,
  rfl,e0.bare,Un.kept kp,⟨m,hns,λi y v e1 e2 e3=>?_⟩,λy c e=>?_,e0.hok.fresh (sM _),λy c e=>(L.cell y c e).2,λp hp=>absurd (show p∈([]:Gc (sF×Obj))from hp) (by simp),e0.hok.kept kp,L.len⟩
 .obtain⟨k,c,u,e,z,r⟩:=L.val i y v e1 e2 e3
  exact⟨u,r,.inr ⟨.inr k,c,e,cl c _ z⟩⟩
 .obtain⟨⟨v,z⟩,_⟩:=L.cell y c e
  exact⟨v,cl c v z⟩
theorem bC{X:Cx}{pins:Gc (sF×Obj)}{σ:Sg}{H:Hp}{s:sE}{x:Str}{body:sk}{sc:uZ}{clos:Gc (Str×sF)}{N:Gc Str}{σc:Sg}{f:sF}{k:Nat}{t:TE}{Q:VK}(I:Inv X pins σ H s)(hr:Eg (k+1) X.A)(L:MI H s.heap x body sc clos N σc f)(hb:∀c',Eg k (X.A.deeper (vU (LM x) sc s.heap.objs.size f (.ref c') clos))->PE (MJ X.prog X.w X.K X.mg X.base N x sc clos f c' X.A X.stack s H) body t)(ht:t σc H Q):wpAny (model X.prog X.w) X.A (call (.ref f) []) (EP X pins σ Q) X.xe s:=by
 obtain⟨params,pm,c',ctv,o,oc,h1,h2,h3,h4,h5⟩:=L.fn
 have cr:s.heap.CodeRec (.ref c') (LM x):=by
  obtain⟨vs,t,n1,n2⟩:=h4
  exact⟨c',oc,vs,t,rfl,(I.hok c' _ h3).1,n1,n2⟩
 refine wm (AAI hr.depth h1 h2 L.co L.gen rfl cr ?_)
 rw[h5]
 refine sR (AAJ L.MK (λ_ z=>nomatch z) (λh' hns sb=>?_) L.kind)
 have kp:∀b ob,s.heap.get? b=Fk ob->h'.get? b=Fk ob:=λb ob e=>by
  rw[sb.2 b (tE (sW e))]
  exact sC _ e
 have J:=VY (c':=c') (tk:=s.toks+0) L hr.hd I.dG hns kp
 refine⟨I.nolimit.keeps kp,AAK (uh (hb c' (hr.deeper _) [] _ σc H Q J ht) (λu s' z=>?_) λ_ _ z=>z.elim)⟩
 obtain⟨v,H',J',rv,q⟩:=z
 exact I.after ⟨v,H',J'.os,J'.bare,J'.base,J'.hok,rv,q⟩
theorem XU{X:Cx}{pins:Gc (sF×Obj)}{σ:Sg}{H:Hp}{s:sE}{x:Str}{body:sk}{sc:uZ}{clos:Gc (Str×sF)}{N:Gc Str}{σc:Sg}{f:sF}{k:Nat}{t:TR}{Z:Rk}(I:Inv X pins σ H s)(hr:Eg (k+1) X.A)(L:MI H s.heap x body sc clos N σc f)(hx:X.ex=[])(hb:∀c',Eg k (X.A.deeper (vU (LM x) sc s.heap.objs.size f (.ref c') clos))->PXe (MJ X.prog X.w X.K X.mg X.base N x sc clos f c' X.A X.stack s H) body t)(ht:t σc H λC od _ H'=>Z C od σ H'):wpAny (model X.prog X.w) X.A (call (.ref f) []) (λ_ _=>vS) (XP X pins Z) s:=by
 obtain⟨params,pm,c',ctv,o,oc,h1,h2,h3,h4,h5⟩:=L.fn
 have cr:s.heap.CodeRec (.ref c') (LM x):=by
  obtain⟨vs,t,n1,n2⟩:=h4
  exact⟨c',oc,vs,t,rfl,(I.hok c' _ h3).1,n1,n2⟩
 refine wm (AAI hr.depth h1 h2 L.co L.gen rfl cr ?_)
 rw[h5]
 refine sR (AAJ L.MK (λ_ z=>nomatch z) (λh' hns sb=>?_) L.kind)
 have kp:∀b ob,s.heap.get? b=Fk ob->h'.get? b=Fk ob:=λb ob e=>by
  rw[sb.2 b (tE (sW e))]
  exact sC _ e
 have J:=VY (c':=c') (tk:=s.toks+0) L hr.hd I.dG hns kp
 refine⟨I.nolimit.keeps kp,AAK (uh (hb c' (hr.deeper _) [] _ σc H _ J ht) (λ_ _ z=>z.elim) λev s' z=>?_)⟩
 obtain⟨e,C,od,σ',H',rfl,J',z,fl⟩:=z
 unfold leaving
 refine rz (NY J' J'.ok.frames rfl rfl fl (Fb J' rfl) λh2 t=>?_)
 have un:=TL J' rfl rfl rfl t
 have ok2:=QK J' t
 have fl2:=t.fly.fly
 show XP X pins Z (.ref e) _
 exact⟨e,C,od,σ,H',rfl,I.aw J'.os un ok2 J'.bare (λb z=>nomatch z),z,fl2.imp λb z=>.inl (Fb I hx b z)⟩
theorem W8{X:Cx}{x:Str}{body:sk}{sc:uZ}{clos:Gc (Str×sF)}{N:Gc Str}{σc:Sg}{f:sF}{k i:Nat}{t:TE}{y:Str}{p pos:Pos}(hr:Eg (k+1) X.A)(hx:X.ex=[])(L:MI X.H₀ X.s₀.heap x body sc clos N σc f)(hb:∀c' s H,Eg k (X.A.deeper (vU (LM x) sc s.heap.objs.size f (.ref c') clos))->PE (MJ X.prog X.w X.K X.mg X.base N x sc clos f c' X.A X.stack s H) body t)(hN:X.N[i]?=Fk y)(hv:Vis X.env.scope y)(hd:(y==("__debug__":Str))=false:=by decide)(hcd:(y==("__classdict__":Str))=false:=by decide):PE X (.Call (.Name y p) [] [] pos) (λσ H Q=>σ[i]?=Fk (Fk (.ref f))/\t σc H Q):=by
 intro pins s σ H Q I h
 refine vC (thn (KN hN hv hd hcd pins s σ H (λv H1=>v=.ref f/\H1=H) I ⟨.ref f,h.1,rfl,rfl⟩) λu s1 z=>?_)
 obtain⟨v,H1,I1,rv,rfl,rfl⟩:=z
 obtain rfl:u=.ref f:=rv
 have un:=I1.base
 rw[hx]at un
 have L1:=L.later un
 obtain⟨params,pm,c',ctv,o,oc,h1,h2,_⟩:=L1.fn
 refine AAY ⟨o.cls,o.dict,_,o.slots,by rw[h1];obtain⟨c,d,dt,sl⟩:=o;cases h2;rfl⟩ ?_
 exact bC I1 hr L1 (λc'=>hb c' s1 H1) h.2
theorem XE{X:Cx}{x:Str}{body:sk}{sc:uZ}{clos:Gc (Str×sF)}{N:Gc Str}{σc:Sg}{f:sF}{k i:Nat}{t:TR}{y:Str}{p pos:Pos}(hr:Eg (k+1) X.A)(hx:X.ex=[])(L:MI X.H₀ X.s₀.heap x body sc clos N σc f)(hb:∀c' s H,Eg k (X.A.deeper (vU (LM x) sc s.heap.objs.size f (.ref c') clos))->PXe (MJ X.prog X.w X.K X.mg X.base N x sc clos f c' X.A X.stack s H) body t)(hN:X.N[i]?=Fk y)(hv:Vis X.env.scope y)(hxe:X.xe=λ_ _=>vS)(hd:(y==("__debug__":Str))=false:=by decide)(hcd:(y==("__classdict__":Str))=false:=by decide):PXe X (.Call (.Name y p) [] [] pos) (λσ H Z=>σ[i]?=Fk (Fk (.ref f))/\t σc H λC od _ H'=>Z C od σ H'):=by
 intro pins s σ H Z I h
 refine vC (Gg hxe (KN hN hv hd hcd pins s σ H (λv H1=>v=.ref f/\H1=H) I ⟨.ref f,h.1,rfl,rfl⟩) λu s1 z=>?_)
 obtain⟨v,H1,I1,rv,rfl,rfl⟩:=z
 obtain rfl:u=.ref f:=rv
 have un:=I1.base
 rw[hx]at un
 have L1:=L.later un
 obtain⟨params,pm,c',ctv,o,oc,h1,h2,_⟩:=L1.fn
 refine AAY ⟨o.cls,o.dict,_,o.slots,by rw[h1];obtain⟨c,d,dt,sl⟩:=o;cases h2;rfl⟩ ?_
 exact XU I1 hr L1 hx (λc'=>hb c' s1 H1) h.2
end
structure Cb(N:Gc Str)(osc:uZ)(N':Gc Str)(GX:Gc Nat)(sc:uZ):Prop where
 kind:sc.kind=.function
 co:sc.isCoroutine=false
 gen:sc.isGenerator=false
 MK:∀y∈sc.names,y.2≠.cell
 free:∀y∈sc.names,y.2=.free->osc.names.lookup y.1=Fk .cell
 len:GX.length=N'.length
 GX:∀z∈N'.zip GX,N[z.2]?=Fk z.1/\osc.names.lookup z.1=Fk .cell/\sc.names.lookup z.1=Fk .free
noncomputable def Nz{α:Type}(GX:Gc Nat)(σ:Gc (sD α)):Gc (sD α):=GX.map λi=>(σ[i]?).join
theorem Qz{α:Type}{GX:Gc Nat}{σ:Gc (sD α)}{j:Nat}{v:α}(h:(Nz GX σ)[j]?=Fk (Fk v)):∃i,GX[j]?=Fk i/\σ[i]?=Fk (Fk v):=by
 unfold Nz at h
 rw[sP]at h
 cases e:GX[j]? with
 |none=>rw[e]at h;cases h
 |some i=>
  rw[e]at h
  refine⟨i,rfl,?_⟩
  have h':(σ[i]?).join=Fk v:=by simpa using h
  cases e2:σ[i]? with
  |none=>rw[e2]at h';cases h'
  |some o=>rw[e2]at h';simpa using h'
theorem XY{α:Type}{GX:Gc Nat}{σ:Gc (sD α)}{i j:Nat}{v:α}(h:GX[j]?=Fk i)(e:σ[i]?=Fk (Fk v)):(Nz GX σ)[j]?=Fk (Fk v):=by
 unfold Nz
 rw[sP,h]
 simp[e]
theorem EnR.MS{K:Wp}{M:Ms}{E:En}{σ:Sg}{H:Hp}(r:EnR K M E σ H)(GX:Gc Nat):EnR K M (Nz GX E) (Nz GX σ) H:=⟨by simp[Nz],λj d e=>by
 obtain⟨i,h1,h2⟩:=Qz e
 obtain⟨v,h3,h4⟩:=r.val i d h2
 exact⟨v,XY h1 h3,h4⟩⟩
theorem dU{X:Cx}{pins:Gc (sF×Obj)}{σ:Sg}{H H':Hp}{s s':sE}{x:Str}{P f:sF}{params:yg}{body:sk}{sc:uZ}{N':Gc Str}{GX:Gc Nat}(LS:Cb X.N X.env.scope N' GX sc)(M:Pq X pins σ H s x P params body sc (FW X.env.cells sc.names []) f H' s')(hp:∀pm c' ctv,bindArgs (xv "<lambda>" (LM x) params body sc (FW X.env.cells sc.names []) pm (.ref c') ctv) ⟨[],[]⟩=pure []):MI H' s'.heap x body sc (FW X.env.cells sc.names []) N' (Nz GX σ) f:=by
 have I:=M.inv
 have hcl:∀y∈sc.names,y.2=.free->∃a,X.env.cells.lookup y.1=Fk a:=λy hy hf=>I.ok.has y.1 (.inl (LS.free y hy hf))
 have sub:∀{y:Str} {c:sF},(FW X.env.cells sc.names []).lookup y=Fk c->X.env.cells.lookup y=Fk c:=λ{y c} h=>by
  rcases JY hcl h with z|z
  .cases z
  .exact z
 obtain⟨pm,c',ctv,o,h1,h2,h3⟩:=M.fn
 refine⟨⟨params,pm,c',ctv,_,o,h1,rfl,h2,h3,hp pm c' ctv⟩,M.none,λy c e=>⟨I.cell y c (sub e),I.Iq y c (sub e)⟩,λy z c e1 e2=>I.ok.inj y z c (sub e1) (sub e2),λy h=>?_,λj y v e1 e2 e3=>?_,by simp[Nz,LS.len],LS.kind,LS.co,LS.gen,LS.MK⟩
 .rcases h with h|h
  .exact absurd rfl (LS.MK _ (uF h))
  .exact GO (.inl (uF h))
 .obtain⟨i,q1,q2⟩:=Qz e2
  have hz:(y,i)∈N'.zip GX:=vt.mpr ⟨j,by rw[xC];exact⟨e1,q1⟩⟩
  obtain⟨p1,p2,p3⟩:=LS.GX _ hz
  refine⟨p3,?_⟩
  obtain⟨m,_,hl⟩:=I.loc
  obtain⟨u,ru,lk⟩:=hl i y v p1 q2 (.inr (.inl p2))
  rcases lk with⟨k,_⟩|⟨_,c,ec,ic⟩
  .have:X.env.scope.names.lookup y=Fk .local:=k
   rw[p2]at this;cases this
  .obtain⟨c2,ec2⟩:=GO (cells:=X.env.cells) (cs:=[]) (.inl (uF p3))
   have:=sub ec2
   rw[ec]at this;cases this
   exact⟨c,u,ec2,ic,ru⟩
theorem ZZ{X:Cx}{body:Gc tP}{h₀:vT}{hs:Gc vT}{tb:TS}{tr:TR}{g:Tg->Ex}{pos:Pos}(hb:PSs X body tb)(hr:PXs X body tr)(hh:HS X (h₀::hs) g)(hxe:X.xe=λ_ _=>vS)(hx:X.ex=[])(hst:X.stack=X.env::X.outer)(hfr:X.env.frame=Fk X.env.locals):PS X (.Try body (h₀::hs) [] [] pos) (λD σ H=>tb D σ H\/∃x:Tg,tr σ H λC od σ' H'=>jI X.mg x C od H'/\tX X.K (g x) D σ' H'):=by
 intro pins s σ H D I z
 rcases z with z|⟨x,z⟩
 .refine wpAny_Try_except (Gg hxe (hb pins s σ H D I z) λf s1 w=>?_)
  cases f with
  |next=>exact xN w
  |ret u=>exact w
  |brk=>exact w
  |cont=>exact w
 .refine wpAny_Try_except (uh (hr pins s σ H _ I z) (λ_ _ z=>z.elim) λev s1 w=>?_)
  obtain⟨ea,C,od,σ',H',rfl,I',⟨hm,z'⟩,fly⟩:=w
  refine NY I' I'.ok.frames hst hfr fly (Fb I' hx) λh' t=>?_
  have I2:=Vm I' hst hfr hx t
  exact uh (hh.pe x C od pins _ σ' H' D ea hm I2 t.fly z') (λ_ _ z=>z) λ_ _ z=>z.elim
theorem fw{X:Cx}{pins:Gc (sF×Obj)}{σ:Sg}{H:Hp}{s:sE}{k:Nat}{f:sF}{fd:vD}{x:Str}{st:tP}{N ps:Gc Str}{us:Gc W1}{vs:Gc V}{Q:VK}(Fu:Fun X.K x x st f fd)(S:BP N ps (AF st))(Bi:Binds X.K fd ps [])(hr:Eg (k+1) X.A)(I:Inv X pins σ H s)(r:Vals vs us)(hl:vs.length=ps.length)(hbody:∀cdv,Eg k (X.A.deeper (tQ x (AF st) s.heap.objs.size f cdv))->∃t,PSs (IK CX0 X.prog X.w X.K X.mg X.base N x (AF st) f cdv X.A X.stack s H E0).nox (Ba st) t/\t {nx:=λ_ H'=>Q .non H',rt:=Q} (L2.start N vs) H):wpAny (model X.prog X.w) X.A (call (.ref f) us) (EP X pins σ Q) X.xe s:=by
 obtain⟨oc,od,kV,doc,pm,an,cdv,ct,osl,rfl,lk,hcd⟩:=Fu.ex
 have hl2:(us++[]).length=ps.length:=by rw[vJ,<-r.length];exact hl
 have hb:=Bi s us I.kIn hl2
 rw[vJ]at hb
 have lim:=I.nolimit
 have hkind:∀y∈ps.zip us,(AF st).names.lookup y.1=Fk .local\/((AF st).names.lookup y.1=Fk .cell/\((cellsFrom (s.heap.objs.size+1) (AF st).names []).lookup y.1).isSome=true):=λ⟨n,v⟩ hy=>by
  rcases S.par n (vK hy).1 with q|q
  .exact .inl q
  .exact .inr ⟨q,xg _ _ _ (.inl q)⟩
 refine wm (zv hr.depth (I.kIn _ _ lk) rfl S.co S.gen rfl (AAl I.kIn hcd) (hb _ _ _ _ ?_))
 refine yl S.kind hkind λenv he s1 x1=>?_
 subst he
 refine⟨lim.keeps x1.toInCall.keep,codeAny_func ?_⟩
 obtain⟨t,ht,hq⟩:=hbody cdv (hr.deeper _)
 have J:Inv (IK CX0 X.prog X.w X.K X.mg X.base N x (AF st) f cdv X.A X.stack s H E0) [] (L2.start N vs) H s1:=O5 S hr.hd I.dG hl r x1
 have J':Inv (IK CX0 X.prog X.w X.K X.mg X.base N x (AF st) f cdv X.A X.stack s H E0).nox [] (L2.start N vs) H s1:=J.Sw _
 refine uh (ht [] s1 (L2.start N vs) H _ J' hq) (λfl s' hs=>?_) λe s' hs=>hs.elim
 have fin:∀{σ':Sg} {H':Hp} {v:V} {u:W1},Inv (IK CX0 X.prog X.w X.K X.mg X.base N x (AF st) f cdv X.A X.stack s H E0).nox [] σ' H' s'->RelV v u->Q v H'->EP X pins σ Q u s':=
  λ{σ' H' v u} J rv q=>I.after ⟨v,H',J.os,J.bare,J.base,J.hok,rv,q⟩
 cases fl with
 |ret u=>
  obtain⟨v,σ',H',J,rv,q⟩:=hs
  exact fin J rv q
 |next=>
  obtain⟨σ',H',J,q⟩:=hs
  exact fin (v:=V.non) (u:=tZ) J rfl q
 |brk=>
  obtain⟨_,_,_,q⟩:=hs
  exact uW q
 |cont=>
  obtain⟨_,_,_,q⟩:=hs
  exact uW q
noncomputable def Fj(x:Str):Cl->tV
 | .tab y=>y==x
 |_=>false
noncomputable def HK(x:Str)(GX:Gc Nat)(F:Ev)(R:Rx)(c0:D)(h:Tg->Ex):Ev:=λE S=>
 if S.any (Fj x)=true then
  match F (Nz GX E) S with
  |some q=>Fk (c0,q.2)
  |none=>(R (Nz GX E) S).bind λq=>(h q.1 [none] q.2.2).bind λz=>match z.1 with| .ret d=>Fk (d,z.2.2)| .nx=>none
 else none
theorem Nt{x:Str}:∀{S:Sto},S.any (Fj x)=true->∃n:Nat,S[n]?=Fk (Cl.tab x)
 | [],h=>by cases h
 |c::S,h=>by
  rw[vh,uU]at h
  rcases h with h|h
  .cases c with
   |tab y=>have e:y=x:=eq_of_beq h;exact⟨0,by rw[e];rfl⟩
   |lst ds=>cases h
   |dct ds=>cases h
   |ins C fs=>cases h
  .obtain⟨n,e⟩:=Nt h
   exact⟨n+1,e⟩
noncomputable def Oq(p:Str)(np cp ep tp rp:Pos)(h₀:vT)(hs:Gc vT)(ret:sk):Gc tP:=
 [.Try [.Expr (.Call (.Name p np) [] [] cp) ep] (h₀::hs) [] [] tp,.Return (Fk ret) rp]
theorem XD{X:Cx}{pins:Gc (sF×Obj)}{σ:Sg}{H:Hp}{s:sE}{k:Nat}{fg f:sF}{fd:vD}{g p x:Str}{st:tP}{body ret:sk}{sc:uZ}{clos:Gc (Str×sF)}{N':Gc Str}{σc:Sg}{Q:VK}{np cp ep tp rp:Pos}{h₀:vT}{hs:Gc vT}{hd:Tg->Ex}{F:Ev}{R:Rx}{c0:D}(I:Inv X pins σ H s)(Fu:Fun X.K g g st fg fd)(S:BP [p] [p] (AF st))(Bi:Binds X.K fd [p] [])(hr:Eg (k+3) X.A)(L:MI H s.heap x body sc clos N' σc f)(eb:Ba st=Oq p np cp ep tp rp h₀ hs ret)(hv:Vis (AF st) p)(hd1:(p==("__debug__":Str))=false)(hd2:(p==("__classdict__":Str))=false)(hb:∀(c':sF) (A:tM) (outer:Gc uY) (s:sE) (H:Hp),Eg k (A.deeper (vU (LM x) sc s.heap.objs.size f (.ref c') clos))->DE (MJ X.prog X.w X.K X.mg X.base N' x sc clos f c' A outer s H) body F)(hx:∀(c':sF) (A:tM) (outer:Gc uY) (s:sE) (H:Hp),Eg k (A.deeper (vU (LM x) sc s.heap.objs.size f (.ref c') clos))->RE (MJ X.prog X.w X.K X.mg X.base N' x sc clos f c' A outer s H) body R)(hh:∀(cdv:W1) (A:tM) (outer:Gc uY) (s:sE) (H:Hp),HS (IK CX0 X.prog X.w X.K X.mg X.base [p] g (AF st) fg cdv A outer s H E0).nox (h₀::hs) hd)(hret:∀(cdv:W1) (A:tM) (outer:Gc uY) (s:sE) (H:Hp),DE (IK CX0 X.prog X.w X.K X.mg X.base [p] g (AF st) fg cdv A outer s H E0).nox ret (eC c0))(h:∃M E S,EnR X.K M E σc H/\StR X.K M S H/\((∃d S',F E S=Fk (d,S')/\∀v H' M',Gr M H M' H'->StR X.K M' S' H'->Br X.K M' H' v c0->Q v H')\/∃y E' S' d E2 S2,R E S=Fk (y,E',S')/\hd y [none] S'=Fk (.ret d,E2,S2)/\∀v H' M',Gr M H M' H'->StR X.K M' S2 H'->Br X.K M' H' v d->Q v H')):wpAny (model X.prog X.w) X.A (call (.ref fg) [.ref f]) (EP X pins σ Q) X.xe s:=by
 refine fw (k:=k+2) (vs:=[.ref f]) Fu S Bi hr I (.cons rfl .nil) rfl λcdv hrg=>?_
 have hrl:Eg (k+1) (X.A.deeper (tQ g (AF st) s.heap.objs.size fg cdv)):=hrg.mono (by lia)
 let Xg:=(IK CX0 X.prog X.w X.K X.mg X.base [p] g (AF st) fg cdv X.A X.stack s H E0).nox
 have p1:=W8 (X:=Xg) (t:=tD X.K F) (i:=0) (y:=p) (p:=np) (pos:=cp) hrl rfl L (λc' s H z=>(hb c' Xg.A Xg.stack s H z).pe) rfl hv hd1 hd2
 have p2:=XE (X:=Xg) (t:=tR X.K X.mg R) (i:=0) (y:=p) (p:=np) (pos:=cp) hrl rfl L (λc' s H z=>(hx c' Xg.A Xg.stack s H z).pe) rfl hv rfl hd1 hd2
 have q1:PSs Xg [.Expr (.Call (.Name p np) [] [] cp) ep] _:=Mt (Ph p1 rfl)
 have q0:PX Xg (.Expr (.Call (.Name p np) [] [] cp) ep) (λσ H Z=>σ[0]?=Fk (Fk (.ref f))/\tR X.K X.mg R σc H λC od _ H'=>Z C od σ H'):=λpins s σ H Z I q=>z0 (uh (p2 pins s σ H Z I q) (λ_ _ z=>z) λ_ _ z=>z) I.quiet rfl
 have q2:PXs Xg [.Expr (.Call (.Name p np) [] [] cp) ep] (λσ H Z=>σ[0]?=Fk (Fk (.ref f))/\tR X.K X.mg R σc H λC od _ H'=>Z C od σ H'):=λpins s σ H Z I q=>
  wG (uh (q0 pins s σ H Z I q) (λ_ _ z=>uW z) λ_ _ z=>z)
 have q3:=NZ (ZZ (pos:=tp) q1 q2 (hh cdv X.A X.stack s H) rfl rfl rfl rfl) (Mt (CB (pos:=rp) (hret cdv X.A X.stack s H)).pe)
 refine⟨_,by rw[eb];exact q3,?_⟩
 obtain⟨M,E,S0,r,sr,w⟩:=h
 rcases w with⟨d,S',e,q⟩|⟨y,E',S',d,E2,S2,e,e2,q⟩
 .refine .inl ⟨rfl,M,E,S0,d,S',e,r,sr,λv H' M' gr st' rd=>?_⟩
  refine⟨M',[none],S',.ret c0,[none],S',rfl,⟨rfl,λi d e=>by match i,e with|0,e=>cases e⟩,st',λv2 H2 M2 g2 st2 r2=>?_⟩
  exact q v2 H2 M2 (gr.trans g2) st2 r2
 .refine .inr ⟨y,rfl,M,E,S0,y,E',S',e,r,sr,λC od σ' H' M' hm gr er st'=>⟨hm,?_⟩⟩
  refine⟨M',[none],S',.ret d,E2,S2,e2,⟨rfl,λi d e=>by match i,e with|0,e=>cases e⟩,st',λv2 H2 M2 g2 st2 r2=>?_⟩
  exact q v2 H2 M2 (gr.trans g2) st2 r2
theorem gB{X:Cx}{pins:Gc (sF×Obj)}{σ:Sg}{H H':Hp}{s s':sE}{x:Str}{P f:sF}{params:yg}{body:sk}{sc:uZ}{clos:Gc (Str×sF)}{M:Ms}{S:Sto}{n:Nat}(st:StR X.K M S H)(h1:M.cel[n]?=Fk P)(h2:S[n]?=Fk (Cl.tab x))(k:Pq X pins σ H s x P params body sc clos f H' s'):StR X.K M S H'/\Gr M H M H':=by
 have hP:P∈M.cel:=se h1
 obtain⟨ps,t1,t2⟩:=k.tab
 have g:Gr M H M H':=⟨st.mo,uV,rfl,λ_ z=>.inl z,λa o e na=>k.keep a o e λz=>na (by rw[z];exact hP),λa e=>by
  by_cases z:a=P
  .subst z;rw[t1];intro z;cases z
  .cases q:H a with
   |none=>exact absurd q e
   |some o=>rw[k.keep a o q z];intro z;cases z⟩
 refine⟨⟨λb z=>?_,st.nd,st.nt,st.len,λm b c e1 e2=>?_⟩,g⟩
 .by_cases hb:b=P
  .subst hb;exact⟨_,t1,trivial⟩
  .exact(st.mo b z).imp λo q=>⟨k.keep _ _ q.1 hb,q.2⟩
 .by_cases hb:b=P
  .subst hb
   have hm:n=m:=(xn (sO.mp h1).1 st.nd).mp (h1.trans e1.symm)
   subst hm
   rw[h2]at e2;cases e2
   exact⟨ps,t1,t2⟩
  .exact(st.cell m b c e1 e2).step g.st λo e=>k.keep _ _ e hb
def Qx(X:Cx)(x:Str):Prop:=∀P,TabAt X.K x P->X.K.In X.base->X.base.Ns mainGlobals X.mg->∃c,X.env.code=.ref c/\Js X.K c P
theorem Vc{X:Cx}{k:Nat}{g p x:Str}{st:tP}{body ret:sk}{sc:uZ}{params:yg}{N':Gc Str}{GX:Gc Nat}{gp pl pos np cp ep tp rp:Pos}{h₀:vT}{hs:Gc vT}{hd:Tg->Ex}{F:Ev}{R:Rx}{c0:D}(G:St.Src X.K X.mg g st)(S:BP [p] [p] (AF st))(LS:Cb X.N X.env.scope N' GX sc)(ci:Qx X x)(bm:BmB X.mg X.base)(hr:Eg (k+3) X.A)(hg:Gl X g)(hb:∀(f c':sF) (clos:Gc (Str×sF)) (A:tM) (outer:Gc uY) (s:sE) (H:Hp),Eg k (A.deeper (vU (LM x) sc s.heap.objs.size f (.ref c') clos))->DE (MJ X.prog X.w X.K X.mg X.base N' x sc clos f c' A outer s H) body F)(hx:∀(f c':sF) (clos:Gc (Str×sF)) (A:tM) (outer:Gc uY) (s:sE) (H:Hp),Eg k (A.deeper (vU (LM x) sc s.heap.objs.size f (.ref c') clos))->RE (MJ X.prog X.w X.K X.mg X.base N' x sc clos f c' A outer s H) body R)(hh:∀(fg:sF) (cdv:W1) (A:tM) (outer:Gc uY) (s:sE) (H:Hp),HS (IK CX0 X.prog X.w X.K X.mg X.base [p] g (AF st) fg cdv A outer s H E0).nox (h₀::hs) hd)(hret:∀(fg:sF) (cdv:W1) (A:tM) (outer:Gc uY) (s:sE) (H:Hp),DE (IK CX0 X.prog X.w X.K X.mg X.base [p] g (AF st) fg cdv A outer s H E0).nox ret (eC c0))(eb:Ba st=Oq p np cp ep tp rp h₀ hs ret:=by rfl)(hv:Vis (AF st) p:=by first|exact Or.inl rfl|exact Or.inr (Or.inl rfl))(hqual:X.env.qual=x++(".<locals>.":Str):=by rfl)(hdf:defaultsOf params X.env=([],[]):=by rfl)(hp:∀clos pm c' ctv,bindArgs (xv "<lambda>" (LM x) params body sc clos pm (.ref c') ctv) ⟨[],[]⟩=pure []:=by intro _ _ _ _;rfl)(hbi:BnR g st [p]:=by exact λ_ _ _ _ _ _ _=>rfl)(hdb:(g==("__debug__":Str))=false:=by decide)(hd1:(p==("__debug__":Str))=false:=by decide)(hd2:(p==("__classdict__":Str))=false:=by decide)(he:sf [Expr.Lambda params body sc pl] X.env=[(false,eval (.Lambda params body sc pl) X.env)]:=by rfl):DE X (.Call (.Name g gp) [.Lambda params body sc pl] [] pos) (HK x GX F R c0 hd):=⟨by
 intro pins s σ H Q I h
 obtain⟨M,E,S0,d,S',e,r,sr,q⟩:=h
 unfold HK at e
 split at e
 case isFalse=>cases e
 rename_i hany
 obtain⟨n,hn⟩:=Nt hany
 obtain⟨P,hc,ps,hP,tok⟩:=sr.at hn
 obtain⟨c,hcode,hcd⟩:=ci P tok.tat I.ok.mod.kin I.ok.mod.glob
 obtain⟨fg,fd,Fu,hm⟩:=G.ex
 have hcl:∀y∈sc.names,y.2=.free->∃a,X.env.cells.lookup y.1=Fk a:=λy hy hf=>I.ok.has y.1 (.inl (LS.free y hy hf))
 refine vC (Iy I hg hm ?_ hdb)
 refine yk (h₀:=X.base) I.ok.mod.kin Fu.kp ?_ he rfl
 rw[he]
 show wpAny _ _ (spliced ((false,eval (.Lambda params body sc pl) X.env)::backTo pos [])) _ _ s
 refine zu (Xf I hqual hdf (Ny hcl) hcode hcd bm hP tok λf H' s1 mk=>?_)
 refine z7 ⟨mk.inv.kIn,?_⟩
 obtain⟨sr1,g1⟩:=gB sr hc hn mk
 have L:=dU LS mk λpm c' ctv=>hp _ pm c' ctv
 refine XD mk.inv Fu S (bnR Fu hbi) hr L eb hv hd1 hd2 (λc'=>hb f c' _) (λc'=>hx f c' _) (hh fg) (hret fg) ⟨M,Nz GX E,S0,(r.step g1.st).MS GX,sr1,?_⟩
 split at e
 .rename_i w ew
  cases e
  exact .inl ⟨w.1,w.2,ew,λv H2 M2 g2 st2 rd=>q v H2 M2 (g1.trans g2) st2 rd⟩
 .obtain⟨⟨y,E',S1⟩,e1,e⟩:=As e
  obtain⟨⟨fl,E2,S2⟩,e2,e⟩:=As e
  cases fl with
  |nx=>cases e
  |ret w=>
   cases e
   exact .inr ⟨y,E',S1,_,E2,S2,e1,e2,λv H2 M2 g2 st2 rd=>q v H2 M2 (g1.trans g2) st2 rd⟩⟩
section
variable{P:sj}{w:tu}{K:Wp}{mg:Str->sD W1}{base:tT}
theorem fnL{x:Str}{st:tP}{f:sF}{fd:vD}{N ps:Gc Str}{k np:Nat}{b:Ex}(Fu:Fun K x x st f fd)(hm:mg x=Fk (.ref f))(S:BP N ps (AF st))(hp:ps.length=np)(hb:∀{cdv:W1} {A:tM} {outer:Gc uY} {s:sE} {H:Hp} {E:XK},Qx (IK CX0 P w K mg base N x (AF st) f cdv A outer s H E).nox x->Eg k (A.deeper (tQ x (AF st) s.heap.objs.size f cdv))->(A.deeper (tQ x (AF st) s.heap.objs.size f cdv)).units+100<cLine->DSs (IK CX0 P w K mg base N x (AF st) f cdv A outer s H E).nox (Ba st) b):Pb P w K mg base CX0 (k+1) f fd ps (spD K np (AY (Af N.length b))):=by
 rw[Kx]
 obtain⟨oc,od,kV,doc,pm,an,cdv,ct,osl,rfl,lk,hcd⟩:=Fu.ex
 refine Z7 lk hcd S (λvs H Q E h=>?_) (λA outer s H vs Q E hr h=>?_)
 .obtain⟨M,ds,S0,d,S',hl,_,r,_⟩:=h
  have:=r.length
  lia
 .obtain⟨M,ds,S0,d,S',hl,e,r,st,q⟩:=h
  have hlen:=r.length
  refine⟨_,(hb (cdv:=cdv) (A:=A) (outer:=outer) (s:=s) (H:=H) (E:=E) (λP0 ta kin glob=>?_) hr (NB hr)).pe.nox,?_⟩
  .obtain⟨f0,oc0,od0,fd0,osl0,c,t1,t2,t3,t4⟩:=ta
   have:=wC kin glob t1
   have e0:Fk (tw f0)=Fk (tw f):=this.symm.trans hm
   cases e0
   have t2':K.lookup f=_:=t2
   rw[lk]at t2'
   cases t2'
   exact⟨c,t3,t4⟩
  obtain⟨⟨fl,E',S1⟩,e1,e⟩:=JE e
  cases e
  refine⟨M,_,S0,fl,E',S1,e1,?_,st,?_⟩
  .rw[show L2.start N vs=vs.map Fk++sS (N.length-ds.length) none from by unfold L2.start;rw[hlen]]
   exact .args r _
  .cases fl with
   |nx=>exact λσ' H' M' g _ st'=>q _ _ M' g st' .non
   |ret d=>exact λv H' M' g st' r'=>q _ _ M' g st' r'
theorem dfL{x:Str}{st:tP}{N ps:Gc Str}(k:Nat){np:Nat}{b:Ex}(S:St.Src K mg x st)(sc:BP N ps (AF st))(hb:∀{f:sF} {cdv:W1} {A:tM} {outer:Gc uY} {s:sE} {H:Hp} {E:XK},Qx (IK CX0 P w K mg base N x (AF st) f cdv A outer s H E).nox x->Eg k (A.deeper (tQ x (AF st) s.heap.objs.size f cdv))->(A.deeper (tQ x (AF st) s.heap.objs.size f cdv)).units+100<cLine->DSs (IK CX0 P w K mg base N x (AF st) f cdv A outer s H E).nox (Ba st) b)(hp:ps.length=np:=by rfl)(hbi:BnR x st ps:=by exact λ_ _ _ _ _ _ _=>rfl):St.Dfn P w K mg base x (k+1) ps (spD K np (AY (Af N.length b))):=by
 obtain⟨f,fd,Fu,hm⟩:=S.ex
 exact⟨f,fd,hm,Fu.kp,bnR Fu hbi,fnL Fu hm sc hp λci hr hu=>hb ci hr hu⟩
end
end Mi
end
noncomputable section
namespace Mi
open PySem PySem.Spec L2 PyProof.Rows
theorem QI{K:Wp}{h:tT}{c P:sF}(k:Js K c P)(X:K.In h):isCodeTable h P:=by
 obtain⟨o,vs,file,tf,flags,tg,inF,text,tt,h0,h1,h2,h3,_⟩:=k
 exact⟨c,o,vs,X _ _ h0,h1,h2,h3⟩
noncomputable def RZ(T:Gc (Str×sF)):Sto:=T.map λz=>Cl.tab z.1
theorem UR{P:sj}{w:tu}{K:Wp}{mg mb:Str->sD W1}{k:Nat}{fa a:sF}{fd:vD}{x:Str}{Fn0:Fn}{s₁:sE}{vs:Gc W1}{ns:Gc Int}{T:Gc (Str×sF)}(KX:K.In s₁.heap)(hns:s₁.heap.Ns mainGlobals mg)(hb:s₁.heap.Ns builtinsNs mb)(hbb:∀x:Str,x≠ "__name__"->mb x=bootBuiltins x)(hlim:s₁.heap.NoLimit)(hg:s₁.gens= #[])(ha:s₁.heap.get? a=Fk {cls:=.type "list",data:=.seq vs.toArray})(hi:uz vs ns)(hl:ns.length<=sizeLine)(hr:Eg k callerA)(hT:∀z∈T,TabAt K z.1 z.2/\K.lookup z.2=none/\s₁.heap.get? z.2=Fk (xu #[]))(nd:(T.map (·.2)).Nodup)(bmn:∃bm ob,mg "__builtins__"=Fk (.ref bm)/\bm≠builtinsNs/\s₁.heap.get? bm=Fk ob/\ob.cls=.type "module" /\ob.dict=Fk builtinsNs/\ob.data=.plain)(F:∀base:tT,K.In base->base.Ns mainGlobals mg->BmB mg base->Pb P w K mg base CX0 k fa fd [x] (spD K 1 Fn0))(hbind:∀(s:sE) (u:W1),BindsTo s fd ⟨[u],[]⟩ [(x,u)])(hlaw:∃S,Fn0 [.scr ns] (RZ T)=Fk (.bl true,S)):codeAny (model P w) callerA (.call (.ref fa) ⟨[.ref a],[]⟩) (λr s'=>r=.ok (.ret (.bool true))/\OldK s₁.heap s'.heap/\s'.os=s₁.os/\xU s'.gens) s₁:=by
 have rv:=OE hi
 have lenV:=hi.length
 have aT:∀z∈T,z.2≠a:=λz hz e=>by
  have:=(hT z hz).2.2
  rw[e,ha]at this;cases this
 have core:∀H:Hp,SqL K H a (ns.map V.int)->HOk P w H s₁.heap->(∀b,H b≠none->b=a\/∃z∈T,z.2=b)->(∀b,H b≠none->K.lookup b=none)->(∀z∈T,H z.2=Fk (.tbl #[]))->(H a=none\/∃o xs,H a=Fk (.frz o (.lst xs)))->
   codeAny (model P w) callerA (.call (.ref fa) ⟨[.ref a],[]⟩) (λr s'=>r=.ok (.ret (.bool true))/\OldK s₁.heap s'.heap/\s'.os=s₁.os/\xU s'.gens) s₁:=by
  intro H hS hok hA hK hTb hF
  have base_of:∀{b:sF} {o:Obj},s₁.heap.get? b=Fk o->H b=none->(WX s₁.heap H).get? b=Fk o:=λe n=>We e n
  have noA:∀{b:sF} {o:Obj},s₁.heap.get? b=Fk o->(∀x n,o.data≠.seq x n)->(∀x,o.data≠.fields x)->H b=none:=λ{b o} e d1 d2=>by
   cases q:H b with
   |none=>rfl
   |some u=>
    rcases hA b (by rw[q];simp)with z|⟨z,hz,z2⟩
    .subst z
     rw[ha]at e;cases e
     exact absurd rfl (d1 _ _)
    .subst z2
     rw[(hT z hz).2.2]at e;cases e
     exact absurd rfl (d2 _)
  have nsK:∀{b:sF} {m:Str->sD W1},s₁.heap.Ns b m->(WX s₁.heap H).Ns b m:=λ{b m} ⟨o,es,ep,e,d,r⟩=>⟨o,es,ep,base_of e (noA e (λ_ _ z=>by rw[d]at z;cases z) λ_ z=>by rw[d]at z;cases z),d,r⟩
  have hKb:K.In (WX s₁.heap H):=λb o e=>base_of (KX b o e) (by
   cases q:H b with
   |none=>rfl
   |some u=>rw[hK b (by rw[q];simp)]at e;cases e)
  have hM:Mod K mg (WX s₁.heap H):=⟨hKb,nsK hns,⟨mb,nsK hb,hbb⟩,let⟨mc,h1,h2⟩:=hlim;⟨mc,nsK h1,h2⟩⟩
  have e0:YW P w K mg (WX s₁.heap H) callerA [] s₁ H:=⟨rfl,hM,λb o e=>Zr e,Nat.le_of_eq (T6 _ _),trivial,λb hb=>absurd (show b∈([]:Gc sF)from hb) (by simp),hok,.of_eq hg⟩
  have hbm:BmB mg (WX s₁.heap H):=by
   obtain⟨bm,ob,m1,m2,m3,m4,m5,m6⟩:=bmn
   refine⟨bm,ob,m1,m2,λz=>?_,base_of m3 (noA m3 (λ_ _ z=>by rw[m6]at z;cases z) λ_ z=>by rw[m6]at z;cases z),m4,m5,m6⟩
   obtain⟨o,es,ep,e,d,_⟩:=hns
   rw[z,e]at m3;cases m3
   rw[d]at m6;cases m6
  obtain⟨S',hS'⟩:=hlaw
  have nm:¬Ms.mem ⟨T.map (·.2),[]⟩ a:=λz=>by
   rcases z with z|z
   .obtain⟨q,hq,e⟩:=uG.mp z
    exact aT q hq e
   .cases z
  have st:StR K ⟨T.map (·.2),[]⟩ (RZ T) H:=by
   refine⟨λb z=>?_,nd,λb z=>(nomatch z),by simp[RZ],λn b c e1 e2=>?_⟩
   .rcases z with z|z
    .obtain⟨q,hq,e⟩:=uG.mp z
     subst e
     exact⟨_,hTb q hq,trivial⟩
    .cases z
   .have e1':(T.map (·.2))[n]?=Fk b:=e1
    have e2':(T.map λz=>Cl.tab z.1)[n]?=Fk c:=e2
    rw[sP]at e1' e2'
    cases q:T[n]? with
    |none=>rw[q]at e1';cases e1'
    |some z=>
     rw[q]at e1' e2'
     cases e1';cases e2'
     have hz:=se q
     exact⟨#[],hTb z hz,trivial,(hT z hz).1,λpos cv e=>by rw[wy]at e;cases e⟩
  refine yb ((F _ hKb (nsK hns) hbm).run callerA [] s₁ H ⟨[.ref a],[]⟩ [.ref a] [.ref a] (λv _=>v=.bl true) (λ_ _ _=>vS) hr e0 (hbind s₁ (.ref a)) (.cons rfl .nil) ⟨⟨T.map (·.2),[]⟩,[.scr ns],RZ T,_,S',rfl,hS',.cons (.scr ?_) .nil,st,λv H' M' g st' r'=>by cases r';rfl⟩) λr s' h=>?_
  .rcases hS with z|z
   .exact .inl ⟨z,nm⟩
   .exact .inr z
  cases r with
  |error e=>exact uW h
  |ok fl=>
   cases fl with
   |next=>exact uW h
   |brk=>exact uW h
   |cont=>exact uW h
   |ret u=>
    obtain⟨v,H',os,bare,un,hok',r',q⟩:=h
    have q':v=.bl true:=q
    subst q'
    obtain rfl:u=yh true:=r'
    refine⟨rfl,⟨λb o e=>?_,λb o e=>un.there b o e (by simp)⟩,os,bare⟩
    cases q:H b with
    |none=>exact .inl (un.keep b o e q (by intro z;exact absurd (show b∈([]:Gc sF)from z) (by simp)) (by simp))
    |some u=>
     rcases hA b (by rw[q];simp)with z|⟨z,hz,z2⟩
     .subst z
      rcases hF with z|⟨ob,xs,z⟩
      .rw[q]at z;cases z
      .have z2:=un.Sq b ob _ z
       obtain⟨e1,_⟩:=hok b _ z
       obtain⟨e2,_⟩:=hok' b _ z2
       rw[e]at e1;cases e1
       exact .inl e2
     .subst z2
      obtain⟨t1,t2,t3⟩:=hT z hz
      rw[t3]at e;cases e
      obtain⟨more,em⟩:=un.V4 _ _ (hTb z hz)
      have e2:s'.heap.get? z.2=Fk (xu (#[]++more)):=hok' _ _ em
      obtain⟨_,_,_,_,_,c,_,_,_,hc⟩:=t1
      exact .inr (.inl ⟨QI hc KX,rfl, #[],more,rfl,e2⟩)
 cases hk:K.lookup a with
 |some o=>
  have e:=KX a o hk
  rw[ha]at e
  cases e
  refine core (λb=>if∃z∈T,z.2=b then Fk (.tbl #[])else none) (.inr ⟨_,vs.toArray,_,hk,rfl,rfl,rfl,by rw[sY,lenV];exact hl,by simpa using rv⟩) (λb u z=>?_) (λb z=>?_) (λb z=>?_) (λz hz=>tK ⟨z,hz,rfl⟩) (.inl (tN λ⟨z,hz,e⟩=>aT z hz e))
  .by_cases hb:∃z∈T,z.2=b
   .have z':=(tK hb).symm.trans z
    cases z'
    obtain⟨y,hy,rfl⟩:=hb
    exact(hT y hy).2.2
   .have z':=(tN hb).symm.trans z
    cases z'
  .by_cases hb:∃z∈T,z.2=b
   .exact .inr hb
   .exact absurd (tN hb) z
  .by_cases hb:∃z∈T,z.2=b
   .obtain⟨y,hy,rfl⟩:=hb;exact(hT y hy).2.1
   .exact absurd (tN hb) z
 |none=>
  refine core (λb=>if b=a then Fk (.frz {cls:=.type "list",data:=.seq vs.toArray} (.lst (ns.map V.int)))else if∃z∈T,z.2=b then Fk (.tbl #[])else none) (.inl (.inr ⟨{cls:=.type "list",data:=.seq vs.toArray},tK rfl⟩)) (λb u z=>?_) (λb z=>?_) (λb z=>?_) (λz hz=>(tN (aT z hz)).trans (tK ⟨z,hz,rfl⟩)) (.inr ⟨_,_,tK rfl⟩)
  .by_cases hb:b=a
   .have z':=(tK hb).symm.trans z
    cases z'
    subst hb
    exact⟨ha,by rw[tq];exact hl,vs,_,rv,ha⟩
   .have z':=(tN hb).symm.trans z
    by_cases hc:∃z∈T,z.2=b
    .have z'':=(tK hc).symm.trans z'
     cases z''
     obtain⟨y,hy,rfl⟩:=hc
     exact(hT y hy).2.2
    .have z'':=(tN hc).symm.trans z'
     cases z''
  .by_cases hb:b=a
   .exact .inl hb
   .by_cases hc:∃z∈T,z.2=b
    .exact .inr hc
    .exact absurd ((tN hb).trans (tN hc)) z
  .by_cases hb:b=a
   .rw[hb];exact hk
   .by_cases hc:∃z∈T,z.2=b
    .obtain⟨y,hy,rfl⟩:=hc;exact(hT y hy).2.1
    .exact absurd ((tN hb).trans (tN hc)) z
theorem kl{l:zQ}{q:sj}{loose:Gc Str}{XP:(Str->sD W1)->tT->Prop}{YP:tu->tT->Prop}{d:DefRec}{K:Params->Wp}{x:Str}{k:Nat}{Fn0:Fn}(T:Gc (Str×sF))(hn:l.most=Fk 63)(hdf:d.params.defaults=[])(hr:Eg k callerA)(hY:∀(w:tu) (h:tT),YP w h->(K w.params).In h/\∀z∈T,h.get? z.2=Fk (xu #[]))(nd:(T.map (·.2)).Nodup)(F:∀(w:tu) (mg:Str->sD W1) (fa:sF) (h:tT),(K w.params).In h->h.Ns mainGlobals mg->mg d.name=Fk (.ref fa)->(∀z∈T,TabAt (K w.params) z.1 z.2/\(K w.params).lookup z.2=none)/\∃fd:vD,(∀(s:sE) (u:W1),BindsTo s fd ⟨[u],[]⟩ [(x,u)])/\∀base:tT,(K w.params).In base->base.Ns mainGlobals mg->BmB mg base->Pb l.prog w (K w.params) mg base CX0 k fa fd [x] (spD (K w.params) 1 Fn0))(hlaw:∀ns:Gc Int,ns.length<=63->∃S,Fn0 [.scr ns] (RZ T)=Fk (.bl true,S)):PySem.W.WalkO q loose XP YP l.row.toRowW d [] (λf vs=>PySem.call f vs):=by
 refine Att.attach_call hn hdf λw s₀ s₁ mg mb fa o pm cd doc a vs ns G Y ho hd hcd hmg hobj hints hlen hg=>?_
 obtain⟨KX,Y2⟩:=hY w _ Y
 obtain⟨hT,fd,hb,hF⟩:=F w mg fa _ KX G.T.g hmg
 exact UR KX G.T.g G.T.b G.T.builtins G.T.nolimit hg hobj hints (sL hlen (by decide)) hr (λz hz=>⟨(hT z hz).1,(hT z hz).2,Y2 z hz⟩) nd G.T.bmain hF hb (hlaw ns hlen)
end Mi
end
noncomputable section
namespace Mi
open PySem PySem.Spec L2
noncomputable def laE:Nat->sk->Gc uZ
 |0,_=>[]
 |n+1,.Lambda _ _ s _=>[s]
 |n+1,.BoolOp _ vs _=>vs.flatMap (laE n)
 |n+1,.Call f as _ _=>laE n f++as.flatMap (laE n)
 |n+1,.UnaryOp _ a _=>laE n a
 |n+1,.Compare a _ cs _=>laE n a++cs.flatMap (laE n)
 |n+1,.Tuple es _ _=>es.flatMap (laE n)
 |n+1,.List es _=>es.flatMap (laE n)
 |_,_=>[]
noncomputable def laS:Nat->tP->Gc uZ
 |0,_=>[]
 |n+1,.Return (Fk e) _=>laE 30 e
 |n+1,.Assign ts e _=>laE 30 e
 |n+1,.Expr e _=>laE 30 e
 |n+1,.If t a b _=>laE 30 t++a.flatMap (laS n)++b.flatMap (laS n)
 |n+1,.For _ it a b _=>laE 30 it++a.flatMap (laS n)++b.flatMap (laS n)
 |n+1,.While t a b _=>laE 30 t++a.flatMap (laS n)++b.flatMap (laS n)
 |_,_=>[]
noncomputable def Sv(st:tP)(k:Nat):uZ:=((Ba st).flatMap (laS 20)).getD k (AF st)
theorem lsM{N:Gc Str}{osc:uZ}{N':Gc Str}{GX:Gc Nat}{sc:uZ}(a:sc.kind=.function:=by rfl)(b:sc.isCoroutine=false:=by rfl)(c:sc.isGenerator=false:=by rfl)(d:∀y∈sc.names,y.2≠.cell:=by decide+kernel)(e:∀y∈sc.names,y.2=.free->osc.names.lookup y.1=Fk .cell:=by decide+kernel)(f:GX.length=N'.length:=by rfl)(g:∀z∈N'.zip GX,N[z.2]?=Fk z.1/\osc.names.lookup z.1=Fk .cell/\sc.names.lookup z.1=Fk .free:=by decide+kernel):Cb N osc N' GX sc:=⟨a,b,c,d,e,f,g⟩
end Mi
end
noncomputable section
namespace Mi
open PySem PySem.Spec L2 PyProof.Rows
structure Lo(X:Cx)(pins:Gc (sF×Obj))(lo:sF):Prop where
 s0:X.s₀.heap.objs.size<=lo
 loc:X.env.locals<lo
 cel:∀x c,X.env.cells.lookup x=Fk c->c<lo
 pin:∀p∈X.pn++pins,p.1<lo
section
variable{X:Cx}{pins:Gc (sF×Obj)}{σ:Gc (sD V)}{H:Hp}{s:sE}
theorem _root_.L2.Inv.lo(I:Inv X pins σ H s):Lo X pins s.heap.objs.size:=⟨I.sz,I.lt,λx c e=>by
 obtain⟨v,o,ho,_⟩:=I.cell x c e
 exact sW ho,λp hp=>sW (I.pin p hp).1⟩
theorem _root_.L2.Inv.adopt(I:Inv X pins σ H s){lo a:sF}{o:HO}(b:Lo X pins lo)(la:lo<=a)(hn:H a=none)(new:DF X.prog X.w (upd H a o) s.heap a o):Inv X pins σ (upd H a o) s:=by
 have ne:∀b u,H b=Fk u->b≠a:=λb u e z=>by rw[z,hn]at e;cases e
 refine I.step (g':=s.gens) (d':=s.drawn) (t':=s.toks) (h':=s.heap) (ch:=[a]) (λb' hb=>?_) (λ_ _ _ _ _ e _=>e) (λb o _ _ _ e _=>⟨o.slots,e⟩) (λb o hc e n=>?_)
  (λb o _ e=>⟨o,e⟩) (λb xs e=>by rw[Ad (ne b _ e)];exact e) (λb o u e=>by rw[Ad (ne b _ e)];exact e) (λb ps e=>⟨#[],by rw[Ad (ne b _ e),e];simp⟩) (λ_ m=>m) (λb u e=>?_) I.bare
 .have e:b'=a:=by simpa using hb
  subst e
  exact⟨.inr (sL b.s0 la),wM (sI b.loc la),λx c e=>tE (sI (b.cel x c e) la),λp hp=>tE (sI (b.pin p hp) la)⟩
 .rw[Ad (λz=>hc (by simp[z]))];exact n
 .by_cases hb:b=a
  .subst hb;rw[Av]at e;cases e;exact new
  .rw[Ad hb]at e
   exact(I.hok b u e).Sj (λc v _ q=>q) (λc q=>by rw[Ad (ne c _ q)];exact q) λc xs q=>by rw[Ad (ne c _ q)];exact q
end
end Mi
end
noncomputable section
namespace Mi
open PySem PySem.Spec L2
section
variable{prog:sj}{w:tu}{A:tM}{E:W1->sE->Prop}{h:tT}{g:uI GenState}{d:Drawn}{t:Nat}{os:OsState}
variable{nm q:Str}{C N:sF}{bs bm bmB:Gc W1}{hdct:tV}{sn:Gc Str}{sub:Gc W1}{ab:tV}{col:sD tV}{dd:sD sF}{k0 k1 k2 k3 k5:sD W1}{B newId initId:ug}
structure Ys(h h':tT)(e t:sF)(C:sF)(args:Gc W1):Prop where
 keeps:∀b o,h.get? b=Fk o->h'.get? b=Fk o
 new:h.get? e=none
 le:h.objs.size<=e
 obj:h'.get? e=Fk {cls:=.ref C,data:=.fields #[.ref t,.none,.none,.none,.bool false,.none]}
theorem Rb(F:ExcBaseFacts B newId initId bmB)(T:OwnTail h bmB bm){mN:Str->sD W1}{rest:Gc W1}{fI:sF}{oI:Obj}{Q:Fin->sE->Prop}(hC:h.get? C=Fk (excClassObj nm q C N bs bm hdct sn sub ab col dd k0 k1 k2 k3 k5 newId))(hn:h.Ns N mN)(hi:mN "__init__"=Fk (.ref fI))(hfI:h.get? fI=Fk oI)(hfc:oI.cls=.type "function")(hq:∀h' e t',Ys h h' e t' C rest->wpAny (model prog w) A (call (.ref fI) (.ref e::rest)) (λr s'=>r=.none/\Q (.done (.ret (.ref e))) s') E ⟨h',g,d,t,os⟩)(hrest:rest.length<=sizeLine):wpAny (model prog w) A (xO.«type.__call__» ⟨.ref C::rest,[]⟩) Q E ⟨h,g,d,t,os⟩:=by
 repeat (first|with_reducible refine we hC ?_|with_reducible refine wpAny_madeBy_exc hC ?_|wp_step)
 refine codeAny_call_builtin_code (AAt _ F.quiet) (wpAny_check_new_subT F T hC ?_)
 refine codeAny_exc_new_subT F T hC ?_ hrest
 show wpAny _ _ _ _ _ _
 generalize hH:(h.push {cls:=.type "tuple",data:=.seq rest.toArray}).push {cls:=.ref C,data:=.fields #[.ref h.objs.size,.none,.none,.none,.bool false,.none]}=h1
 have up:∀b o,h.get? b=Fk o->h1.get? b=Fk o:=λb o z=>by
  rw[<-hH];exact sC _ (sC _ z)
 have ob:h1.get? (h.objs.size+1)=Fk {cls:=.ref C,data:=.fields #[.ref h.objs.size,.none,.none,.none,.bool false,.none]}:=by
  rw[<-hH];heap_get
 have cC:(tw C::bm).contains (.ref C)=true:=by simp
 have c1:=up _ _ hC
 unfold isInstance
 repeat (first|with_reducible refine we ob ?_|(with_reducible refine AAZ c1 ?_;rw[cC])|wp_step)
 show wpAny _ _ (typeLookup (.ref C) _) _ _ _
 refine wpAny_typeLookup_tail c1 (hn.keeps up) (T.keeps up) F.mroIs F.init.lookup ?_
 rw[hi]
 refine ua (rz ?_)
 unfold bindSpecial
 refine rz (zU (T:="function") ⟨_,up _ _ hfI,hfc⟩ ?_)
 rw[tK (by decide)]
 refine sR (rz (uh (hq h1 (h.objs.size+1) h.objs.size ⟨up,zy (AAH _),AAH _,ob⟩) (λr s' hr=>?_) λ_ _ x=>x))
 obtain⟨rfl,hQ⟩:=hr
 wp_walk
 exact hQ
theorem Vr(F:ExcBaseFacts B newId initId bmB)(T:OwnTail h bmB bm){mN:Str->sD W1}{rest:Gc W1}{fI:sF}{oI:Obj}{Q:W1->sE->Prop}(hC:h.get? C=Fk (excClassObj nm q C N bs bm hdct sn sub ab col dd k0 k1 k2 k3 k5 newId))(hn:h.Ns N mN)(hi:mN "__init__"=Fk (.ref fI))(hfI:h.get? fI=Fk oI)(hfc:oI.cls=.type "function")(hq:∀h' e t',Ys h h' e t' C rest->wpAny (model prog w) (A.under (.builtin "type.__call__" ⟨.ref C::rest,[]⟩)) (call (.ref fI) (.ref e::rest)) (λr s'=>r=.none/\Q (.ref e) s') E ⟨h',g,d,t,os⟩)(hrest:rest.length<=sizeLine):wpAny (model prog w) A (call (.ref C) rest) Q E ⟨h,g,d,t,os⟩:=by
 have f1:=tc_lookup
 have f2:=tc_bind (.ref C)
 have hT:(⟨h,g,d,t,os⟩:sE).TypeIs (.ref C) "type":=⟨_,hC,rfl⟩
 refine wm (codeAny_of_tree ?_)
 show wpAny _ _ (callAny (.ref C) _) _ _ _
 repeat (any_goals (first|assumption|with_reducible refine we hC ?_|wp_step))
 refine⟨rfl,?_⟩
 refine codeAny_call_builtin_at (AAt _ (by decide+kernel)) entry_typeCall (wpAny_check_type_call_sub hC (Rb F T hC hn hi hfI hfc (λh' e t' hm=>?_) hrest))
 exact hq h' e t' hm
end
def RG(e C:sF)(h:tT):Prop:=∃vs a0,h.get? e=Fk {cls:=.ref C,data:=.fields vs}/\vs.size=6/\vs[0]?=Fk (.ref a0)/\vs[1]?=Fk .none
def WQ(e C dx:sF)(h:tT):Prop:=∃vs a0,h.get? e=Fk {cls:=.ref C,dict:=Fk dx,data:=.fields vs}/\vs.size=6/\vs[0]?=Fk (.ref a0)/\vs[1]?=Fk .none
theorem Vb{P:sj}{w:tu}{H:Hp}{h:tT}{e C:sF}(x:RG e C h):DF P w H h e (.ext (RG e C)):=
 ⟨x,let⟨_,_,z,_⟩:=x;⟨_,z⟩,λ_ _ ⟨vs,a0,z,r⟩ k=>⟨vs,a0,k _ z,r⟩⟩
theorem aS{P:sj}{w:tu}{H:Hp}{h:tT}{e C dx:sF}(x:WQ e C dx h):DF P w H h e (.ext (WQ e C dx)):=
 ⟨x,let⟨_,_,z,_⟩:=x;⟨_,z⟩,λ_ _ ⟨vs,a0,z,r⟩ k=>⟨vs,a0,k _ z,r⟩⟩
theorem fP{H:Hp}{a:sF}{o:HO}(e:H a=Fk o):upd H a o=H:=by
 funext b;unfold upd;split
 .rename_i z;rw[z,e]
 .rfl
theorem bA{X:Cx}{i k1 k2:Nat}{x a b:Str}{p1 p2 p3 p4 p5:Pos}(hN:X.N[i]?=Fk x)(hv:Vis X.env.scope x)(ha:a.length<=1000)(hb:b.length<=1000)(hd:(x==("__debug__":Str))=false:=by decide)(hcd:(x==("__classdict__":Str))=false:=by decide):PE X (.JoinedStr [.Constant (.str a) k1 p1,.FormattedValue (.Name x p2) (-1) none p3,.Constant (.str b) k2 p4] p5) (λσ H Q=>∃n:Int,σ[i]?=Fk (Fk (.int n))/\n.natAbs.log2<1920/\∀y,Q (.str y) H):=by
 intro pins s σ H Q I h
 obtain⟨n,e,hl,q⟩:=h
 have ln:(ur (toString n)).length<=1921:=by
  rw[ofString_length]
  exact int_text_length_le (by decide) hl
 refine PyProof.Rows.JoinedStr_many (wg (thn (UT pins s σ H (λv H1=>v=.str a/\H1=H) I ⟨rfl,rfl⟩) λu s1 z=>?_))
 obtain⟨v,H1,I1,r1,rfl,rfl⟩:=z
 obtain⟨t1,rfl⟩:=r1
 have l0:(Str.empty++a).length=a.length:=by rw[xJ];simp[Str.empty,Str.length]
 refine⟨by rw[l0,wk];lia,wg (PyProof.Rows.FormattedValue_plain (thn (KN hN hv hd hcd pins s1 σ H1 (λv H2=>v=.int n/\H2=H1) I1 ⟨_,e,rfl,rfl⟩) λu s2 z=>?_))⟩
 obtain⟨v,H2,I2,r2,rfl,rfl⟩:=z
 obtain⟨t2,rfl⟩:=r2
 refine AAu hl ?_
 refine⟨by rw[xJ,l0,wk];lia,?_⟩
 refine wg (thn (UT pins _ σ H2 (λv H3=>v=.str b/\H3=H2) ((I2.tok _).tok _) ⟨rfl,rfl⟩) λu s3 z=>?_)
 obtain⟨v,H3,I3,r3,rfl,rfl⟩:=z
 obtain⟨t3,rfl⟩:=r3
 refine⟨by rw[xJ,xJ,l0,wk];lia,?_⟩
 refine PyProof.Rows.joinParts_nil ⟨.str _,H3,I3.tok _,⟨_,rfl⟩,q _⟩ (by rw[xJ,xJ,l0,wk];lia)
section
variable{prog:sj}{w:tu}{A:tM}{E:W1->sE->Prop}{s:sE}{K:Wp}{x C TE:sF}{cd:ClassData}{name:Str}{v:W1}{vs:uI W1}
theorem Ze{tk:Tok}{R:Result->sE->Prop}(X:K.In s.heap)(hx:s.heap.get? x=Fk {cls:=.ref C,data:=.fields vs})(hc:wX K C=Fk cd)(ho:cd.mro=.ref C:: .ref TE::VEm)(hd:cd.hasDict=true)(hm:wU K C (.type "object")=Fk true)(ht:uL K (.ref C) name=Fk none)(h:∀(h':tT) (tk:Nat) (dx:sF),s.heap.objs.size<=dx->h'.get? x=Fk {cls:=.ref C,dict:=Fk dx,data:=.fields vs}->h'.Ns1 dx (λy=>if y=name then Fk v else none)->(∀b o,b≠x->s.heap.get? b=Fk o->h'.get? b=Fk o)->R (.ok (.ret .none)) {s with heap:=h',toks:=tk}):codeAny (model prog w) A (.call (.builtin "object.__setattr__") ⟨[.ref x,.str name tk,v],[]⟩) R s:=by
 have J:z6 s.heap x {cls:=.ref C,data:=.fields vs} C none:=⟨hx,rfl,rfl,trivial⟩
 have SF:=PySem.F.store_object
 have sub:AAf (model prog w) s.heap (isInstance (.ref x) (.type "object")) true:=J.type.andThen (PySem.W.looks_mroIn X hm)
 have mr:AAf (model prog w) s.heap (mroOf (.ref C)) cd.mro:=(AAa X hc).andThen .now
 refine yO SF.slot.plain SF.entry (@PySem.W.check_slot (model prog w) _ _ _ "object.__setattr__" "object" "__setattr__" (.ref x) [.str name tk,v] [] _ SF.kind SF.split sub (SF.args (.ref x) (.str name tk) v) ?_)
 rw[PySem.W.osa_eq,refuse_eq]
 refine rz (rz (J.type.here (rz (mr.here ?_))))
 rw[ho,refuseLoop_ref,refuseLoop_ref,show refuseLoop (.ref x) "__setattr__" VEm=pure ()from PySem.F.store_ValueError.passes (.ref x)]
 refine sR (rz (J.type.here (rz ((PySem.W.looks_findIn X ht).here (rz (sR ?_))))))
 have xs:x≠s.heap.objs.size:=tE (sW hx)
 have hx1:(s.heap.push {cls:=.type "dict",data:=.dict #[]}).get? x=Fk {cls:=.ref C,data:=.fields vs}:=sC _ hx
 refine rz (sR (rz (rz (wpAny_loadPart hx (rz ((AAa X hc).here ?_))))))
 rw[hd]
 refine(show wpAny (model prog w) A.in1 (alloc {cls:=.type "dict",data:=.dict #[]} >>= _) _ _ s from rz (wpAny_alloc' ?_))
 refine rz (wpAny_update' hx1 (sR ?_))
 have hf:=(Heap.get?_some_iff.mp hx).2
 generalize hG:(s.heap.push {cls:=.type "dict",data:=.dict #[]}).update x (λo=>{o with dict:=Fk s.heap.objs.size})=g1
 have gx:g1.get? x=Fk {cls:=.ref C,dict:=Fk s.heap.objs.size,data:=.fields vs}:=by
  rw[<-hG];exact uQ _ hx1 rfl
 have gd:g1.get? s.heap.objs.size=Fk {cls:=.type "dict",data:=.dict #[]}:=by
  rw[<-hG];exact(AAb _ _ _ _ xs.symm).trans (Heap.get?_push_at rfl rfl)
 have gk:∀b o,b≠x->s.heap.get? b=Fk o->g1.get? b=Fk o:=λb o n z=>by
  rw[<-hG];exact(AAb _ _ _ _ n).trans (sC _ z)
 have nd:g1.Ns s.heap.objs.size (λ_=>none):=⟨_, #[],_,gd,rfl,λe he=>absurd he (by simp),λ_=>rfl⟩
 show wpAny _ _ (yI s.heap.objs.size (.str name tk) name v) _ _ _
 unfold yI Builtin.ObjectAttr.newKeyGuard
 refine rz (sR (rz (wpAny_nsSet1 (Heap.Ns1.of_empty nd) λh' hn' hs=>?_)))
 obtain⟨oD,esD,epD,hoD,hdD,hcD⟩:=hn'.count (Within.cons name v Within.nil)
 refine rz (wpAny_lookBehind hoD (by rw[hdD];exact pastItsLine_dict (sL hcD (by rw[tY,vA,wk];lia))) ?_)
 refine sR (h h' _ s.heap.objs.size (sM _) ((hs.2 x xs).trans gx) hn' λb o n z=>(hs.2 b (tE (sW z))).trans (gk b o n z))
theorem cN{Q:Unit->sE->Prop}(X:K.In s.heap)(hx:s.heap.get? x=Fk {cls:=.ref C,data:=.fields vs})(hs:uL K (.ref C) "__setattr__"=Fk (Fk (.builtin "object.__setattr__")))(hc:wX K C=Fk cd)(ho:cd.mro=.ref C:: .ref TE::VEm)(hd:cd.hasDict=true)(hm:wU K C (.type "object")=Fk true)(ht:uL K (.ref C) name=Fk none)(h:∀(h':tT) (tk:Nat) (dx:sF),s.heap.objs.size<=dx->h'.get? x=Fk {cls:=.ref C,dict:=Fk dx,data:=.fields vs}->h'.Ns1 dx (λy=>if y=name then Fk v else none)->(∀b o,b≠x->s.heap.get? b=Fk o->h'.get? b=Fk o)->Q () {s with heap:=h',toks:=tk}):wpAny (model prog w) A (setAttr (.ref x) name v) Q E s:=
 PySem.W.set_plain X (⟨hx,rfl,rfl,trivial⟩:z6 s.heap x {cls:=.ref C,data:=.fields vs} C none) hs (Ze (s:={s with toks:=s.toks+1}) X hx hc ho hd hm ht λh' tk dx a b c d=>h h' tk dx a b c d)
end
section
variable{prog:sj}{w:tu}{A:tM}{E:W1->sE->Prop}{h:tT}{g:uI GenState}{d:Drawn}{t:Nat}{os:OsState}
variable{nm q:Str}{C N:sF}{bs bm:Gc W1}{hdct:tV}{sn:Gc Str}{sub:Gc W1}{ab:tV}{col:sD tV}{dd:sD sF}{k0 k1 k2 k3 k5:sD W1}
theorem U5{e:sF}{u:W1}{vs:uI W1}{Q:W1->sE->Prop}(T:OwnTail h VEm bm)(hC:h.get? C=Fk (excClassObj nm q C N bs bm hdct sn sub ab col dd k0 k1 k2 k3 k5 "ValueError.__new__"))(he:h.get? e=Fk {cls:=.ref C,data:=.fields vs}){t0:sF}(hz:vs.size=6)(h0:vs[0]?=Fk (.ref t0))(hq:∀(h':tT) (tt:sF),(∀b o,b≠e->h.get? b=Fk o->h'.get? b=Fk o)->h'.get? e=Fk {cls:=.ref C,data:=.fields (vs.setIfInBounds 0 (.ref tt))}->Q .none ⟨h',g,d,t,os⟩):wpAny (model prog w) A (call (.builtin "ValueError.__init__") [.ref e,u]) Q E ⟨h,g,d,t,os⟩:=by
 have F:=wK
 refine wm (yO F.init.plain F.initEntry (wpAny_check_init_subT F T hC he rfl ?_))
 wp_walk
 have e1:(h.push {cls:=.type "tuple",data:=.seq #[u]}).get? e=Fk {cls:=.ref C,data:=.fields vs}:=sC _ he
 rw[h0]
 refine sR (rz (wI e1 rfl (by rw[hz];decide) (wu (sR ?_))))
 refine hq _ h.objs.size (λb o n z=>?_) ?_
 .rw[tH _ _ (uO n)]
  exact sC _ z
 .exact uQ _ e1 rfl
end
structure XiD(K:Wp)(C TE fI:sF):Prop where
 cls:∃nm q N bs sn sub ab col dd k0 k1 k2 k3 k5,K.lookup C=Fk (excClassObj nm q C N bs (.ref TE::VEm) true sn sub ab col dd k0 k1 k2 k3 k5 "ValueError.__new__")/\AAL K N=true/\uR K N "__init__"=Fk (Fk (.ref fI))
 tail:AAM K VEm (.ref TE::VEm)=true
 sa:uL K (.ref C) "__setattr__"=Fk (Fk (.builtin "object.__setattr__"))
 ob:wU K C (.type "object")=Fk true
 at_:uL K (.ref C) "at"=Fk none
 sp:xf K (.ref TE) "__getattribute__"=Fk (Fk (.builtin "type.__getattribute__"))
 rd:PySem.W.readsIn K TE (.type "type")=true
 fc:PySem.W.findCls K (.ref TE) (.type "type") "__init__"=Fk (.val (.builtin "ValueError.__init__"))
section
variable{X:Cx}{C TE fI:sF}{B:Str}{p1 p2 p3 p4 p5 p6 p7 p8 p9 p10:Pos}{k1 k2:Nat}{a b:Str}
theorem Xv (D : XiD X.K C TE fI) (hB : X.mg B = Fk (.ref TE)) (hg : Gl X B) (hN : X.N = ([("self" : Str), ("at" : Str)] : Gc Str)) (v0 : Vis X.env.scope "self") (v1 : Vis X.env.scope "at") (ha : a.length ≤ 1000) (hb : b.length ≤ 1000) (hdb : (B == ("__debug__" : Str)) = false) {pl : Sem tV} (ht : eval (.Call (.Attribute (.Name B p1) "__init__" p2) [.Name "self" p3, .JoinedStr [.Constant (.str a) k1 p4, .FormattedValue (.Name "at" p5) (-1) none p6, .Constant (.str b) k2 p7] p8] [] p9) X.env = (do
      let ov ← eval (.Name B p1) X.env
      standAt p2.atName
      let (f, first) ← holding [ov] (getMethod ov "__init__" pl)
      callWith p9 f first (backTo p9 (sf [.Name "self" p3, .JoinedStr [.Constant (.str a) k1 p4, .FormattedValue (.Name "at" p5) (-1) none p6, .Constant (.str b) k2 p7] p8] X.env)) (backToKw p9 (keywordEach [] X.env)))) :
    PE X (.Call (.Attribute (.Name B p1) "__init__" p2) [.Name "self" p3, .JoinedStr [.Constant (.str a) k1 p4, .FormattedValue (.Name "at" p5) (-1) none p6, .Constant (.str b) k2 p7] p8] [] p9)
      (fun σ H Q => ∃ (e : sF) (n : Int), σ[0]? = Fk (Fk (.ref e)) /\ σ[1]? = Fk (Fk (.int n)) /\ n.natAbs.log2 < 1920 /\ H e = Fk (.ext (RG e C)) /\ Q .non H) := by
  intro pins s σ H Q I h
  obtain ⟨e, n, e0, e1, hn, he, q⟩ := h
  refine PySem.W.methodCall_KW (pl := pl) (Iy I hg hB ?_ hdb) ht
  refine PySem.W.method_cls I.kIn D.sp (PySem.W.cls_value I.kIn D.rd D.fc (by decide +kernel) ?_)
  have I0 := I.tok (s.toks + 1)
  have A := J2 (KN (X := X) (i := 0) (x := "self") (pos := p3) (by rw [hN]; rfl) v0) (J2 (bA (X := X) (i := 1) (x := "at") (a := a) (b := b) (k1 := k1) (k2 := k2) (p1 := p4) (p2 := p5) (p3 := p6) (p4 := p7) (p5 := p8) (by rw [hN]; rfl) v1 ha hb) Qm)
  refine zX rfl (wq (thn (A p9 pins _ σ H (fun vs H1 => ∃ y, vs = [.ref e, .str y] /\ H1 = H) I0 ⟨_, e0, n, e1, hn, fun y => ⟨y, rfl, rfl⟩⟩) fun us s1 z => ?_))
  obtain ⟨vs, H1, I1, rv, y, rfl, rfl⟩ := z
  cases rv with
  | cons r0 rv =>
  cases rv with
  | cons r1 rv =>
  cases rv
  obtain rfl := r0
  obtain ⟨ws, t0, o1, o2, o3, o4⟩ := (I1.hok e _ he).1
  obtain ⟨nm, qn, N, bs, sn, sub, ab, col, dd, k0, kk1, kk2, k3, k5, lk, ok, _⟩ := D.cls
  obtain ⟨hp, g, d, tk, os⟩ := s1
  refine U5 (yu I1.kIn D.tail) (I1.kIn _ _ lk) o1 o2 o3 fun h' tt kp ob => ?_
  have w := I1.write (x := e) (e := e) (o := .ext (RG e C)) (t' := tk) (by rw [he]; trivial) (.inl rfl) kp ⟨_, ob⟩ (Vb ⟨_, tt, ob, by simp [o2], by simp [o2], by rw [x8 (by decide)]; exact o4⟩)
  rw [fP he] at w
  exact ⟨.non, H1, w, rfl, q⟩
theorem mY(D:XiD X.K C TE fI)(hN:X.N=([("self":Str),("at":Str)]:Gc Str))(v0:Vis X.env.scope "self")(v1:Vis X.env.scope "at")(hs:swapsWith (.Name "at" p3) (Fk (.Attribute (.Name "self" p1) "at" p2)) p4.line X.env=pure false):PS X (.Assign [.Attribute (.Name "self" p1) "at" p2] (.Name "at" p3) p4) (λD σ H=>∃(e:sF) (n:Int),σ[0]?=Fk (Fk (.ref e))/\σ[1]?=Fk (Fk (.int n))/\H e=Fk (.ext (RG e C))/\∀dx,H dx=none->dx≠e->D.nx σ (upd (upd H e (.ext (WQ e C dx))) dx (.xd [("at",.int n)]))):=by
 intro pins s σ H DD I h
 obtain⟨e,n,e0,e1,he,q⟩:=h
 refine plainObj_wpAny_Assign_Attribute (thn (KN (X:=X) (i:=1) (x:="at") (by rw[hN];rfl) v1 (by decide) (by decide) pins s σ H (λv H1=>v=.int n/\H1=H) I ⟨_,e1,rfl,rfl⟩) λu s1 z=>?_) hs
 obtain⟨v,H1,I1,ru,rfl,rfl⟩:=z
 refine thn (KN (X:=X) (i:=0) (x:="self") (by rw[hN];rfl) v0 (by decide) (by decide) pins s1 σ H1 (λv H2=>v=.ref e/\H2=H1) I1 ⟨_,e0,rfl,rfl⟩) λov s2 z=>?_
 obtain⟨v,H2,I2,rv,rfl,rfl⟩:=z
 obtain rfl:ov=tw e:=rv
 obtain⟨ws,t0,o1,o2,o3,o4⟩:=(I2.hok e _ he).1
 obtain⟨nm,qn,N,bs,sn,sub,ab,col,dd,k0,kk1,kk2,k3,k5,lk,ok,_⟩:=D.cls
 have lo:=I2.lo
 refine cN I2.kIn o1 D.sa (show wX X.K C=Fk _ from by unfold wX;rw[lk]) rfl rfl D.ob D.at_ λh' tk dx le ob ns kp=>?_
 have hn:=I2.hok.fresh le
 have ne:dx≠e:=λz=>by rw[z,he]at hn;cases hn
 have w:=I2.write (x:=e) (e:=e) (o:=.ext (WQ e C dx)) (t':=tk) (by rw[he];trivial) (.inl rfl) kp ⟨_,ob⟩ (aS ⟨_,t0,ob,o2,o3,o4⟩)
 have w2:=w.adopt lo le (o:=.xd [("at",.int n)]) (by rw[Ad ne];exact hn) ⟨_,ns,λf=>?_⟩
 .exact⟨σ,_,w2,q dx hn ne⟩
 .by_cases z:f="at"
  .subst z
   simp only[xP]
   rw[show yL ("at":Str) [(("at":Str),V.int n)]=Fk (.int n)from by simp[yL]]
   exact ru
  .simp only[z,xk]
   rw[show yL f [(("at":Str),V.int n)]=none from by
    have:(f==("at":Str))=false:=by simpa using z
    simp[yL,this]]
   trivial
end
abbrev sAt:Gc Str:=[("self":Str),("at":Str)]
noncomputable def t1I(C:sF):L2.TE:=λσ H Q=>∃(e:sF) (n:Int),σ[0]?=Fk (Fk (.ref e))/\σ[1]?=Fk (Fk (.int n))/\n.natAbs.log2<1920/\H e=Fk (.ext (RG e C))/\Q .non H
noncomputable def t2I(C:sF):TS:=λD σ H=>∃(e:sF) (n:Int),σ[0]?=Fk (Fk (.ref e))/\σ[1]?=Fk (Fk (.int n))/\H e=Fk (.ext (RG e C))/\∀dx,H dx=none->dx≠e->D.nx σ (upd (upd H e (.ext (WQ e C dx))) dx (.xd [("at",.int n)]))
noncomputable def spI(C:sF):Sp:=λvs H Q _=>∃(e:sF) (n:Int),vs=[.ref e,.int n]/\n.natAbs.log2<1920/\H e=Fk (.ext (RG e C))/\∀dx,H dx=none->dx≠e->Q .non (upd (upd H e (.ext (WQ e C dx))) dx (.xd [("at",.int n)]))
structure XiF(P:sj)(w:tu)(K:Wp)(mg:Str->sD W1)(base:tT)(x:Str):Prop where
 ex:∃C TE fI fd,mg x=Fk (.ref C)/\XiD K C TE fI/\K.lookup fI≠none/\(∃oc od sl,K.lookup fI=Fk ⟨oc,od,.func fd,sl⟩/\oc=.type "function")/\Binds K fd sAt []/\Pb P w K mg base CX0 1 fI fd sAt (spI C)
theorem cK{P:sj}{w:tu}{K:Wp}{mg:Str->sD W1}{base:tT}{C fI:sF}{fd:vD}{qual:Str}{st:tP}(Fu:Fun K "__init__" qual st fI fd)(S:BP sAt sAt (AF st))(hb:∀(cdv:W1) (A:tM) (outer:Gc uY) (s:sE) (H:Hp) (E:XK),PSs (IK CX0 P w K mg base sAt qual (AF st) fI cdv A outer s H E).nox (Ba st) (mX (aG (t1I C)) (t2I C))):Pb P w K mg base CX0 1 fI fd sAt (spI C):=by
 refine Fun.ok Fu S (λvs H Q E h=>?_) λcdv A outer s H vs Q E hr h=>⟨_,hb cdv A outer s H E,?_⟩
 .obtain⟨e,n,rfl,_⟩:=h
  rfl
 .obtain⟨e,n,rfl,hn,he,q⟩:=h
  exact⟨e,n,rfl,rfl,hn,he,e,n,rfl,rfl,he,λdx h1 h2=>q dx h1 h2⟩
theorem cZ{K:Wp}{h:tT}{N:sF}{mN:Str->sD W1}{x:Str}{v:W1}(X:K.In h)(G:h.Ns N mN)(e:uR K N x=Fk (Fk v)):mN x=Fk v:=by
 obtain⟨o,es,ep,ho,hd,_,hf⟩:=G
 unfold uR at e
 split at e
 .rename_i q
  have z:=X _ _ q
  rw[ho]at z
  cases z
  cases hd
  split at e
  .rename_i he
   rw[<-hf]
   unfold nsFind findBy
   rw[<-AAj,he]
   cases e
   rfl
  .split at e<;>cases e
 .cases e
section
variable{X:Cx}{pins:Gc (sF×Obj)}{σ:St}{H:Hp}{s:sE}
noncomputable def drp(H:Hp)(e:sF):Hp:=λb=>if b=e then none else H b
theorem Z8(I:Inv X pins σ H s){e:sF}{φ:tT->Prop}(he:H e=Fk (.ext φ)):Inv X pins σ (drp H e) s:=by
 have ne:∀b o,H b=Fk o->(∀φ,o≠.ext φ)->drp H e b=Fk o:=λb o q n=>by
  unfold drp
  rw[tN (λz=>by rw[z,he]at q;cases q;exact n _ rfl)]
  exact q
 have no:∀b,H b=none->drp H e b=none:=λb q=>by
  unfold drp
  split
  .rfl
  .exact q
 have B:=I.base
 refine⟨I.ok,I.os,I.bare,⟨B.keep,B.slot,λb o q n hx=>no b (B.free b o q n hx),B.there,λb xs q=>ne _ _ (B.WK b xs q) (λ_ z=>nomatch z),λb o u q=>ne _ _ (B.Sq b o u q) (λ_ z=>nomatch z),λb ps q=>?_⟩,I.loc,I.cell,no _ I.free,λx c q=>no _ (I.Iq x c q),λp m=>?_,λa o q=>?_,I.len⟩
 .obtain⟨more,z⟩:=B.V4 b ps q
  exact⟨more,ne _ _ z (λ_ z=>nomatch z)⟩
 .obtain⟨p1,p2,p3⟩:=I.pin p m
  exact⟨p1,no _ p2,p3⟩
 .have q':H a=Fk o:=by
   unfold drp at q
   split at q
   .cases q
   .exact q
  exact(I.hok a o q').Sj (λ_ _ _ z=>z) (λb z=>ne _ _ z (λ_ w=>nomatch w)) λb xs z=>ne _ _ z (λ_ w=>nomatch w)
theorem fT{e dx:sF}{o1 o2:HO}{o:HO}(he:H e=none)(ne:dx≠e):drp (upd (upd (upd H e o1) e o2) dx o) e=upd H dx o:=by
 funext b
 unfold drp upd
 by_cases z:b=e
 .subst z
  rw[tK rfl,tN (uO ne),he]
 .rw[tN z]
  by_cases w:b=dx
  .rw[tK w,tK w]
  .rw[tN w,tN w,tN z,tN z]
theorem Xh{C TE fI:sF}{fd:vD}{n:Int}{tn:Tok}{Q:W1->sE->Prop}{E:W1->sE->Prop}(D:XiD X.K C TE fI)(hf:∃oc od sl,X.K.lookup fI=Fk ⟨oc,od,.func fd,sl⟩/\oc=.type "function")(Bi:Binds X.K fd sAt [])(F:Pb X.prog X.w X.K X.mg X.base CX0 1 fI fd sAt (spI C))(hr:Eg 2 X.A)(hn:n.natAbs.log2<1920)(I:Inv X pins σ H s)(h:∀(e dx:sF) (s':sE),s.heap.get? e=none->H e=none->H dx=none->dx≠e->WQ e C dx s'.heap->Inv X pins σ (upd H dx (.xd [("at",.int n)])) s'->Q (.ref e) s'):wpAny (model X.prog X.w) X.A (call (.ref C) [.int n tn]) Q E s:=by
 obtain⟨nm,qn,N,bs,sn,sub,ab,col,dd,k0,k1,k2,k3,k5,lk,ok,hi⟩:=D.cls
 obtain⟨oc,od,sl,lf,rfl⟩:=hf
 have KI:=I.kIn
 obtain⟨hp,g,d,tk,os⟩:=s
 refine Vr wK (yu KI D.tail) (KI _ _ lk) (.of_isNs (yt KI ok)) (cZ KI (.of_isNs (yt KI ok)) hi) (KI _ _ lf) rfl (λh1 e t' R=>?_) (by rw[wk];simp)
 have he:H e=none:=I.hok.fresh R.le
 have I1:Inv X pins σ (upd H e (.ext (RG e C))) ⟨h1,g,d,tk,os⟩:=I.laid (t':=tk) (o:=.ext (RG e C)) R.keeps R.le (Vb ⟨_,t',R.obj,rfl,rfl,rfl⟩)
 have bi:=Bi ⟨h1,g,d,tk,os⟩ [.ref e,.int n tn] I1.kIn rfl
 rw[vJ]at bi
 refine wm (yb (F.run (X.A.under (.builtin "type.__call__" ⟨[.ref C,.int n tn],[]⟩)) X.stack ⟨h1,g,d,tk,os⟩ (upd H e (.ext (RG e C))) ⟨[.ref e,.int n tn],[]⟩ [.ref e,.int n tn] [.ref e,.int n] (λv H'=>v=.non/\∃dx,upd H e (.ext (RG e C)) dx=none/\dx≠e/\H'=upd (upd (upd H e (.ext (RG e C))) e (.ext (WQ e C dx))) dx (.xd [("at",.int n)])) (λ_ _ _=>vS)
  (hr.make C _ _) (I1.dG.make C _ _) bi (.cons rfl (.cons ⟨tn,rfl⟩ .nil)) ⟨e,n,rfl,hn,Av,λdx h1 h2=>⟨rfl,dx,h1,h2,rfl⟩⟩) λr s' hq=>?_)
 cases r with
 |error ev=>exact uW hq
 |ok fl=>
  cases fl with
  |ret u=>
   obtain⟨v,H',I2,rv,rfl,dx,hd,ne,rfl⟩:=I1.after hq
   cases rv
   have hx:H dx=none:=by rw[Ad ne]at hd;exact hd
   have e2:upd (upd (upd H e (.ext (RG e C))) e (.ext (WQ e C dx))) dx (.xd [("at",.int n)]) e=Fk (.ext (WQ e C dx)):=by rw[Ad (uO ne),Av]
   have eD:=(I2.hok e _ e2).1
   have I3:=Z8 I2 e2
   rw[fT he ne]at I3
   exact⟨rfl,h e dx s' R.new he hx ne eD I3⟩
  |next=>exact uW hq
  |brk=>exact uW hq
  |cont=>exact uW hq
end
section
variable{M:AAd}{A:tM}{E:W1->sE->Prop}{env:uY}
variable{nm q:Str}{C N:sF}{bs bm:Gc W1}{hdct:tV}{sn:Gc Str}{sub:Gc W1}{ab:tV}{col:sD tV}{dd:sD sF}{k0 k1 k2 k3 k5:sD W1}{newId:ug}
theorem RM{s:sE}{x:Sem W1}{Q:Flow->sE->Prop}(hbase:bm.contains (.type "BaseException")=true)(hh:A.handled=none)(h:wpAny M A x (λv s1=>∃e od vs,v=.ref e/\s1.heap.get? C=Fk (excClassObj nm q C N bs bm hdct sn sub ab col dd k0 k1 k2 k3 k5 newId)/\s1.heap.get? e=Fk {cls:=.ref C,dict:=od,data:=.fields vs}/\vs[1]?=Fk .none/\E (.ref e) s1) E s):wpAny M A (raiseStmt env (Fk x) none) Q E s:=by
 have hcB:(tw C::bm).contains (.type "BaseException")=true:=by rw[vq,hbase,Bool.or_true]
 unfold raiseStmt
 refine rz (uh h (λv s1 h1=>?_) λ_ _ z=>z)
 obtain⟨e,od,vs,rfl,hC,he,hv,hE⟩:=h1
 obtain⟨hp,g,d,tk,os⟩:=s1
 repeat (first|with_reducible refine we he ?_|with_reducible refine we hC ?_|(with_reducible refine AAZ hC ?_;rw[hcB])|wp_step)
 rw[hv]
 refine sR ?_
 rw[tN (by decide)]
 exact sR (wpAny_raiseNew_none hh hE)
end
noncomputable def ja(x:Str)(E:En)(q:D×Sto):sD (Tg×En×Sto):=match q.1 with
 | .int n=>if n.natAbs.log2<1920 then Fk (⟨x,Fk n⟩,E,q.2)else none
 |_=>none
noncomputable def Pk(x:Str)(f:Ev):Rx:=λE S=>(f E S).bind (ja x E)
theorem UY{X:Cx}{x:Str}{a:sk}{f:Ev}{np cpos pos:Pos}(hc:X.calm=true)(xi:XiF X.prog X.w X.K X.mg X.base x)(hg:Gl X x)(hr:Eg 2 X.A)(ha:DE X a f)(hxe:X.xe=λ_ _=>vS:=by rfl)(hx:X.ex=[]:=by rfl)(hdb:(x==("__debug__":Str))=false:=by decide)(he:sf [a] X.env=[(false,eval a X.env)]:=by rfl):RS X (.Raise (Fk (.Call (.Name x np) [a] [] cpos)) none pos) (Pk x f):=⟨by
 intro pins s σ H Z I h
 obtain⟨C,TE,fI,fd,hm,D,_,hf,Bi,F⟩:=xi.ex
 obtain⟨M,E,S,y,E',S',e0,r,st,q⟩:=h
 obtain⟨⟨d,S1⟩,e1,e2⟩:=As e0
 have hn:∃n:Int,d=.int n/\n.natAbs.log2<1920/\(y,E',S')=(⟨x,Fk n⟩,E,S1):=by
  unfold ja at e2
  split at e2
  .rename_i n hd
   split at e2
   .rename_i hl
    cases e2
    exact⟨n,hd,hl,rfl⟩
   .cases e2
  .cases e2
 obtain⟨n,rfl,hl,ee⟩:=hn
 cases ee
 obtain⟨nm,qn,N,bs,sn,sub,ab,col,dd,k0,k1,k2,k3,k5,lk,ok,hi⟩:=id D.cls
 rw[arm_exec_Raise]
 refine rz (vg (RM (C:=C) (nm:=nm) (q:=qn) (N:=N) (bs:=bs) (bm:=.ref TE::VEm) (hdct:=true) (sn:=sn) (sub:=sub) (ab:=ab) (col:=col) (dd:=dd) (k0:=k0) (k1:=k1) (k2:=k2) (k3:=k3) (k5:=k5) (newId:="ValueError.__new__") (by rw[vq];exact vd.mpr (.inr (by decide+kernel))) (I.ok.hd hc) (rz (uh (wpAny_Call_ofName (Iy I hg hm ?_ hdb)) (λv s3 h3=>rz (vg (sR h3))) λ_ _ z=>z))))
 unfold callWith
 have KI:=I.kIn
 have aa:DEs X [a] [f]:=AE ha AV he
 have e1':evs [f] E S=Fk ([.int n],S'):=by
  show(f E S).bind (λr=>(evs [] E r.2).map λq=>(r.1::q.1,q.2))=_
  rw[e1];rfl
 have ha':=aa.pe cpos pins s σ H (λvs H1=>∃M1,Gr M H M1 H1/\StR X.K M1 S' H1/\Aj X.K M1 H1 vs [.int n]) I (Fs e1' r st λvs H1 M1 g1 st1 r1=>⟨M1,g1,st1,r1⟩)
 rw[he]at ha'⊢
 refine rz (ua (wq (Gg hxe ha' λus s1 ⟨vs,H1,I1,rv,M1,g1,st1,r1⟩=>rz (vg ?_))))
 cases r1 with
 |cons r1 rn=>
 cases rn
 cases r1
 cases rv with
 |cons rv rw'=>
 cases rw'
 obtain⟨tn,rfl⟩:=rv
 have C1:=I1.kIn _ _ lk
 obtain⟨hp,g,d,tk,os⟩:=s1
 refine rz (wpAny_keeperOf_exc C1 ?_)
 refine rz (Xh (E:=_) D hf Bi F hr hl I1 λe dx s' en ef dn ne eD I2=>rz (ua (wpAny_point (sR ?_))))
 obtain⟨ws,t0,o1,o2,o3,o4⟩:=eD
 refine⟨e,Fk dx,ws,rfl,I2.kIn _ _ lk,o1,o4,e,C,Fk dx,σ,_,rfl,I2,?_,?_,λz=>Fb I1 hx _ z en,_,ws,_,.none,o1,rfl,rfl,o3,o4,.inl rfl,λ_ z=>z⟩
 .exact q C (Fk dx) σ _ M1 ⟨hm,λm z=>⟨dx,rfl,by cases z;exact Av⟩⟩ (g1.trans (Gr.grow st1.mo (EY dn))) ((r.step g1.st).step (Gr.grow st1.mo (EY dn)).st) (st1.grow (EY dn))
 .rw[Ad (uO ne)];exact ef⟩
section
variable{prog:sj}{w:tu}{A:tM}{E:W1->sE->Prop}{s:sE}{K:Wp}{x C:sF}{ox:Obj}{od:sD Obj}{name:Str}{expr:tV}{Q:W1->sE->Prop}{v:W1}
end
structure XaD(K:Wp)(C:sF):Prop where
 cls:∃cd,wX K C=Fk cd/\cd.hasDict=true
 at_:uL K (.ref C) "at"=Fk none
 ga:uL K (.ref C) "__getattribute__"=Fk (Fk (.builtin "BaseException.__getattribute__"))
 gg:uL K (.ref C) "__getattr__"=Fk none
 bx:wU K C (.type "BaseException")=Fk true
section
variable{X:Cx}{pins:Gc (sF×Obj)}{σ:St}{H:Hp}{s:sE}
end
noncomputable def gZ(s:tP)(k:Nat):tP:=match s with
 | .ClassDef _ _ _ b _ _ _ _ _ _ _=>b.getD k (.Pass ⟨0,0,0,0⟩)
 |_=>.Pass ⟨0,0,0,0⟩
structure XiR(K:Wp)(mg:Str->sD W1)(x B qual:Str)(st:tP):Prop where
 ex:∃C TE fI fd,mg x=Fk (.ref C)/\mg B=Fk (.ref TE)/\XiD K C TE fI/\Fun K "__init__" qual st fI fd/\∃oc od sl,K.lookup fI=Fk ⟨oc,od,.func fd,sl⟩/\oc=.type "function"
 xa:∀C,mg x=Fk (.ref C)->XaD K C
theorem gC{P:sj}{w:tu}{K:Wp}{mg:Str->sD W1}{base:tT}{x B qual:Str}{st:tP}(r:XiR K mg x B qual st)(S:BP sAt sAt (AF st))(bi:∀f fd,Fun K "__init__" qual st f fd->Binds K fd sAt [])(hb:∀(C TE fI:sF),XiD K C TE fI->mg B=Fk (.ref TE)->∀(cdv:W1) (A:tM) (outer:Gc uY) (s:sE) (H:Hp) (E:XK),PSs (IK CX0 P w K mg base sAt qual (AF st) fI cdv A outer s H E).nox (Ba st) (mX (aG (t1I C)) (t2I C))):XiF P w K mg base x:=by
 obtain⟨C,TE,fI,fd,h1,h2,D,F,h3⟩:=r.ex
 exact⟨C,TE,fI,fd,h1,D,(by obtain⟨oc,od,sl,z,_⟩:=h3;rw[z];exact λw=>nomatch w),h3,bi fI fd F,cK F S (hb C TE fI D h2)⟩
theorem fm {K : Wp} {h : tT} {mg : Str -> sD W1} {x B qual : Str} {st : tP} {C TE fI N : sF} {nm q : Str} {bs : Gc W1} {sn : Gc Str} {sub : Gc W1} {ab : tV} {col : sD tV} {dd : sD sF} {k0 k1 k2 k3 k5 : sD W1} {oc : W1} {od an : sD sF} {osl : uI (sD W1)} {kV doc pm cdv ct c1 : W1} {d1 : sD sF} {es : uI DictEntry} {n1 : Nat} {s1 : uI (sD W1)} (X : K.In h) (G : h.Ns mainGlobals mg) (a1 : uR K mainGlobals x = Fk (Fk (.ref C))) (a2 : uR K mainGlobals B = Fk (Fk (.ref TE))) (a3 : K.lookup C = Fk (excClassObj nm q C N bs (.ref TE :: VEm) true sn sub ab col dd k0 k1 k2 k3 k5 "ValueError.__new__")) (b1 : K.lookup N = Fk ⟨c1, d1, .dict es n1, s1⟩) (b2 : (es.all fun e => match e.key with | .str _ _ => true | _ => false) = true) (a5 : uR K N "__init__" = Fk (Fk (.ref fI))) (a0 : xI K TE VEm "ValueError.__new__" = true) (a7 : uL K (.ref C) "__setattr__" = Fk (Fk (.builtin "object.__setattr__"))) (a8 : uL K (.ref C) "at" = Fk none) (a9 : xf K (.ref TE) "__getattribute__" = Fk (Fk (.builtin "type.__getattribute__"))) (a10 : PySem.W.readsIn K TE (.type "type") = true) (a11 : PySem.W.findCls K (.ref TE) (.type "type") "__init__" = Fk (.val (.builtin "ValueError.__init__"))) (a12 : uL K (.ref C) "__getattribute__" = Fk (Fk (.builtin "BaseException.__getattribute__"))) (a13 : uL K (.ref C) "__getattr__" = Fk none) (l : K.lookup fI = Fk ⟨oc, od, .func (v3 "__init__" qual (Ir st) (Ba st) (AF st) .none kV doc pm an cdv ct), osl⟩) (lc : oc = .type "function") (c : xh K cdv qual = true) (k : vG K (.ref fI) = true) : XiR K mg x B qual st := by
  have cd : wX K C = Fk { name := nm, bases := bs, mro := .ref C :: .ref TE :: VEm, ns := N, qualname := q, hasDict := true, slotNames := sn, subclasses := sub, abstract := ab, collection := col, hasDel := false } := by unfold wX; rw [a3]
  have mr : ∀ {t : W1}, (tw C :: .ref TE :: VEm).contains t = true -> wU K C t = Fk true := fun {t} z => by
    unfold wU
    rw [cd]
    exact congrArg Fk z
  have mb : (tw C :: .ref TE :: VEm).contains (.type "object") = true := by rw [vq, vq]; exact vd.mpr (.inr (vd.mpr (.inr (by decide +kernel))))
  have mx : (tw C :: .ref TE :: VEm).contains (.type "BaseException") = true := by rw [vq, vq]; exact vd.mpr (.inr (vd.mpr (.inr (by decide +kernel))))
  have hm := wC X G a1
  have a4 : AAL K N = true := by unfold AAL; rw [b1]; exact b2
  have a6 : AAM K VEm (.ref TE :: VEm) = true := by
    unfold xI at a0
    split at a0
    case h_2 => cases a0
    rename_i dT cT sT ho
    split at a0
    case h_2 => cases a0
    simp only [sU, vc, xr] at a0
    obtain ⟨⟨⟨_, _⟩, hok⟩, hni⟩ := a0
    unfold AAM
    rw [vd]
    refine .inr ?_
    dsimp only
    rw [ho]
    dsimp only
    rw [hok, hni]
    rfl
  exact ⟨⟨C, TE, fI, _, hm, wC X G a2, ⟨⟨nm, q, N, bs, sn, sub, ab, col, dd, k0, k1, k2, k3, k5, a3, a4, a5⟩, a6, a7, mr mb, a8, a9, a10, a11⟩, ⟨⟨oc, od, kV, doc, pm, an, cdv, ct, osl, rfl, l, c⟩, k⟩, oc, od, osl, l, lc⟩,
    fun C' z => by
      rw [hm] at z
      cases z
      exact ⟨⟨_, cd, rfl⟩, a8, a12, a13, mr mx⟩⟩
noncomputable def fC:Op2:=λa b=>match a,b with
 | .val (.bl x),.val (.bl false)=>Fk (.val (.bl (!x)))
 |_,_=>none
theorem bB{X:Cx}:OpR X (compareOp .Is) (rOp X.K fC):=by
 intro pins s σ H x y v u Q I rx ry h
 obtain⟨M,w1,w2,r,e,mo,s1,s2,q⟩:=h
 unfold fC at e
 split at e
 .rename_i b
  cases e
  obtain rfl:=Br.iv s1
  obtain rfl:=Br.iv s2
  cases rx
  cases ry
  have q1:Q (.bl (!b)) H:=q _ _ (.same mo (.bl _))
  cases b
  .exact sR (Qs I q1 rfl)
  .exact sR (Qs I q1 rfl)
 .cases e
section
variable{X:Cx}
theorem rT{a:Gc sk}{b:Gc Ev}(h:DEs X a b):DEs X a b:=h
theorem gDE{a:sk}{b:Ev}(h:DE X a b):DE X a b:=h
theorem rF{a:Gc tP}{b:Ex}(h:DSs X a b):DSs X a b:=h
theorem gDS{a:tP}{b:Ex}(h:DS X a b):DS X a b:=h
theorem gDT{a:sk}{b:Ev}(h:DT X a b):DT X a b:=h
theorem gDG{a:sk}{b:Tf}(h:DG X a b):DG X a b:=h
theorem rh{a:W1->W1->Sem W1}{b:R2}(h:OpR X a b):OpR X a b:=h
theorem pS{a:W1}{b:Gc V->Hp->VK->Prop}(h:El X a b):El X a b:=h
end
section
variable{P:sj}{w:tu}{K:Wp}{mg:Str->sD W1}{base:tT}
theorem dfW{x:Str}{st:tP}{N ps:Gc Str}(k:Nat){np:Nat}{b:Ex}(S:St.Src K mg x st)(sc:BP N ps (AF st))(hb:∀{f:sF} {cdv:W1} {A:tM} {outer:Gc uY} {s:sE} {H:Hp} {E:XK},N.Nodup->Eg k (A.deeper (tQ x (AF st) s.heap.objs.size f cdv))->(A.deeper (tQ x (AF st) s.heap.objs.size f cdv)).units+100<cLine->DSs (IK CX0 P w K mg base N x (AF st) f cdv A outer s H E).nox (Ba st) b)(hp:ps.length=np:=by rfl)(hbi:BnR x st ps:=by exact λ_ _ _ _ _ _ _=>rfl):St.Dfn P w K mg base x (k+1) ps (spD K np (AY (Af N.length b))):=dfM k S sc (λhr hu=>hb sc.nd hr hu) hp hbi
theorem pJ{x:Str}{st:tP}{N ps:Gc Str}(k:Nat){np:Nat}{b:Ex}(S:St.Src K mg x st)(sc:BP N ps (AF st))(hb:∀{f:sF} {cdv:W1} {A:tM} {outer:Gc uY} {s:sE} {H:Hp} {E:XK},N.Nodup->Qx (IK CX0 P w K mg base N x (AF st) f cdv A outer s H E).nox x->Eg k (A.deeper (tQ x (AF st) s.heap.objs.size f cdv))->(A.deeper (tQ x (AF st) s.heap.objs.size f cdv)).units+100<cLine->DSs (IK CX0 P w K mg base N x (AF st) f cdv A outer s H E).nox (Ba st) b)(hp:ps.length=np:=by rfl)(hbi:BnR x st ps:=by exact λ_ _ _ _ _ _ _=>rfl):St.Dfn P w K mg base x (k+1) ps (spD K np (AY (Af N.length b))):=dfL k S sc (λci hr hu=>hb sc.nd ci hr hu) hp hbi
theorem Qe{x:Str}{st:tP}{N ps:Gc Str}(k:Nat){np:Nat}{r:Rx}(S:St.Src K mg x st)(sc:BP N ps (AF st))(hb:∀{f:sF} {cdv:W1} {A:tM} {outer:Gc uY} {s:sE} {H:Hp} {E:XK},N.Nodup->Eg k (A.deeper (tQ x (AF st) s.heap.objs.size f cdv))->(A.deeper (tQ x (AF st) s.heap.objs.size f cdv)).units+100<cLine->RSs (IK CX0 P w K mg base N x (AF st) f cdv A outer s H E).nox (Ba st) r)(hp:ps.length=np:=by rfl)(hbi:BnR x st ps:=by exact λ_ _ _ _ _ _ _=>rfl):N3 P w K mg base x (k+1) ps (spR K mg np (AY (Fm N.length r))):=Vd S sc hp (λ_ _ F=>bnR F hbi) λf cdv A outer s H E hr=>hb sc.nd hr (NB hr)
end
section
open PyProof.Rows (boot_isinstance boot_int boot_bool boot_tuple boot_str boot_list boot_abs boot_all boot_any boot_sum boot_max boot_min boot_range boot_enumerate boot_zip boot_sorted boot_set boot_divmod)
noncomputable def Fc:D:=.tup [.int 0,.int 1]
noncomputable def Xn:D:=.tup [.int 1,.int 1]
noncomputable def BX:D:=.tup [.str "bring",.str "pool",.str "swap",.str "trade"]
def Eh:Ex:=(Aq (H0 (eOp (o2 Sx) [eV 0,eC (.ty "int")]) (Jx (eOp (o2 Sx) [eV 0,eC (.ty "bool")]))))
def CV:Fn:=AY (Af 1 Eh)
def Fg:Ex:=(Aq (H0 (AB CV [eV 0]) (eOp (o2 wGe) [eV 0,eV 1])))
def Dj:Fn:=AY (Af 2 Fg)
def DA:Ex:=(Aq (H0 (AB Dj [eV 0,eV 1]) (eOp (o2 wLe) [eV 0,eV 2])))
def A3:Fn:=AY (Af 3 DA)
def Ez:Ex:=(AR (SY 0 1 (eOp (o1 dM) [eV 0]) (eOp (o1 dM) [eV 1]))
    (AR (OK (UN 1) (eOp (o2 wNe) [eV 1,eI 0]) (SY 0 1 (eV 1) (eOp (o2 PU) [eV 0,eV 1])))
    (Aq (eV 0))))
def B8:Fn:=AY (Af 2 Ez)
def MQ:Ex:=(AR (A8 2 (AB B8 [eV 0,eV 1]))
    (Aq (B0 [eOp (o2 NS) [eV 0,eV 2],eOp (o2 NS) [eV 1,eV 2]])))
def DJ:Fn:=AY (Af 3 MQ)
def Qq:Ex:=(Aq (AB DJ [eOp (o2 Ct) [eOp (o2 Bx) [eIx (eV 0) (eI 0),eIx (eV 1) (eI 1)],eOp (o2 Bx) [eIx (eV 1) (eI 0),eIx (eV 0) (eI 1)]],eOp (o2 Bx) [eIx (eV 0) (eI 1),eIx (eV 1) (eI 1)]]))
def Gv:Fn:=AY (Af 2 Qq)
def QT:Ex:=(Aq (AB DJ [eOp (o2 Mm) [eOp (o2 Bx) [eIx (eV 0) (eI 0),eIx (eV 1) (eI 1)],eOp (o2 Bx) [eIx (eV 1) (eI 0),eIx (eV 0) (eI 1)]],eOp (o2 Bx) [eIx (eV 0) (eI 1),eIx (eV 1) (eI 1)]]))
def JG:Fn:=AY (Af 2 QT)
def N6:Ex:=(Aq (AB DJ [eOp (o2 Bx) [eIx (eV 0) (eI 0),eIx (eV 1) (eI 0)],eOp (o2 Bx) [eIx (eV 0) (eI 1),eIx (eV 1) (eI 1)]]))
def FL:Fn:=AY (Af 2 N6)
def OR:Ex:=(AR (A8 4 (eOp (o2 Ct) [eOp (o2 Bx) [eOp (o2 Bx) [eIx (eV 0) (eI 0),eIx (eV 2) (eI 1)],eV 1],eOp (o2 Bx) [eOp (o2 Bx) [eIx (eV 2) (eI 0),eIx (eV 0) (eI 1)],eV 3]]))
    (Aq (AB DJ [eV 4,eOp (o2 Bx) [eOp (o2 Bx) [eIx (eV 0) (eI 1),eIx (eV 2) (eI 1)],eOp (o2 Ct) [eV 1,eV 3]]])))
def Hk:Fn:=AY (Af 5 OR)
def GC:Ex:=(Aq (H0 (eOp (o2 wLt) [eV 1,eOp (o1 Ep) [eV 0]]) (eOp (o2 wGe) [eIx (eIx (eV 0) (eV 1)) (eI 1),eV 2])))
def Bh:Fn:=AY (Af 3 GC)
def F1:Ex:=(Aq (H0 (AB Bh [eV 0,eV 1,eI 1]) (H0 (AB Bh [eV 0,eV 2,eI 1]) (eOp (o2 wEq) [eIx (eIx (eV 0) (eV 1)) (eI 0),eIx (eIx (eV 0) (eV 2)) (eI 0)]))))
def Dy:Fn:=AY (Af 3 F1)
def Hq:Ex:=(Aq (H0 (AB Bh [eV 0,eV 1,eV 2]) (eOp (o2 wNe) [eIx (eIx (eV 0) (eV 1)) (eI 0),eV 3])))
def Dk:Fn:=AY (Af 4 Hq)
def Du:Ex:=(AR (A8 3 (eIx (eV 2) (eI 0)))
    (AR (xIf (eOp (o2 wEq) [eV 3,eC (.str "pool")]) (Aq (AB Dy [eV 0,eIx (eV 2) (eI 1),eIx (eV 2) (eI 2)])) Cv)
    (AR (xIf (eOp (o2 wEq) [eV 3,eC (.str "swap")]) (Aq (AB Dk [eV 0,eIx (eV 2) (eI 1),eIx (eV 2) (eI 2),eIx (eV 2) (eI 3)])) Cv)
    (AR (xIf (eOp (o2 wEq) [eV 3,eC (.str "trade")]) (AR (A8 4 (Bg [] 1 (Fq (eV 1)) (tNm 0) (eOp (o2 wEq) [eIx (eV 0) (eI 0),eC (.str "trade")]) (eIx (eV 0) (eI 1))))
    (Aq (H0 (eOp (o2 (wIn true)) [eIx (eV 2) (eI 1),eV 4]) (AB Dk [eV 0,eIx (eV 2) (eI 2),eIx (eV 2) (eI 3),eIx (eV 2) (eI 4)])))) Cv)
    (AR (xIf (eOp (o2 (wIn false)) [eV 3,B0 [eC (.str "spoil"),eC (.str "throw")]]) (Aq (AB Bh [eV 0,eIx (eV 2) (eI 1),eIx (eV 2) (eI 2)])) Cv)
    (Aq (eC (.bl true))))))))
def Bn:Fn:=AY (Af 5 Du)
def HE:Ex:=(AR (LC (tTp [tNm 3,tNm 4]) (eIx (eV 0) (eV 1)))
    (Aq (eOp (o2 Ct) [eOp (o2 Ct) [eOp (KY false true) [eV 0,eV 1],Eu [B0 [eV 3,eOp (o2 Mm) [eV 4,eV 2]]]],eOp (KY true false) [eV 0,eOp (o2 Ct) [eV 1,eI 1]]])))
def Bc:Fn:=AY (Af 5 HE)
def BU:Ex:=(AR (A8 2 (eIx (eV 1) (eI 0)))
    (AR (xIf (eOp (o2 wEq) [eV 2,eC (.str "bring")]) (Aq (eOp (o2 Ct) [eV 0,Eu [B0 [eIx (eV 1) (eI 2),eIx (eV 1) (eI 3)]]])) Cv)
    (AR (xIf (eOp (o2 wEq) [eV 2,eC (.str "pool")]) (AR (LC (tTp [tNm 3,tNm 4]) (eIx (eV 0) (eIx (eV 1) (eI 1))))
    (AR (A8 5 (eIx (eIx (eV 0) (eIx (eV 1) (eI 2))) (eI 1)))
    (Aq (eOp (o2 Ct) [AB Bc [AB Bc [eV 0,eIx (eV 1) (eI 1),eV 4],eIx (eV 1) (eI 2),eV 5],Eu [B0 [eV 3,eOp (o2 Ct) [eV 4,eV 5]]]])))) Cv)
    (AR (xIf (eOp (o2 (wIn false)) [eV 2,B0 [eC (.str "swap"),eC (.str "trade")]]) (AR (LC (tTp [tNm 6,tNm 7,tNm 3,tNm 8]) (eOp (KY true false) [eV 1,eOp (o1 N0) [eI 4]]))
    (Aq (eOp (o2 Ct) [AB Bc [eV 0,eV 6,eV 7],Eu [B0 [eV 3,eV 8]]]))) Cv)
    (AR (xIf (eOp (o2 (wIn false)) [eV 2,B0 [eC (.str "spoil"),eC (.str "throw")]]) (Aq (AB Bc [eV 0,eIx (eV 1) (eI 1),eIx (eV 1) (eI 2)])) Cv)
    (Aq (eV 0)))))))
def AS:Fn:=AY (Af 9 BU)
def GV:Ex:=(Aq (Bg [] 1 (Fq (eIx (eV 0) (eI 1))) (tNm 0) BK (B0 [eIx (eV 0) (eI 0),eIx (eV 0) (eI 1)])))
def A1:Fn:=AY (Af 1 GV)
def Az:Ex:=(AR (A8 1 (eIx (eV 0) (eI 0)))
    (AR (xIf (eOp (o2 wEq) [eV 1,eC (.str "pool")]) (Aq (eOp (o1 Na) [Eu [eIx (eV 0) (eI 1),eIx (eV 0) (eI 2)]])) Cv)
    (AR (xIf (eOp (o2 (wIn false)) [eV 1,B0 [eC (.str "swap"),eC (.str "trade")]]) (Aq (Eu [eIx (eV 0) (eOp (o1 N0) [eI 4])])) Cv)
    (Aq (Eu [])))))
def Ab:Fn:=AY (Af 2 Az)
def C3:Ex:=(AR (A8 1 (AB A1 [eV 0]))
    (AR (A8 2 (eIx (eV 0) (eI 2)))
    (AR (L6 (YI (eV 2)) (tTp [tNm 3,tNm 4]) (AR (xIf (Jx (AB Bn [eV 1,eOp (KY false true) [eV 2,eV 3],eV 4])) (Aq (eV 3)) Cv)
    (A8 1 (AB AS [eV 1,eV 4]))))
    (Aq (eC .non)))))
def A5:Fn:=AY (Af 5 C3)
def DC:Ex:=(AR (A8 1 (AB A5 [eV 0]))
    (xIf (eOp (o2 (XG true)) [eV 1,eC .non]) Lb Cv))
def AH:Fn:=AY (Af 2 DC)
def DO:Ex:=(xIf (Jx (AB A3 [eV 1,eI 0,eOp (o1 Ep) [eIx (eV 0) (eI 2)]])) Lb Cv)
def AM:Fn:=AY (Af 2 DO)
def IL:Ex:=(Aq (eOp (o1 DK) [Bg [1] 1 (L7 [eV 0]) (tNm 1) BK (eIf (eOp (o2 wEq) [eV 1,eV 0]) (eC Xn) (eC Fc))]))
def BN:Fn:=AY (Af 2 IL)
def HB:Ex:=(Aq (eOp (o1 DK) [Bg [1,3] 2 (YH (eV 0) (eV 2)) (tTp [tNm 2,tNm 3]) BK (AB Hk [eV 2,eV 0,eV 3,eV 1])]))
def Ce:Fn:=AY (Af 4 HB)
def BF:Ex:=(AR (A8 3 (AB Ab [eV 2]))
    (AR (xIf (eOp (o2 wEq) [eOp (o1 Ep) [eV 3],eI 1]) (Aq (eIx (eV 1) (eIx (eV 3) (eI 0)))) Cv)
    (AR (LC (tTp [tNm 4,tNm 5]) (eV 3))
    (Aq (AB Ce [eIx (eV 1) (eV 4),eIx (eIx (eV 0) (eV 4)) (eI 1),eIx (eV 1) (eV 5),eIx (eIx (eV 0) (eV 5)) (eI 1)])))))
def Aa:Fn:=AY (Af 6 BF)
def HG:Ex:=(Aq (eOp (o2 Ct) [eOp (o1 QP) [Bg [2] 2 (Fq (eV 1)) (tTp [tNm 1,tNm 2]) BK (eOp (o2 Bx) [eV 2,eIx (eV 0) (eV 1)])],eOp (o2 Bx) [eIx (eV 0) (eI 2),eIx (eV 2) (eOp (o1 N0) [eI 1])]]))
def Dc:Fn:=AY (Af 3 HG)
def Hh:Ex:=(AR (LC (tTp [tNm 3,tNm 4,tNm 5]) (eOp (KY true false) [eV 2,eI 1]))
    (Aq (AB DJ [eOp (o2 Bx) [eV 4,eIx (eV 5) (eIx (eIx (eV 1) (eV 3)) (eI 0))],AB Dc [eV 0,eV 1,eV 5]])))
def EE:Fn:=AY (Af 6 Hh)
def GR:Ex:=(AR (LC (tTp [tNm 5,tNm 6]) (AB EE [eV 0,eV 1,eV 3]))
    (Aq (AB Ce [eV 4,eOp (o2 Mm) [eV 6,eV 5],eIx (eV 2) (eIx (eV 3) (eI 1)),eV 5])))
def DB:Fn:=AY (Af 7 GR)
def HY:Ex:=(AR (LC (tTp [tNm 2,tNm 3,tNm 4]) (eOp (KY true false) [eV 0,eI 1]))
    (AR (A8 5 (AB FL [eIx (eV 1) (eV 2),eV 4]))
    (AR (A8 6 (c8 (o1 Ow) [eV 1]))
    (AR (Lz (AB JG [eIx (eV 1) (eV 2),eV 5]) (eV 6) (eV 2))
    (AR (Lz (AB Gv [eIx (eV 1) (eV 3),eV 5]) (eV 6) (eV 3))
    (Aq (eOp (o1 DK) [eV 6])))))))
def D0:Fn:=AY (Af 7 HY)
def BD:Ex:=(AR (xIf (eOp (o2 wEq) [eIx (eV 3) (eI 0),eC (.str "throw")]) (Aq (AB DB [eV 0,eV 1,eV 2,eV 3,eV 4])) Cv)
    (AR (xIf (eOp (o2 wEq) [eIx (eV 3) (eI 0),eC (.str "sell")]) (Aq (AB D0 [eV 3,eV 4])) Cv)
    (Aq (eV 4))))
def Ag:Fn:=AY (Af 5 BD)
def BC:Ex:=(AR (A8 4 (Bg [0,1,2,3] 1 (Fq (eV 2)) (tNm 4) BK (AB Ag [eV 0,eV 1,eV 2,eV 3,eV 4])))
    (AR (xIf (eOp (o2 wEq) [eIx (eV 3) (eI 0),eC (.str "bring")]) (Aq (eOp (o2 Ct) [eV 4,Eu [AB BN [eIx (eV 0) (eI 0),eIx (eV 3) (eI 1)]]])) Cv)
    (AR (xIf (eOp (o2 (wIn false)) [eIx (eV 3) (eI 0),eC BX]) (Aq (eOp (o2 Ct) [eV 4,Eu [AB Aa [eV 1,eV 2,eV 3]]])) Cv)
    (Aq (eV 4)))))
def Al:Fn:=AY (Af 5 BC)
def KA:Ex:=(AR (LC (tTp [tNm 2,tNm 3,tNm 4]) (eV 0))
    (AR (A8 5 (AB A1 [eV 0]))
    (AR (A8 6 (Bg [] 1 (Fq (eV 3)) (tNm 0) BK (eIx (eV 0) (eI 2))))
    (AR (A8 7 (eIx (eV 2) (eI 3)))
    (AR (L6 (Fq (eOp (KY false true) [eV 4,eV 1])) (tNm 8) (AR (A8 7 (AB Ag [eV 2,eV 5,eV 6,eV 8,eV 7]))
    (AR (A8 6 (AB Al [eV 2,eV 5,eV 6,eV 8]))
    (A8 5 (AB AS [eV 5,eV 8])))))
    (Aq (B0 [eV 5,eV 6,eV 7])))))))
def Dv:Fn:=AY (Af 9 KA)
def KJ:Ex:=(AR (Ac (AB AH [eV 0]))
    (AR (Ac (AB AM [eV 0,eV 1]))
    (AR (LC (tTp [tNm 2,tNm 3,tNm 4]) (AB Dv [eV 0,eV 1]))
    (Aq (OY [] 3 (YH (eV 2) (eV 3)) (tTp [tTp [tNm 1,tNm 2],tNm 0]) BK (B0 [eV 1,eV 2,eV 0]))))))
def C5:Fn:=AY (Af 5 KJ)
def IM:Ex:=(AR (Ac (AB AH [eV 0]))
    (AR (Ac (AB AM [eV 0,eV 1]))
    (AR (LC (tTp [tNm 2,tNm 3,tNm 4]) (AB Dv [eV 0,eV 1]))
    (Aq (eV 4)))))
def Bk:Fn:=AY (Af 5 IM)
def Gn:Ex:=(AR (xIf (eOp (o2 wLt) [eV 1,eOp (o1 Ep) [eV 0]]) (Aq (eIx (eV 0) (eV 1))) Cv)
    (Aq (eI 0)))
def CZ:Fn:=AY (Af 2 Gn)
def O9:Ex:=(Aq (HJ [eV 0,eOp (o1 TH) [eOp (o2 wGe) [eV 0,eOp (o2 aQ) [eI 10,eI 18]]],eI 0,eOp (o2 PU) [eV 0,eI 1000000007]]))
def HZ:Fn:=AY (Af 1 O9)
def IE:Ex:=(AR (xIf (H0 (eOp (o2 wEq) [eIx (eV 0) (eI 1),eI 1]) (eOp (o2 wGt) [eIx (eV 0) (eI 0),eI 0])) (AR (A8 2 (eOp (o2 PU) [eIx (eV 0) (eI 0),eV 1]))
    (AR (Lz (eOp (o2 NS) [eIx (eV 0) (eI 0),eV 1]) (eV 0) (eI 0))
    (Aq (eV 2)))) Cv)
    (AR (Lz (eOp (o2 Ct) [eIx (eV 0) (eI 2),eI 1]) (eV 0) (eI 2))
    (AR (A8 3 (eOp (o2 PU) [eOp (o2 Bx) [eOp (o2 Ct) [eIx (eV 0) (eI 3),eI 17],eOp (o2 Ct) [eI 69621,eOp (o2 Bx) [eI 2,eIx (eV 0) (eI 2)]]],eI 2147483647]))
    (AR (A8 3 (eOp (o2 PU) [eOp (o2 Ct) [eOp (o2 Ct) [eOp (o2 Bx) [eV 3,eV 3],eOp (o2 Bx) [eI 40503,eIx (eV 0) (eI 2)]],eI 5],eI 2147483629]))
    (Aq (eOp (o2 PU) [eOp (o2 NS) [eOp (o2 PU) [eOp (o2 Bx) [eV 3,eI 48271],eI 2147483647],eI 32],eV 1]))))))
def AG:Fn:=AY (Af 4 IE)
def KQ:Ex:=(AR (OK (UN 1) (eOp (o2 wGt) [eV 1,eI 0]) (SY 0 1 (eV 1) (eOp (o2 PU) [eV 0,eV 1])))
    (Aq (eV 0)))
def Fx:Fn:=AY (Af 2 KQ)
def Mf:Ex:=(AR (A8 2 (AB Fx [eOp (o1 dM) [eV 0],eV 1]))
    (Aq (B0 [eOp (o2 NS) [eV 0,eV 2],eOp (o2 NS) [eV 1,eV 2]])))
def Bl:Fn:=AY (Af 3 Mf)
def MO:Ex:=(Aq (AB Bl [eOp (o2 Ct) [eOp (o2 Bx) [eIx (eV 0) (eI 0),eIx (eV 1) (eI 1)],eOp (o2 Bx) [eIx (eV 1) (eI 0),eIx (eV 0) (eI 1)]],eOp (o2 Bx) [eIx (eV 0) (eI 1),eIx (eV 1) (eI 1)]]))
def CK:Fn:=AY (Af 2 MO)
def K0:Ex:=(Aq (AB Bl [eOp (o2 Bx) [eIx (eV 0) (eI 0),eIx (eV 1) (eI 0)],eOp (o2 Bx) [eIx (eV 0) (eI 1),eIx (eV 1) (eI 1)]]))
def Ax:Fn:=AY (Af 2 K0)
def Ma:Ex:=(Aq (AB CK [eV 0,B0 [eOp (o2 Mm) [eI 0,eIx (eV 1) (eI 0)],eIx (eV 1) (eI 1)]]))
def Dw:Fn:=AY (Af 2 Ma)
def Ic:Ex:=(AR (A8 2 (OY [0] 1 (L7 [eV 1]) (tNm 1) BK (eIx (Eu [eI 0,eI 1,AB AG [eV 0,eI 4],AB AG [eV 0,eI 9]]) (AB AG [eV 0,eI 4]))))
    (AR (xIf (eOp (o2 wEq) [eOp (o1 QP) [eV 2],eI 0]) (Lz (eI 1) (eV 2) (AB AG [eV 0,eV 1])) Cv)
    (Aq (eOp (o1 DK) [Bg [2] 1 (Fq (eV 2)) (tNm 1) BK (AB Bl [eV 1,eOp (o1 QP) [eV 0]])]))))
def Dh:Fn:=AY (Af 3 Ic)
def Hf:Ex:=(AR (A8 1 (eOp (o2 Ct) [eOp (o2 aQ) [eI 10,eI 30],AB AG [eV 0,eI 99]]))
    (Aq (eIx (Eu [eOp (o2 Ct) [eI 1,AB AG [eV 0,eI 4]],eOp (o2 Ct) [eI 1,AB AG [eV 0,eI 40]],eOp (o2 Ct) [eI 1,AB AG [eV 0,eI 999]],eV 1]) (eOp (o2 NS) [AB AG [eV 0,eI 7],eI 2]))))
def BH:Fn:=AY (Af 2 Hf)
def Lq:Ex:=(AR (SY 1 2 (eOp (o2 Ct) [eI 1,AB AG [eV 0,eI 4]]) (eOp (o2 Ct) [eI 1,AB AG [eV 0,eI 5]]))
    (AR (A8 3 (eIx (Eu [eOp (o2 Ct) [eI 1,AB AG [eV 0,eI 3]],eOp (o2 Ct) [eI 1,AB AG [eV 0,eI 20]]]) (AB AG [eV 0,eI 2])))
    (Aq (B0 [eV 1,eV 2,eV 3,AB Dh [eV 0,eV 1],AB AG [eV 0,eI 10],AB AG [eV 0,eI 10]]))))
def Gz:Fn:=AY (Af 4 Lq)
def Ls:Ex:=(AR (A8 2 (HJ []))
    (AR (L6 (L7 [eIx (Eu [eI 0,eI 1,AB AG [eV 0,eI 5]]) (AB AG [eV 0,eI 3])]) (tNm 3) (Ac (Fi Fp (eV 2) [B0 [AB AG [eV 0,eIx (eV 1) (eI 1)],AB BH [eV 0],AB Dh [eV 0,eIx (eV 1) (eI 0)]]])))
    (Aq (eOp (o1 DK) [eV 2]))))
def G3:Fn:=AY (Af 4 Ls)
def Lf:Ex:=(AR (A8 1 (eOp (o2 Ct) [eI 1,AB AG [eV 0,eI 12]]))
    (Aq (AB Bl [eOp (o2 Ct) [eI 1,AB AG [eV 0,eV 1]],eV 1])))
def FV:Fn:=AY (Af 2 Lf)
def KC:Ex:=(Aq (eOp (o1 DK) [Bg [0] 1 (L7 [eV 1]) (tNm 1) BK (eOp (o2 Ct) [eI 1,eIx (Eu [AB AG [eV 0,eI 3],AB AG [eV 0,eI 99]]) (AB AG [eV 0,eI 2])])]))
def Dm:Fn:=AY (Af 2 KC)
def LI:Ex:=(Aq (HJ [OY [] 1 (Fq (eIx (eV 0) (eI 1))) (tNm 0) BK (c8 (o1 Ow) [eV 0]),eOp (o1 DK) [eIx (eIx (eV 0) (eI 0)) (eI 3)],HJ []]))
def Gs:Fn:=AY (Af 1 LI)
def KO:Ex:=(AR (A8 2 (HJ []))
    (AR (L6 (YH (eIx (eV 0) (eI 2)) (eIx (eV 1) (eI 2))) (tTp [tNm 3,tNm 4]) (AR (A8 5 (AB CK [AB Ax [B0 [eIx (eV 0) (eI 1),eI 1],eV 3],AB Ax [B0 [eIx (eV 1) (eI 1),eI 1],eV 4]]))
    (Ac (Fi Fp (eV 2) [AB Ax [eV 5,AB Bl [eI 1,eOp (o2 Ct) [eIx (eV 0) (eI 1),eIx (eV 1) (eI 1)]]]]))))
    (Aq (eOp (o1 DK) [eV 2]))))
def Fw:Fn:=AY (Af 6 KO)
def MZ:Ex:=(AR (A8 3 (eIx (eV 2) (eI 3)))
    (AR (A8 4 (eOp (o2 Ct) [eOp (o1 QP) [Bg [3] 3 (Fq (eV 1)) (tTp [tNm 1,tNm 2,tNm 3]) BK (eOp (o2 Bx) [eV 2,eIx (eV 0) (eV 1)])],eOp (o2 Bx) [eIx (eV 0) (eI 2),eIx (eV 3) (eOp (o1 N0) [eI 1])]]))
    (Aq (AB Bl [eOp (o2 Bx) [eIx (eV 2) (eI 2),eIx (eV 3) (eIx (eIx (eV 1) (eIx (eV 2) (eI 1))) (eI 0))],eV 4]))))
def IC:Fn:=AY (Af 5 MZ)
def LU:Ex:=(AR (A8 3 (HJ []))
    (AR (L6 (YH (eV 0) (eV 2)) (tTp [tNm 4,tNm 5]) (Ac (Fi Fp (eV 3) [AB CK [AB Ax [eV 4,AB Dw [B0 [eI 1,eI 1],eV 1]],AB Ax [eV 5,eV 1]]])))
    (Aq (eOp (o1 DK) [eV 3]))))
def EK:Fn:=AY (Af 6 LU)
def MU:Ex:=(AR (A8 2 (c8 (o1 Ow) [eV 0]))
    (AR (A8 3 (AB Ax [eIx (eV 2) (eIx (eV 1) (eI 1)),eIx (eV 1) (eI 3)]))
    (AR (Lz (AB Dw [eIx (eV 2) (eIx (eV 1) (eI 1)),eV 3]) (eV 2) (eIx (eV 1) (eI 1)))
    (AR (Lz (AB CK [eIx (eV 2) (eIx (eV 1) (eI 2)),eV 3]) (eV 2) (eIx (eV 1) (eI 2)))
    (Aq (eOp (o1 DK) [eV 2]))))))
def FF:Fn:=AY (Af 4 MU)
def Jg:Ex:=(AR (LC (tTp [tNm 3,tNm 4,tNm 5]) (eV 1))
    (xIf (eOp (o2 wEq) [eIx (eV 2) (eI 0),eC (.str "throw")]) (AR (SY 6 7 (AB IC [eV 0,eV 3,eV 2]) (eIx (eIx (eV 3) (eIx (eV 2) (eI 1))) (eI 2)))
    (AR (Lz (eOp (o2 Mm) [eIx (eIx (eV 3) (eIx (eV 2) (eI 1))) (eI 1),eIx (eV 2) (eI 2)]) (eIx (eV 3) (eIx (eV 2) (eI 1))) (eI 1))
    (AR (L6 (Fq (eV 3)) (tNm 8) (Lz (AB EK [eIx (eV 8) (eI 2),eV 6,eV 7]) (eV 8) (eI 2)))
    (Lz (AB EK [eV 4,eV 6,eV 7]) (eV 1) (eI 1))))) (AR (L6 (Fq (eV 3)) (tNm 8) (Lz (AB FF [eIx (eV 8) (eI 2),eV 2]) (eV 8) (eI 2)))
    (Lz (AB FF [eV 4,eV 2]) (eV 1) (eI 1)))))
def FE:Fn:=AY (Af 9 Jg)
def Ft:Ex:=(AR (LC (tTp [tNm 3,tNm 4,tNm 5]) (eV 1))
    (AR (A8 6 (eIx (eV 2) (eI 0)))
    (xIf (eOp (o2 wEq) [eV 6,eC (.str "bring")]) (Ac (Fi Fp (eV 3) [HJ [eIx (eV 2) (eI 2),eIx (eV 2) (eI 3),eOp (o1 DK) [Bg [2] 1 (L7 [eIx (eV 0) (eI 0)]) (tNm 1) BK (B0 [eOp (o1 TH) [eOp (o2 wEq) [eV 1,eIx (eV 0) (eI 1)]],eI 1])]]])) (xIf (eOp (o2 wEq) [eV 6,eC (.str "pool")]) (AR (SY 7 8 (eIx (eV 3) (eIx (eV 2) (eI 1))) (eIx (eV 3) (eIx (eV 2) (eI 2))))
    (AR (Ac (Fi Fp (eV 3) [HJ [eIx (eV 7) (eI 0),eOp (o2 Ct) [eIx (eV 7) (eI 1),eIx (eV 8) (eI 1)],AB Fw [eV 7,eV 8]]]))
    (AR (Lz (eI 0) (eV 7) (eI 1))
    (Lz (eI 0) (eV 8) (eI 1))))) (xIf (eOp (o2 (wIn false)) [eV 6,B0 [eC (.str "swap"),eC (.str "trade")]]) (AR (LC (tTp [tNm 9,tNm 10,tNm 11,tNm 12]) (eOp (KY true false) [eV 2,eOp (o1 N0) [eI 4]]))
    (AR (Lz (eOp (o2 Mm) [eIx (eIx (eV 3) (eV 9)) (eI 1),eV 10]) (eIx (eV 3) (eV 9)) (eI 1))
    (AR (Ac (Fi Fp (eV 3) [HJ [eV 11,eV 12,eIx (eIx (eV 3) (eV 9)) (eI 2)]]))
    (Ac (Fi jV (eV 5) [eOp (o2 Bx) [eOp (KY true true) [eV 2,eI 1,eI 2],eOp (o1 TH) [eOp (o2 wEq) [eV 6,eC (.str "trade")]]]]))))) (xIf (eOp (o2 wEq) [eV 6,eC (.str "spoil")]) (Lz (eOp (o2 Mm) [eIx (eIx (eV 3) (eIx (eV 2) (eI 1))) (eI 1),eIx (eV 2) (eI 2)]) (eIx (eV 3) (eIx (eV 2) (eI 1))) (eI 1)) (Ac (AB FE [eV 0,eV 1,eV 2]))))))))
def EB:Fn:=AY (Af 13 Ft)
def Mn:Ex:=(AR (LC (tTp [tNm 3,tNm 4,tNm 5]) (eV 2))
    (AR (A8 6 (Bg [] 2 (YI (eV 3)) (tTp [tNm 0,tNm 1]) (eOp (o2 wGt) [eIx (eV 1) (eI 1),eI 0]) (eV 0)))
    (AR (A8 7 (AB AG [eV 0,eI 12]))
    (AR (xIf (eOr (eOp (o2 wLt) [eV 7,eI 2]) (eOp (o2 wEq) [eV 6,Eu []])) (Aq (B0 [eC (.str "bring"),AB AG [eV 0,eIx (eV 1) (eI 0)],AB AG [eV 0,eIx (eV 1) (eI 1)],AB BH [eV 0]])) Cv)
    (AR (A8 8 (eIx (eV 6) (AB AG [eV 0,eOp (o1 Ep) [eV 6]])))
    (AR (A8 9 (eOp (o2 Ct) [eI 1,AB AG [eV 0,eOp (o2 jB) [eIx (eIx (eV 3) (eV 8)) (eI 1),eI 2000]]]))
    (AR (xIf (eOp (o2 wLt) [eV 7,eI 5]) (AR (A8 10 (Bg [3,8] 1 (Fq (eV 6)) (tNm 2) (H0 (eOp (o2 wNe) [eV 2,eV 1]) (eOp (o2 wEq) [eIx (eIx (eV 0) (eV 2)) (eI 0),eIx (eIx (eV 0) (eV 1)) (eI 0)])) (eV 2)))
    (xIf (eOp (o2 wNe) [eV 10,Eu []]) (Aq (B0 [eC (.str "pool"),eV 8,eIx (eV 10) (AB AG [eV 0,eOp (o1 Ep) [eV 10]])])) Cv)) Cv)
    (AR (xIf (H0 (eOp (o2 wLt) [eV 7,eI 8]) (eOp (o2 wGt) [eIx (eV 1) (eI 1),eI 1])) (AR (A8 11 (eOp (o2 PU) [eOp (o2 Ct) [eOp (o2 Ct) [eIx (eIx (eV 3) (eV 8)) (eI 0),eI 1],AB AG [eV 0,eOp (o2 Mm) [eIx (eV 1) (eI 1),eI 1]]],eIx (eV 1) (eI 1)]))
    (AR (A8 12 (Bg [5] 1 (L7 [eI 10]) (tNm 1) (eOp (o2 (wIn true)) [eV 1,eV 0]) (eV 1)))
    (AR (xIf (H0 (eOp (o2 wEq) [eV 7,eI 7]) (eOp (o2 wNe) [eV 12,Eu []])) (Aq (B0 [eC (.str "trade"),eIx (eV 12) (AB AG [eV 0,eOp (o1 Ep) [eV 12]]),eV 8,eV 9,eV 11,AB BH [eV 0]])) Cv)
    (Aq (B0 [eC (.str "swap"),eV 8,eV 9,eV 11,AB BH [eV 0]]))))) Cv)
    (AR (xIf (eOp (o2 wEq) [eV 7,eI 8]) (Aq (B0 [eC (.str "spoil"),eV 8,eV 9])) Cv)
    (AR (xIf (H0 (eOp (o2 wEq) [eV 7,eI 9]) (eOp (o2 wGt) [eIx (eV 1) (eI 0),eI 1])) (AR (A8 13 (AB AG [eV 0,eIx (eV 1) (eI 0)]))
    (Aq (B0 [eC (.str "sell"),eV 13,eOp (o2 PU) [eOp (o2 Ct) [eOp (o2 Ct) [eV 13,eI 1],AB AG [eV 0,eOp (o2 Mm) [eIx (eV 1) (eI 0),eI 1]]],eIx (eV 1) (eI 0)],AB FV [eV 0]]))) Cv)
    (Aq (B0 [eC (.str "throw"),eV 8,eV 9,AB Dm [eV 0,eOp (o2 Ct) [eIx (eV 1) (eI 1),eI 1]]]))))))))))))
def EN:Fn:=AY (Af 14 Mn)
def Ml:Ex:=(AR (A8 2 (AB Gz [eV 0]))
    (AR (A8 3 (AB G3 [eV 0,eV 2]))
    (AR (SY 4 5 (AB Gs [B0 [eV 2,eV 3,B0 []]]) (HJ []))
    (AR (L6 (L7 [AB AG [eV 0,eOp (o2 Ct) [eV 1,eI 1]]]) (tNm 6) (AR (A8 7 (AB EN [eV 0,eV 2,eV 4]))
    (xIf (eOr (eOp (o2 wNe) [eIx (eV 7) (eI 0),eC (.str "throw")]) (eOp (o2 wLt) [eOp (o1 Ep) [Bg [] 1 (Fq (eV 5)) (tNm 0) (eOp (o2 wEq) [eIx (eV 0) (eI 0),eC (.str "throw")]) (eV 0)],eI 3])) (AR (Ac (AB EB [eV 2,eV 4,eV 7]))
    (Ac (Fi Fp (eV 5) [eV 7]))) Cv)))
    (Aq (B0 [eV 2,eV 3,eOp (o1 DK) [eV 5]]))))))
def Dp:Fn:=AY (Af 8 Ml)
def ID:Ex:=(Aq (H0 (eOp (o2 Sx) [eV 0,eC (.ty "int")]) (H0 (Jx (eOp (o2 Sx) [eV 0,eC (.ty "bool")])) (Pm (eI 0) (eV 0) (eV 1)))))
def CL:Fn:=AY (Af 2 ID)
def HP:Ex:=(AR (SY 1 2 (eIx (eV 0) (eI 1)) (eIx (eV 0) (eI 2)))
    (Aq (eOp (o2 Ct) [Bg [] 1 (Fq (eV 1)) (tNm 0) BK (Eu []),Bg [] 1 (Fq (eV 2)) (tNm 0) (eOp (o2 (wIn false)) [eIx (eV 0) (eI 0),eC BX]) (AB Ab [eV 0])])))
def BG:Fn:=AY (Af 3 HP)
def GB:Ex:=(Aq (eOp (o2 Ct) [eOp (o1 Ep) [eIx (eV 0) (eI 1)],eOp (o1 Ep) [Bg [] 1 (Fq (eOp (KY false true) [eIx (eV 0) (eI 2),eV 1])) (tNm 0) (eOp (o2 (wIn false)) [eIx (eV 0) (eI 0),eC BX]) (eV 0)]]))
def BL:Fn:=AY (Af 2 GB)
def EF:Ex:=(xIf (Jx (AB A3 [eV 1,eI 0,eOp (o2 Mm) [AB BL [eV 0,eOp (o1 Ep) [eIx (eV 0) (eI 2)]],eI 1]])) Lb Cv)
def AN:Fn:=AY (Af 2 EF)
def Hi:Ex:=(AR (Ac (AB AH [eV 0]))
    (AR (Ac (AB AN [eV 0,eV 1]))
    (AR (A8 2 (HJ []))
    (AR (L6 (YI (AB BG [eV 0])) (tTp [tNm 3,tNm 4]) (AR (A8 5 (Bg [2,3] 1 (Fq (eV 4)) (tNm 2) BK (eOp (o2 Ct) [eIx (eV 0) (eV 2),B0 [eV 1]])))
    (Ac (Fi Fp (eV 2) [eMn (eV 5) (B0 [eV 3])]))))
    (Aq (eIx (eV 2) (eV 1)))))))
def BS:Fn:=AY (Af 6 Hi)
def KW:Ex:=(AR (Ac (AB AH [eV 0]))
    (AR (Ac (AB AN [eV 0,eV 1]))
    (AR (xIf (eOr (Jx (eOp (o2 Sx) [eV 2,eC (.ty "tuple")])) (eOp (o2 wEq) [eOp (o1 Ep) [eV 2],eI 0])) (Aq (eC (.bl false))) Cv)
    (AR (A8 3 (AB BG [eV 0]))
    (AR (xIf (Jx (eOp (o1 iP) [Bg [3] 1 (Fq (eV 2)) (tNm 1) BK (AB A3 [eV 1,eI 0,eOp (o2 Mm) [eOp (o1 Ep) [eV 0],eI 1]])])) (Aq (eC (.bl false))) Cv)
    (AR (xIf (eOr (eOp (o2 wNe) [eIx (eV 2) (eOp (o1 N0) [eI 1]),eV 1]) (eOp (o2 wGt) [eOp (o1 Ep) [eIx (eV 3) (eIx (eV 2) (eI 0))],eI 0])) (Aq (eC (.bl false))) Cv)
    (Aq (eOp (o1 iP) [Bg [3] 2 (YH (eV 2) (eOp (KY true false) [eV 2,eI 1])) (tTp [tNm 1,tNm 2]) BK (eOp (o2 (wIn false)) [eV 1,eIx (eV 0) (eV 2)])]))))))))
def C4:Fn:=AY (Af 4 KW)
def LB:Ex:=(AR (Ac (AB AH [eV 0]))
    (AR (Ac (AB AN [eV 0,eV 1]))
    (Aq (eIx (AB BG [eV 0]) (eV 1)))))
def EJ:Fn:=AY (Af 2 LB)
def HX:Ex:=(AR (Ac (AB AH [eV 0]))
    (AR (Ac (AB AN [eV 0,eV 1]))
    (AR (A8 2 (HJ []))
    (AR (L6 (Fq (AB BG [eV 0])) (tNm 3) (Ac (Fi Fp (eV 2) [eIf (eOp (o2 wGt) [eOp (o1 Ep) [eV 3],eI 0]) (eOp (o1 QP) [Bg [2] 1 (Fq (eV 3)) (tNm 1) BK (eIx (eV 0) (eV 1))]) (eI 1)])))
    (Aq (eIx (eV 2) (eV 1)))))))
def Bp:Fn:=AY (Af 4 HX)
def Hn:Ex:=(AR (A8 1 (AB BL [eV 0,eOp (o1 Ep) [eIx (eV 0) (eI 2)]]))
    (AR (A8 2 (AB A1 [eV 0]))
    (AR (A8 3 (OY [1] 1 (L7 [eOp (o1 Ep) [eV 2]]) (tNm 1) BK (AB BN [eV 0,eV 1])))
    (AR (L6 (Fq (eIx (eV 0) (eI 2))) (tNm 4) (AR (xIf (eOp (o2 wEq) [eIx (eV 4) (eI 0),eC (.str "bring")]) (Ac (Fi Fp (eV 3) [AB BN [eV 1,eOp (o1 Ep) [eV 3]]])) (xIf (eOp (o2 (wIn false)) [eIx (eV 4) (eI 0),eC BX]) (Ac (Fi Fp (eV 3) [AB Aa [eV 2,eV 3,eV 4]])) Cv))
    (A8 2 (AB AS [eV 2,eV 4]))))
    (Aq (eV 3))))))
def EA:Fn:=AY (Af 5 Hn)
def IP:Ex:=(AR (Ac (AB AH [eV 0]))
    (AR (Ac (AB AN [eV 0,eV 1]))
    (Aq (Bg [] 2 (YI (eIx (AB EA [eV 0]) (eV 1))) (tTp [tNm 0,tNm 1]) (eOp (o2 wGt) [eIx (eV 1) (eI 0),eI 0]) (B0 [eV 0,eV 1])))))
def B6:Fn:=AY (Af 2 IP)
def F2:Rx:=(rIf (Jx (AB A3 [eV 1,eI 0,eOp (o2 Mm) [AB BL [eV 0,eOp (o1 Ep) [eIx (eV 0) (eI 2)]],eI 1]])) (OU "NoLoad" [eC (.str "the book makes no load of this number")]) rNo)
def Ar:Rf:=AY (Fm 2 F2)
def EU:Rx:=(IW rNo (A8 1 (AB A5 [eV 0]))
    (rIf (eOp (o2 (XG true)) [eV 1,eC .non]) (Pk "NotDone" (eV 1)) rNo))
def AQ:Rf:=AY (Fm 2 EU)
def LO:Rx:=(IW (BB AQ [eV 0]) (Ac (AB AH [eV 0]))
    (IW (BB Ar [eV 0,eV 1]) (Ac (AB AN [eV 0,eV 1]))
    rNo))
def CI:Rf:=AY (Fm 6 LO)
def PK:Rx:=(IW (BB AQ [eV 0]) (Ac (AB AH [eV 0]))
    (IW (BB Ar [eV 0,eV 1]) (Ac (AB AN [eV 0,eV 1]))
    rNo))
def Dr:Rf:=AY (Fm 4 PK)
def QG:Rx:=(IW (BB AQ [eV 0]) (Ac (AB AH [eV 0]))
    (IW (BB Ar [eV 0,eV 1]) (Ac (AB AN [eV 0,eV 1]))
    rNo))
def FO:Rf:=AY (Fm 2 QG)
def K6:Rx:=(IW (BB AQ [eV 0]) (Ac (AB AH [eV 0]))
    (IW (BB Ar [eV 0,eV 1]) (Ac (AB AN [eV 0,eV 1]))
    rNo))
def CO:Rf:=AY (Fm 4 K6)
def L4:Rx:=(IW (BB AQ [eV 0]) (Ac (AB AH [eV 0]))
    (IW (BB Ar [eV 0,eV 1]) (Ac (AB AN [eV 0,eV 1]))
    rNo))
def Co:Rf:=AY (Fm 2 L4)
noncomputable def Am:Tg->Ex:=(gOr ["NotDone","NoNumber","NoPartner","NoLoad"] "NotDone" (Aq (eC (.str "done"))) (gOr ["NotDone","NoNumber","NoPartner","NoLoad"] "NoNumber" (Aq (eC (.str "number"))) (gOr ["NotDone","NoNumber","NoPartner","NoLoad"] "NoPartner" (Aq (eC (.str "partner"))) (gOr ["NotDone","NoNumber","NoPartner","NoLoad"] "NoLoad" (Aq (eC (.str "load"))) gNo))))
def IX:Ex:=(AR (A8 3 (HJ [HK "_law_loads_so" [0,1] (AB EJ [eV 0,eV 1]) (BB FO [eV 0,eV 1]) (.str "none") Am]))
    (AR (Ac (Fi Fp (eV 3) [HK "_law_loads_so" [0,1] (AB B6 [eV 0,eV 1]) (BB Co [eV 0,eV 1]) (.str "none") Am]))
    (AR (Ac (Fi Fp (eV 3) [HK "_law_loads_so" [0,1] (AB BS [eV 0,eV 1]) (BB CI [eV 0,eV 1]) (.str "none") Am]))
    (AR (Ac (Fi Fp (eV 3) [HK "_law_loads_so" [0,1] (AB Bp [eV 0,eV 1]) (BB CO [eV 0,eV 1]) (.str "none") Am]))
    (AR (Ac (Fi Fp (eV 3) [HK "_law_loads_so" [0,1] (AB C4 [eV 0,eV 1,eC .non]) (BB Dr [eV 0,eV 1,eC .non]) (.str "none") Am]))
    (Aq (eOp (o2 wEq) [eV 3,eOp (o2 Bx) [Eu [eV 2],eI 5]])))))))
def BO:Fn:=AY (Af 4 IX)
def CU:Ex:=(AR (A8 2 (eIx (eV 1) (eI 0)))
    (AR (xIf (eOp (o2 wEq) [eV 2,eC (.str "bring")]) (Aq (Eu [B0 [eIx (eV 1) (eI 2),eC (.str "out"),eIx (eV 1) (eI 3)]])) Cv)
    (AR (xIf (eOp (o2 (wIn false)) [eV 2,B0 [eC (.str "swap"),eC (.str "trade")]]) (AR (LC (tTp [tNm 3,tNm 4,tNm 5,tNm 6]) (eOp (KY true false) [eV 1,eOp (o1 N0) [eI 4]]))
    (Aq (Eu [B0 [eIx (eIx (eV 0) (eV 3)) (eI 0),eC (.str "given"),eV 4],B0 [eV 5,eC (.str "got"),eV 6]]))) Cv)
    (AR (xIf (eOp (o2 wEq) [eV 2,eC (.str "spoil")]) (Aq (Eu [B0 [eIx (eIx (eV 0) (eIx (eV 1) (eI 1))) (eI 0),eC (.str "spoilt"),eIx (eV 1) (eI 2)]])) Cv)
    (AR (xIf (eOp (o2 wEq) [eV 2,eC (.str "throw")]) (Aq (Eu [B0 [eIx (eIx (eV 0) (eIx (eV 1) (eI 1))) (eI 0),eC (.str "thrown"),eIx (eV 1) (eI 2)]])) Cv)
    (Aq (Eu [])))))))
def BQ:Fn:=AY (Af 7 CU)
def KS:Ex:=(AR (A8 2 (AB A1 [eV 0]))
    (AR (A8 3 (Bg [] 2 (Fq (eV 2)) (tTp [tNm 0,tNm 1]) BK (B0 [eV 0,eC (.str "out"),eV 1])))
    (AR (L6 (Fq (eOp (KY false true) [eIx (eV 0) (eI 2),eV 1])) (tNm 4) (AR (A8 3 (eOp (o2 Ct) [eV 3,AB BQ [eV 2,eV 4]]))
    (A8 2 (AB AS [eV 2,eV 4]))))
    (Aq (eOp (o2 Ct) [eV 3,Bg [] 2 (Fq (eV 2)) (tTp [tNm 0,tNm 1]) BK (B0 [eV 0,eC (.str "left"),eV 1])])))))
def Fv:Fn:=AY (Af 5 KS)
def HC:Ex:=(Aq (eOp (o1 QP) [Bg [1,2] 3 (Fq (eV 0)) (tTp [tNm 2,tNm 3,tNm 4]) (H0 (eOp (o2 wEq) [eV 2,eV 0]) (eOp (o2 wEq) [eV 3,eV 1])) (eV 4)]))
def Bb:Fn:=AY (Af 3 HC)
noncomputable def Ln:D:=.tup [.str "out",.str "got",.str "given",.str "spoilt",.str "thrown",.str "left"]
def IV:Ex:=(AR (A8 2 (AB Fv [eV 0,eV 1]))
    (Aq (eOp (o1 DK) [Bg [2] 1 (L7 [eIx (eIx (eV 0) (eI 0)) (eI 1)]) (tNm 1) BK (eOp (o1 DK) [Bg [0,1] 1 (Fq (eC Ln)) (tNm 2) BK (AB Bb [eV 0,eV 1,eV 2])])])))
def Cj:Fn:=AY (Af 3 IV)
def KH:Ex:=(AR (Ac (AB AH [eV 0]))
    (AR (Ac (AB AM [eV 0,eV 1]))
    (Aq (AB Cj [eV 0,eV 1]))))
def CT:Fn:=AY (Af 2 KH)
def K9:Ex:=(AR (A8 2 (AB A1 [eV 0]))
    (AR (L6 (Fq (eOp (KY false true) [eIx (eV 0) (eI 2),eV 1])) (tNm 3) (A8 2 (AB AS [eV 2,eV 3])))
    (Aq (eV 2))))
def Gw:Fn:=AY (Af 4 K9)
def KG:Ex:=(AR (Ac (AB AH [eV 0]))
    (AR (Ac (AB AM [eV 0,eV 1]))
    (AR (A8 2 (AB Gw [eV 0,eV 1]))
    (Aq (eOp (o1 DK) [Bg [2] 1 (L7 [eIx (eIx (eV 0) (eI 0)) (eI 1)]) (tNm 1) BK (eOp (o1 QP) [Bg [1] 2 (Fq (eV 0)) (tTp [tNm 1,tNm 2]) (eOp (o2 wEq) [eV 1,eV 0]) (eV 2)])])))))
def CQ:Fn:=AY (Af 3 KG)
def DN:Rx:=(rIf (Jx (AB A3 [eV 1,eI 0,eOp (o1 Ep) [eIx (eV 0) (eI 2)]])) (OU "NoNumber" [eC (.str "the book hasn't so many deeds")]) rNo)
def Ae:Rf:=AY (Fm 2 DN)
def O3:Rx:=(IW (BB AQ [eV 0]) (Ac (AB AH [eV 0]))
    (IW (BB Ae [eV 0,eV 1]) (Ac (AB AM [eV 0,eV 1]))
    rNo))
def Ds:Rf:=AY (Fm 2 O3)
def MG:Rx:=(IW (BB AQ [eV 0]) (Ac (AB AH [eV 0]))
    (IW (BB Ae [eV 0,eV 1]) (Ac (AB AM [eV 0,eV 1]))
    rNo))
def Ck:Rf:=AY (Fm 5 MG)
def O1:Rx:=(IW (BB AQ [eV 0]) (Ac (AB AH [eV 0]))
    (IW (BB Ae [eV 0,eV 1]) (Ac (AB AM [eV 0,eV 1]))
    rNo))
def Ef:Rf:=AY (Fm 5 O1)
def O0:Rx:=(IW (BB AQ [eV 0]) (Ac (AB AH [eV 0]))
    (IW (BB Ae [eV 0,eV 1]) (Ac (AB AM [eV 0,eV 1]))
    rNo))
def Dl:Rf:=AY (Fm 3 O0)
def HH:Ex:=(AR (A8 3 (HJ [HK "_law_numbers_so" [0,1] (AB C5 [eV 0,eV 1]) (BB Ef [eV 0,eV 1]) (.str "none") Am]))
    (AR (Ac (Fi Fp (eV 3) [HK "_law_numbers_so" [0,1] (AB Bk [eV 0,eV 1]) (BB Ck [eV 0,eV 1]) (.str "none") Am]))
    (AR (Ac (Fi Fp (eV 3) [HK "_law_numbers_so" [0,1] (AB CQ [eV 0,eV 1]) (BB Dl [eV 0,eV 1]) (.str "none") Am]))
    (AR (Ac (Fi Fp (eV 3) [HK "_law_numbers_so" [0,1] (AB CT [eV 0,eV 1]) (BB Ds [eV 0,eV 1]) (.str "none") Am]))
    (Aq (eOp (o2 wEq) [eV 3,eOp (o2 Bx) [Eu [eV 2],eI 4]]))))))
def A9:Fn:=AY (Af 4 HH)
def Ij(rec:Fn):Ex:=(AR (A8 2 (AB AG [eV 0,eI 12]))
    (AR (xIf (eOr (eOp (o2 wLt) [eV 2,eI 8]) (eOp (o2 wEq) [eV 1,eI 0])) (Aq (eIx (Eu [eC .non,eC (.bl true),eC (.bl false),eI 0,eI 1,eOp (o1 N0) [eI 1],eI 9,eOp (o2 aQ) [eI 10,eI 39],eC (.str ""),eC (.str "a"),B0 [],Eu []]) (AB AG [eV 0,eI 12]))) Cv)
    (AR (A8 3 (Bg [0,1] 1 (L7 [AB AG [eV 0,eI 4]]) (tNm 2) BK (AB rec [eV 0,eOp (o2 Mm) [eV 1,eI 1]])))
    (AR (xIf (eOp (o2 wEq) [eV 2,eI 8]) (Aq (eV 3)) Cv)
    (AR (xIf (eOp (o2 wEq) [eV 2,eI 9]) (Aq (fL [((eC (.str "a")),(eV 3))])) Cv)
    (Aq (eOp (o1 DK) [eV 3])))))))
def Ay:Nat->Fn
 |0=>λ_ _=>none
 |n+1=>AY (Af 4 (Ij (Ay n)))
def Ou(rec_p_is_same:Fn):Ex:=(Aq (H0 (eOp (o2 wEq) [eOp (o1 Ep) [eV 0],eOp (o1 Ep) [eV 1]]) (eOp (o1 iP) [Bg [1] 2 (YI (eV 0)) (tTp [tNm 1,tNm 2]) BK (AB rec_p_is_same [eV 2,eIx (eV 0) (eV 1)])])))
def Iz(rec_p_are_same:Fn):Ex:=(AR (xIf (eOp (o2 Sx) [eV 1,eC (.ty "tuple")]) (Aq (H0 (eOp (o2 Sx) [eV 0,eC (.ty "tuple")]) (AB rec_p_are_same [eV 0,eV 1]))) Cv)
    (AR (xIf (eOp (o2 Sx) [eV 1,eC (.ty "list")]) (Aq (H0 (eOp (o2 Sx) [eV 0,eC (.ty "list")]) (AB rec_p_are_same [eV 0,eV 1]))) Cv)
    (AR (xIf (eOp (o2 (XG false)) [eV 1,eC .non]) (Aq (eOp (o2 (XG false)) [eV 0,eC .non])) Cv)
    (Aq (H0 (AB CV [eV 0]) (eOp (o2 wEq) [eV 0,eV 1]))))))
def W4:Nat->Fn×Fn
 |0=>(λ_ _=>none,λ_ _=>none)
 |n+1=>(AY (Af 2 (Ou (W4 n).2)),AY (Af 2 (Iz (W4 n).1)))
def Gy(n:Nat):Fn:=(W4 n).2
def Hr:Ex:=(AR (Ac (AB AH [eV 0]))
    (Aq (AB (Gy 8) [eV 1,Bg [0] 1 (L7 [eOp (o2 Ct) [eOp (o1 Ep) [eIx (eV 0) (eI 2)],eI 1]]) (tNm 1) BK (AB Cj [eV 0,eV 1])])))
def BV:Fn:=AY (Af 2 Hr)
def EW:Ex:=(Aq (AB A3 [eV 1,eI 0,eOp (o2 Mm) [eIx (eV 0) (eI 0),eI 1]]))
def Cn:Fn:=AY (Af 2 EW)
def C8:Ex:=(xIf (Jx (AB Cn [eIx (eV 0) (eI 0),eV 1])) Lb Cv)
def Aw:Fn:=AY (Af 2 C8)
def GP:Ex:=(AR (A8 3 (c8 (o2 Bx) [Eu [eC Fc],eV 0]))
    (AR (L6 (YH (eV 1) (eV 2)) (tTp [tTp [tNm 5,tNm 6],tNm 4]) (Lz (AB Gv [eIx (eV 3) (eV 5),AB FL [B0 [eV 6,eI 1],eV 4]]) (eV 3) (eV 5)))
    (Aq (eOp (o1 DK) [eV 3]))))
def CP:Fn:=AY (Af 7 GP)
def Hv:Ex:=(AR (LC (tTp [tNm 2,tNm 3]) (eOp (KY false true) [eIx (eV 0) (eI 0),eI 2]))
    (AR (LC (tTp [tNm 4,tNm 5,tNm 6]) (AB Dv [eV 0,eV 1]))
    (Aq (Bg [3,4,5] 1 (L7 [eV 2]) (tNm 3) BK (AB CP [eV 0,eV 1,Bg [3] 1 (Fq (eV 2)) (tNm 1) BK (eIx (eV 1) (eV 0))])))))
def D8:Fn:=AY (Af 7 Hv)
def GZ:Ex:=(AR (Ac (AB AH [eV 0]))
    (AR (Ac (AB AM [eV 0,eV 1]))
    (AR (Ac (AB Aw [eV 0,eV 2]))
    (Aq (eIx (AB D8 [eV 0,eV 1]) (eV 2))))))
def BM:Fn:=AY (Af 3 GZ)
def LN:Rx:=(IW (BB AQ [eV 0]) (Ac (AB AH [eV 0]))
    rNo)
def ED:Rf:=AY (Fm 2 LN)
def Ec:Rx:=(rIf (Jx (AB Cn [eIx (eV 0) (eI 0),eV 1])) (OU "NoPartner" [eC (.str "the train has no such partner")]) rNo)
def B4:Rf:=AY (Fm 2 Ec)
def JQ:Rx:=(IW (BB AQ [eV 0]) (Ac (AB AH [eV 0]))
    (IW (BB Ae [eV 0,eV 1]) (Ac (AB AM [eV 0,eV 1]))
    (IW (BB B4 [eV 0,eV 2]) (Ac (AB Aw [eV 0,eV 2]))
    rNo)))
def Bz:Rf:=AY (Fm 3 JQ)
def UG:Ex:=(AR (A8 1 (AB HZ [AB CZ [eV 0,eI 0]]))
    (AR (A8 2 (AB Dp [eV 1,eI 10]))
    (AR (LC (tTp [tNm 3,tNm 4,tNm 5]) (eV 2))
    (AR (A8 6 (B0 [eV 3,eV 4,eOp (o2 Ct) [eV 5,B0 [B0 [eC (.str "spoil"),eI 99,eI 1]]]]))
    (AR (A8 7 (eOp (o2 Ct) [eOp (o1 Ep) [eV 4],eOp (o1 Ep) [Bg [] 1 (Fq (eV 5)) (tNm 0) (eOp (o2 (wIn false)) [eIx (eV 0) (eI 0),B0 [eC (.str "bring"),eC (.str "pool"),eC (.str "swap"),eC (.str "trade")]]) (eV 0)]]))
    (AR (L6 (L7 [eI 12]) (tNm 8) (AR (A8 9 (eIx (Eu [AB AG [eV 1,eI 14],eOp (o1 Ep) [eV 5],AB (Ay 8) [eV 1,eI 2],eOp (o1 N0) [eI 1],eC (.bl true)]) (AB AG [eV 1,eI 5])))
    (AR (A8 10 (eIx (Eu [AB AG [eV 1,eI 5],AB (Ay 8) [eV 1,eI 2],eIx (eV 3) (eI 0),eC .non]) (AB AG [eV 1,eI 4])))
    (AR (A8 11 (eIx (Eu [AB AG [eV 1,eI 14],eV 7,AB (Ay 8) [eV 1,eI 2],eOp (o1 N0) [eI 1],eC (.bl false)]) (AB AG [eV 1,eI 5])))
    (AR (A8 12 (eIx (Eu [eC (.str "number"),eC (.str "none")]) (eOp (o1 TH) [AB CL [eV 9,eOp (o2 Ct) [eOp (o1 Ep) [eV 5],eI 1]]])))
    (AR (xIf (eOr (Jx (AB A9 [eV 2,eV 9,eV 12])) (Jx (AB A9 [eV 6,eV 9,eC (.str "done")]))) (Aq (eC (.bl false))) Cv)
    (AR (xIf (H0 (eOp (o2 wEq) [eV 12,eC (.str "none")]) (Jx (AB CL [eV 10,eIx (eV 3) (eI 0)]))) (A8 12 (eC (.str "partner"))) Cv)
    (AR (xIf (eOp (o2 wNe) [HK "law" [2,9,10] (AB BM [eV 0,eV 1,eV 2]) (BB Bz [eV 0,eV 1,eV 2]) (.str "none") Am,eV 12]) (Aq (eC (.bl false))) Cv)
    (AR (xIf (eOp (o2 wNe) [HK "law" [6,9,10] (AB BM [eV 0,eV 1,eV 2]) (BB Bz [eV 0,eV 1,eV 2]) (.str "none") Am,eC (.str "done")]) (Aq (eC (.bl false))) Cv)
    (AR (A8 12 (eIx (Eu [eC (.str "load"),eC (.str "none")]) (eOp (o1 TH) [AB CL [eV 11,eV 7]])))
    (xIf (eOr (Jx (AB BO [eV 2,eV 11,eV 12])) (Jx (AB BO [eV 6,eV 11,eC (.str "done")]))) (Aq (eC (.bl false))) Cv)))))))))))
    (Aq (H0 (eOp (o2 wEq) [HK "law" [6] (AB BV [eV 0,eC .non]) (BB ED [eV 0,eC .non]) (.str "none") Am,eC (.str "done")]) (eOp (o2 fC) [AB BV [eV 2,eC .non],eC (.bl false)])))))))))
def Nr:Fn:=AY (Af 13 UG)
def J7(n:Nat):Fn:=(W4 n).1
end
section
open PyProof.Rows (boot_isinstance boot_int boot_bool boot_tuple boot_str boot_list boot_abs boot_all boot_any boot_sum boot_max boot_min boot_range boot_enumerate boot_zip boot_sorted boot_set boot_divmod)
noncomputable def top(i:Nat):tP:=y3.main.body.getD i (.Pass ⟨0,0,0,0⟩)
noncomputable def cj(sc osc:uZ):uZ:={sc with names:=sc.names.map λ(n,k)=>if(k== .free && osc.kind== .function && osc.names.lookup n==Fk .cell)then(n,.cell)else(n,k)}
abbrev HU:tP:=top 3
abbrev Ia:tP:=top 4
abbrev Gf:tP:=top 5
abbrev Cz:tP:=top 6
abbrev FK:tP:=top 7
abbrev DL:tP:=top 8
abbrev Jj:tP:=top 9
abbrev Nu:tP:=top 10
abbrev ND:tP:=top 11
abbrev LK:tP:=top 12
abbrev Lc:tP:=top 13
abbrev F8:tP:=top 22
abbrev GF:tP:=top 23
abbrev Ha:tP:=top 24
abbrev Hu:tP:=top 25
abbrev GL:tP:=top 26
abbrev Es:tP:=top 27
abbrev Fe:tP:=top 28
abbrev CG:tP:=top 29
abbrev Iv:tP:=top 30
abbrev G5:tP:=top 31
abbrev Fh:tP:=top 32
abbrev CC:tP:=top 33
abbrev DY:tP:=top 34
abbrev B9:tP:=top 35
abbrev Cr:tP:=top 36
abbrev B1:tP:=top 37
abbrev DX:tP:=top 39
abbrev Ci:tP:=top 40
abbrev Ff:tP:=top 41
abbrev Cf:tP:=top 42
abbrev FU:tP:=top 43
abbrev EM:tP:=top 44
abbrev FT:tP:=top 45
abbrev EL:tP:=top 46
abbrev CF:tP:=top 47
abbrev Eo:tP:=top 48
abbrev EO:tP:=top 49
abbrev BR:tP:=top 50
abbrev Dt:tP:=top 51
abbrev Eb:tP:=top 52
abbrev E5:tP:=top 53
abbrev Bs:tP:=top 55
abbrev C7:tP:=top 56
abbrev Gm:tP:=top 57
abbrev Cm:tP:=top 58
abbrev CS:tP:=top 59
abbrev CN:tP:=top 60
abbrev CD:tP:=top 61
abbrev Hg:tP:=top 64
abbrev C9:tP:=top 65
abbrev Cg:tP:=top 66
abbrev Bj:tP:=top 67
abbrev B3:tP:=top 68
abbrev F0:tP:=top 69
abbrev CJ:tP:=top 70
abbrev Gb:tP:=top 72
abbrev K3:tP:=top 73
abbrev J4:tP:=top 74
abbrev Hc:tP:=top 75
abbrev Jo:tP:=top 76
abbrev Jz:tP:=top 77
abbrev Ie:tP:=top 78
abbrev Jt:tP:=top 79
abbrev Di:tP:=top 81
abbrev HW:tP:=top 82
abbrev Im:tP:=top 83
abbrev Ik:tP:=top 84
abbrev Ib:tP:=top 85
abbrev Ed:tP:=top 86
abbrev FP:tP:=top 87
abbrev Hs:tP:=top 90
abbrev GS:tP:=top 91
abbrev Il:tP:=top 92
abbrev Jp:tP:=top 93
abbrev J5:tP:=top 94
abbrev Jb:tP:=top 95
abbrev DH:tP:=top 96
abbrev GW:tP:=top 97
abbrev De:tP:=top 99
abbrev Jv:tP:=top 102
abbrev Ao:tP:=top 103
abbrev Ap:tP:=top 104
abbrev ER:tP:=top 105
abbrev II:tP:=top 101
theorem FJ:BP ["_law_call"] ["_law_call"] (AF II):=scM
abbrev J9(P:sj)(w:tu)(K:Wp)(mg:Str->sD W1)(base:tT)(n:Nat):Prop:=St.Dfn P w K mg base "are_same" (1+n) ["things","told"] (spD K 2 (J7 n))
abbrev LA(P:sj)(w:tu)(K:Wp)(mg:Str->sD W1)(base:tT)(n:Nat):Prop:=St.Dfn P w K mg base "is_same" (1+n) ["thing","told"] (spD K 2 (Gy n))
abbrev Ea:tP:=gZ (top 19) 0
theorem Lj:BP sAt sAt (AF Ea):=scM
theorem Jh{P:sj}{w:tu}{K:Wp}{mg:Str->sD W1}{base:tT}(r:XiR K mg "NotDone" "TrailError" "NotDone.__init__" Ea):XiF P w K mg base "NotDone":=
 gC r Lj (λf fd F=>F.binds λ_ _ _ _ _ _ us hl=>match us,hl with| [_,_],_=>rfl) λC TE fI D hB cdv A outer s H E=>NZ (Ph (Xv D hB rfl rfl (.inl rfl) (.inl rfl) (by decide) (by decide) (by decide) rfl)) (Mt (mY D rfl (.inl rfl) (.inl rfl) rfl))
structure Bts(mg:Str->sD W1):Prop where
 abs:mg "abs"=none
 all:mg "all"=none
 bool:mg "bool"=none
 enumerate:mg "enumerate"=none
 int:mg "int"=none
 isi:mg "isinstance"=none
 len:mg "len"=none
 list:mg "list"=none
 min:mg "min"=none
 range:mg "range"=none
 sorted:mg "sorted"=none
 sum:mg "sum"=none
 tuple:mg "tuple"=none
 zip:mg "zip"=none
structure All(w:tu)(K:Wp)(mg:Str->sD W1):Prop where
 bt:Bts mg
 dw:WM K mg "ALL" Xn
 TZ:WM K mg "FLOWS" Ln
 Q2:WM K mg "MAKERS" BX
 OI:WM K mg "NOTHING" Fc
 Qf:XcD K mg "NoLoad"
 Mr:XcD K mg "NoNumber"
 K1:XcD K mg "NoPartner"
 Ll:XiR K mg "NotDone" "TrailError" "NotDone.__init__" Ea
 Ge:XmD K mg ["NotDone","NoNumber","NoPartner","NoLoad"] "NoLoad"
 ES:XmD K mg ["NotDone","NoNumber","NoPartner","NoLoad"] "NoNumber"
 Df:XmD K mg ["NotDone","NoNumber","NoPartner","NoLoad"] "NoPartner"
 Fd:XmD K mg ["NotDone","NoNumber","NoPartner","NoLoad"] "NotDone"
 HU:St.Src K mg "is_whole" HU
 Ia:St.Src K mg "is_from" Ia
 Gf:St.Src K mg "is_within" Gf
 Cz:St.Src K mg "are_same" Cz
 FK:St.Src K mg "is_same" FK
 DL:St.Src K mg "greatest_divisor" DL
 Jj:St.Src K mg "lowest" Jj
 Nu:St.Src K mg "plus" Nu
 ND:St.Src K mg "less" ND
 LK:St.Src K mg "times" LK
 Lc:St.Src K mg "mixed" Lc
 F8:St.Src K mg "is_partner" F8
 GF:St.Src K mg "has_pieces" GF
 Ha:St.Src K mg "can_pool" Ha
 Hu:St.Src K mg "can_swap" Hu
 GL:St.Src K mg "can_do" GL
 Es:St.Src K mg "held_without" Es
 Fe:St.Src K mg "held_behind" Fe
 CG:St.Src K mg "held_at_first" CG
 Iv:St.Src K mg "held_by" Iv
 G5:St.Src K mg "made_from" G5
 Fh:St.Src K mg "first_wrong" Fh
 CC:St.Src K mg "refuse_undone" CC
 DY:St.Src K mg "many_loads" DY
 B9:St.Src K mg "refuse_no_number" B9
 Cr:St.Src K mg "refuse_no_load" Cr
 B1:St.Src K mg "refuse_no_partner" B1
 DX:St.Src K mg "all_to_one" DX
 Ci:St.Src K mg "mixed_shares" Ci
 Ff:St.Src K mg "made_shares" Ff
 Cf:St.Src K mg "worth_of_all" Cf
 FU:St.Src K mg "part_thrown" FU
 EM:St.Src K mg "thrown_shares" EM
 FT:St.Src K mg "sold_shares" FT
 EL:St.Src K mg "shares_behind" EL
 CF:St.Src K mg "owners_behind" CF
 Eo:St.Src K mg "state_by" Eo
 EO:St.Src K mg "sums_by_kinds" EO
 BR:St.Src K mg "theirs_told" BR
 Dt:St.Src K mg "loads_by" Dt
 Eb:St.Src K mg "holders_by" Eb
 E5:St.Src K mg "theirs_by" E5
 Bs:St.Src K mg "all_sources" Bs
 C7:St.Src K mg "all_origins" C7
 Gm:St.Src K mg "made_of" Gm
 Cm:St.Src K mg "origins_of" Cm
 CS:St.Src K mg "is_chain" CS
 CN:St.Src K mg "first_chain" CN
 CD:St.Src K mg "many_chains" CD
 Hg:St.Src K mg "moves_of" Hg
 C9:St.Src K mg "moves_by" C9
 Cg:St.Src K mg "pieces_moved" Cg
 Bj:St.Src K mg "flows_told" Bj
 B3:St.Src K mg "stock_by" B3
 F0:St.Src K mg "flows_by" F0
 CJ:St.Src K mg "sheet_holds" CJ
 Gb:St.Src K mg "_law_cell_at" Gb
 K3:St.Src K mg "_law_pen" K3
 J4:St.Src K mg "_law_draw" J4
 Hc:St.Src K mg "_law_common" Hc
 Jo:St.Src K mg "_law_made" Jo
 Jz:St.Src K mg "_law_plus" Jz
 Ie:St.Src K mg "_law_times" Ie
 Jt:St.Src K mg "_law_less" Jt
 Di:St.Src K mg "_law_whole" Di
 HW:St.Src K mg "_law_pieces" HW
 Im:St.Src K mg "_law_train" Im
 Ik:St.Src K mg "_law_first" Ik
 Ib:St.Src K mg "_law_share" Ib
 Ed:St.Src K mg "_law_worths" Ed
 FP:St.Src K mg "_law_begun" FP
 Hs:St.Src K mg "_law_pooled" Hs
 GS:St.Src K mg "_law_cost" GS
 Il:St.Src K mg "_law_borne" Il
 Jp:St.Src K mg "_law_sold" Jp
 J5:St.Src K mg "_law_turn" J5
 Jb:St.Src K mg "_law_do" Jb
 DH:St.Src K mg "_law_deed" DH
 GW:St.Src K mg "_law_book" GW
 De:St.Src K mg "_law_thing" De
 Jv:St.Src K mg "_law_fits" Jv
 Ao:St.Src K mg "_law_numbers_so" Ao
 Ap:St.Src K mg "_law_loads_so" Ap
 ER:St.Src K mg "law" ER
 II:St.Src K mg "_law_word" II
end
section
open PyProof.Rows (boot_isinstance boot_int boot_bool boot_tuple boot_str boot_list boot_abs boot_all boot_any boot_sum boot_max boot_min boot_range boot_enumerate boot_zip boot_sorted boot_set boot_divmod)
local macro_rules| `(tactic|walk_at $s)=>do
 let i (w:ug):Lean.Term:=Lean.mkIdent w.toName
 let t (w:ug):Lean.MacroM Lean.Term:=do
  match w with
  | "?"=> `(?_)
  | "_"=> `(_)
  | "A"=> `(by assumption)
  | "B"=> `(by walk_at "b")
  | "D"=> `(by decide)
  | "K"=> `(λ_ _ _=>⟨?_,?_,?_⟩)
  | "L"=> `(λ_=>?_)
  | "M"=> `(Eg.mono (by assumption) (by decide))
  | "F"=> `(UN _)
  | "N6"=> `(λ_ _ _ _ _ _=>?_)
  | "N8"=> `(λ_ _ _ _ _ _ _ _=>?_)
  |_=>match w.splitOn "/" with
   | [f,n]=>pure (y4 (i f) (Array.replicate n.length (<- `(?_))))
   |_=>pure (i w)
 let r (a:Gc ug):Lean.MacroM (Lean.TSyntax `tactic):=do `(tactic|refine $(y4 (i a.head!) (<-a.tail!.mapM t).toArray))
 let g (s:ug):Lean.MacroM (Lean.TSyntax `tactic):=do
  (s.splitOn ";").foldrM (λx z=>do
    let a:=x.splitOn " "
    let b<-if a.head!== "%" then `(tactic|with_reducible $(<-r a.tail!):tactic)else r a
    `(tactic|first| $b:tactic| $z:tactic)) (<- `(tactic|assumption))
 let ws:=s.getString.splitOn " "
 match ws.head! with
 | "b"=>g "Bts.abs A;Bts.all A;Bts.bool A;Bts.enumerate A;Bts.int A;Bts.isi A;Bts.len A;Bts.list A;Bts.min A;Bts.range A;Bts.sorted A;Bts.sum A;Bts.tuple A;Bts.zip A;% boot_abs;% boot_all;% boot_bool;% boot_enumerate;% boot_int;% boot_isinstance;% boot_len;% boot_list;% boot_min;% boot_range;% boot_sorted;% boot_sum;% boot_tuple;% boot_zip"
 | "d"=>do
   let z<-("rT:AE ? ?;AV|gDE:AU _;BW;Bf;L5 WL ? ?;deM A A ?;UW ? ? ?;D9 ? rfl B B ?;K7 ? rfl B B ?;Oa ?;LX ?;Uj _ _ _ rfl A ? K;O7 ? ? ?;Ob ? ?;Of ?;bX ? ?;KR;NN;l9 A rfl;W5 rfl B B;qc ? ? ?;pT ?;pA PySem.F.slot_list_append PySem.F.type_list_append nV ? ?;pA PySem.F.slot_list_extend PySem.F.type_list_extend mR ? ?;m9 ? ?;kZ ? ?;lE ? ? ?;kX ? ? ?;qD rfl A rfl B ? ?;Vc A A A A A A rfl N8 N8 N6 N6|rF:BI ?;BE ? ?;FR|gDS:CB ?;HA _ ? A;mv ?;Kw ? ? ?;RT _ _ _ rfl A rfl rfl A ? K;gq ? ?;jM ? ? ?;eT PassesOwn.never rfl ? ? ?;pM rfl A rfl rfl D rfl rfl ? ?;kS;kP F PassesOwn.never ? ?|gDT:IU ? ? ?;PN ?;DW.dt gE/??;DW.dt Zt/??;Lv ?|gDG:N4 _ A;iL rfl ?|rh:% P5;% Ku ?;% jH;% aP;% fU;% kg;% Ym ?;% oQ;% iy;% dg;% nv;% ng;% av;% gM;% Xj|pS:% GQ;% QA;% iS rfl;% JF;% OL;% eS;% c7;% VO rfl;% gw rfl;% Yw".splitOn "|").foldrM (λx z=>do
    let a:=x.splitOn ":"
    `(tactic|first|((with_reducible refine $(i a.head!) ?_); $(<-g a.tail!.head!):tactic)| $z:tactic)) (<-g "JM ? ?;UC;WG;bD ?;gz ?;Us rfl B ?;nX rfl B ? ?;gL rfl B ?;QL;gE ? ?;cV ?;Zt ? ?;T9 ?;eU;TX ?;XR ? ? ?;nG ?;kq ? ? ?;QH A M rfl ?;jF rfl A rfl ?;Um;Er A rfl L ?")
   let y:Lean.TSyntax `tactic<-ws.tail!.foldrM (λw z=>do `(tactic|(have:= $(if w.startsWith "T." then i w else y4 (i w) #[i "P",i "base",i "bm",i "T"]); $z:tactic))) (<- `(tactic|repeat' $z:tactic))
   pure y
 |_=>Lean.Macro.throwUnsupported
variable(P:sj){w:tu}{K:Wp}{mg:Str->sD W1}(base:tT)(bm:BmB mg base)(T:All w K mg)
include bm T
theorem Hl:St.Dfn P w K mg base "is_whole" 1 ["thing"] (spD K 1 CV):=dfW (N:=["thing"]) 0 T.HU scM λ_ _ _=>by
 walk_at "d T.bt"
theorem aY:St.Dfn P w K mg base "is_from" 2 ["thing","low"] (spD K 2 Dj):=dfW (N:=["thing","low"]) 1 T.Ia scM λ_ _ _=>by
 walk_at "d Hl"
theorem YA:St.Dfn P w K mg base "is_within" 3 ["thing","low","high"] (spD K 3 A3):=dfW (N:=["thing","low","high"]) 2 T.Gf scM λ_ _ _=>by
 walk_at "d aY"
omit T bm in
theorem Nd:BP ["things","told"] ["things","told"] (AF Cz):=scM
omit T bm in
theorem Lh:AO ["things","told"] (AF Cz) ["told","at","thing"] (ixC [1] 2) (GA Cz 0):=csM
omit T bm in
theorem Hm:(["told","at","thing"]:Gc Str).Nodup:=by decide+kernel
omit T bm in
theorem Oi:BP ["thing","told"] ["thing","told"] (AF FK):=scM
theorem Zm:∀n:Nat,n<=8->J9 P w K mg base n/\LA P w K mg base n
 |0,_=>⟨Ng T.Cz (λ_ _ F=>bnR F λ_ _ _ _ _ _ _=>rfl),Ng T.FK (λ_ _ F=>bnR F λ_ _ _ _ _ _ _=>rfl)⟩
 |n+1,hn=>by
  obtain⟨Hx,Lk⟩:=Zm n (by lia)
  have B:=T.bt
  have Hl:=Hl P base bm T
  refine⟨?_,?_⟩
  .refine dfM (1+n) T.Cz Nd λhr hu=>?_
   exact(BI (CB (Ob (O7 (Ku hu) (D9 GQ rfl B.len AAN (AE (AU 0) AV)) (D9 GQ rfl B.len AAN (AE (AU 1) AV))) (Of (D9 (VO rfl) rfl B.all boot_all (AE (Uj [1] 2 ["told","at","thing"] rfl Lh (gL rfl B.enumerate (AU 0)) (λs H fp=>⟨iL rfl (JM (N4 1 Hm) (JM (N4 2 Hm) UC)),WG,deM Lk hr (AE (AU 2) (AE (L5 WL (AU 0) (AU 1)) AV))⟩)) AV))))))
  .refine dfM (1+n) T.FK Oi λhr hu=>?_
   exact(BE (Kw (Lv (D9 JF rfl B.isi yW (AE (AU 1) (AE (W5 rfl B.tuple boot_tuple) AV)))) (BI (CB (Ob (D9 JF rfl B.isi yW (AE (AU 0) (AE (W5 rfl B.tuple boot_tuple) AV))) (Of (deM Hx hr (AE (AU 0) (AE (AU 1) AV))))))) FR)
    (BE (Kw (Lv (D9 JF rfl B.isi yW (AE (AU 1) (AE (W5 rfl B.list boot_list) AV)))) (BI (CB (Ob (D9 JF rfl B.isi yW (AE (AU 0) (AE (W5 rfl B.list boot_list) AV))) (Of (deM Hx hr (AE (AU 0) (AE (AU 1) AV))))))) FR)
    (BE (Kw (IU T5 (AU 1) KR) (BI (CB (O7 T5 (AU 0) KR))) FR)
    (BI (CB (Ob (deM Hl hr (AE (AU 0) AV)) (Of (O7 (Ku hu) (AU 0) (AU 1)))))))))
theorem Hx:J9 P w K mg base 8:=(Zm P base bm T 8 (by decide)).1
theorem Lk:LA P w K mg base 8:=(Zm P base bm T 8 (by decide)).2
theorem Pa:St.Dfn P w K mg base "greatest_divisor" 1 ["one","other"] (spD K 2 B8):=dfW (N:=["one","other"]) 0 T.DL scM λ_ _ _=>by
 walk_at "d T.bt"
theorem cx:St.Dfn P w K mg base "lowest" 2 ["top","bottom"] (spD K 2 DJ):=dfW (N:=["top","bottom","divisor"]) 1 T.Jj scM λ_ _ _=>by
 walk_at "d Pa"
theorem jJ:St.Dfn P w K mg base "plus" 3 ["one","other"] (spD K 2 Gv):=dfW (N:=["one","other"]) 2 T.Nu scM λ_ _ _=>by
 walk_at "d cx"
theorem j0:St.Dfn P w K mg base "less" 3 ["one","other"] (spD K 2 JG):=dfW (N:=["one","other"]) 2 T.ND scM λ_ _ _=>by
 walk_at "d cx"
theorem eA:St.Dfn P w K mg base "times" 3 ["one","other"] (spD K 2 FL):=dfW (N:=["one","other"]) 2 T.LK scM λ_ _ _=>by
 walk_at "d cx"
theorem fD:St.Dfn P w K mg base "mixed" 3 ["one","weight","other","more"] (spD K 4 Hk):=dfW (N:=["one","weight","other","more","top"]) 2 T.Lc scM λ_ _ _=>by
 walk_at "d cx"
theorem WW:St.Dfn P w K mg base "is_partner" 4 ["train","thing"] (spD K 2 Cn):=dfW (N:=["train","thing"]) 3 T.F8 scM λ_ _ _=>by
 walk_at "d YA"
theorem WY:St.Dfn P w K mg base "has_pieces" 1 ["held","load","pieces"] (spD K 3 Bh):=dfW (N:=["held","load","pieces"]) 0 T.GF scM λ_ _ _=>by
 walk_at "d T.bt"
theorem ZH:St.Dfn P w K mg base "can_pool" 2 ["held","load","other"] (spD K 3 Dy):=dfW (N:=["held","load","other"]) 1 T.Ha scM λ_ _ _=>by
 walk_at "d WY"
theorem ZL:St.Dfn P w K mg base "can_swap" 2 ["held","load","given","kind"] (spD K 4 Dk):=dfW (N:=["held","load","given","kind"]) 1 T.Hu scM λ_ _ _=>by
 walk_at "d WY"
theorem cw:St.Dfn P w K mg base "can_do" 3 ["held","done","deed"] (spD K 3 Bn):=dfW (N:=["held","done","deed","word","numbers"]) 2 T.GL scM λ_ _ _=>by
 have:AO ["held","done","deed","word","numbers"] (AF GL) ["other"] (ixC [] 1) (GA GL 0):=csM
 have:(["other"]:Gc Str).Nodup:=by decide+kernel
 walk_at "d WY ZH ZL"
theorem So:St.Dfn P w K mg base "held_without" 1 ["held","load","pieces"] (spD K 3 Bc):=dfW (N:=["held","load","pieces","kind","there"]) 0 T.Es scM λ_ _ _=>by
 walk_at "d"
theorem Vf:St.Dfn P w K mg base "held_behind" 2 ["held","deed"] (spD K 2 AS):=dfW (N:=["held","deed","word","kind","pieces","more","load","given","got"]) 1 T.Fe scM λ_ _ _=>by
 walk_at "d So"
theorem R3:St.Dfn P w K mg base "held_at_first" 1 ["book"] (spD K 1 A1):=dfW (N:=["book"]) 0 T.CG scM λ_ _ _=>by
 have:AO ["book"] (AF CG) ["load"] (ixC [] 1) (GA CG 0):=csM
 have:(["load"]:Gc Str).Nodup:=by decide+kernel
 walk_at "d"
theorem ag:St.Dfn P w K mg base "held_by" 3 ["book","many"] (spD K 2 Gw):=dfW (N:=["book","many","held","deed"]) 2 T.Iv scM λ_ _ _=>by
 walk_at "d Vf R3"
theorem Wa:St.Dfn P w K mg base "made_from" 1 ["deed"] (spD K 1 Ab):=dfW (N:=["deed","word"]) 0 T.G5 scM λ_ _ _=>by
 walk_at "d T.bt"
theorem FI:St.Dfn P w K mg base "first_wrong" 4 ["book"] (spD K 1 A5):=dfW (N:=["book","held","deeds","at","deed"]) 3 T.Fh scM λ_ _ _=>by
 walk_at "d T.bt cw Vf R3"
omit T bm in
theorem F5:BP ["book","wrong"] ["book"] (AF CC):=scM
theorem SD:N3 P w K mg base "refuse_undone" 5 ["book"] (spR K mg 1 AQ):=by
 have FI:=FI P base bm T
 have Jh:=Jh (P:=P) (w:=w) (base:=base) T.Ll
 refine Vd (k:=4) T.CC F5 rfl (λ_ _ F=>bnR F λ_ _ _ _ _ _ _=>rfl) λf cdv A outer s H E hr=>?_
 have hu:=NB hr
 exact(XR mz (HA 1 (deM FI hr (AE (AU 0) AV)) F5.nd)
      (TX (kq (IU Xj (AU 1) KR) (TX (UY rfl Jh rfl (hr.mono (by decide)) (AU 1))) eU)))
theorem Rq:St.Dfn P w K mg base "refuse_undone" 5 ["book"] (spD K 1 AH):=dfW (N:=["book","wrong"]) 4 T.CC scM λ_ _ _=>by
 walk_at "d FI"
theorem WV:St.Dfn P w K mg base "many_loads" 1 ["book","many"] (spD K 2 BL):=dfW (N:=["book","many"]) 0 T.DY scM λ_ _ _=>by
 have:AO ["book","many"] (AF DY) ["deed"] (ixC [] 1) (GA DY 0):=csM
 have:(["deed"]:Gc Str).Nodup:=by decide+kernel
 walk_at "d T.bt T.Q2"
theorem PR:N3 P w K mg base "refuse_no_number" 4 ["book","many"] (spR K mg 2 Ae):=Qe (N:=["book","many"]) 3 T.B9 scM λ_ _ _=>by
 walk_at "d T.bt YA T.Mr"
theorem PZ:St.Dfn P w K mg base "refuse_no_number" 4 ["book","many"] (spD K 2 AM):=dfW (N:=["book","many"]) 3 T.B9 scM λ_ _ _=>by
 walk_at "d T.bt YA"
theorem Qk:N3 P w K mg base "refuse_no_load" 4 ["book","load"] (spR K mg 2 Ar):=Qe (N:=["book","load"]) 3 T.Cr scM λ_ _ _=>by
 walk_at "d T.bt YA WV T.Qf"
theorem RA:St.Dfn P w K mg base "refuse_no_load" 4 ["book","load"] (spD K 2 AN):=dfW (N:=["book","load"]) 3 T.Cr scM λ_ _ _=>by
 walk_at "d T.bt YA WV"
theorem OC:N3 P w K mg base "refuse_no_partner" 5 ["book","partner"] (spR K mg 2 B4):=Qe (N:=["book","partner"]) 4 T.B1 scM λ_ _ _=>by
 walk_at "d WW T.K1"
theorem Oy:St.Dfn P w K mg base "refuse_no_partner" 5 ["book","partner"] (spD K 2 Aw):=dfW (N:=["book","partner"]) 4 T.B1 scM λ_ _ _=>by
 walk_at "d WW"
theorem WR:St.Dfn P w K mg base "all_to_one" 1 ["many","one"] (spD K 2 BN):=dfW (N:=["many","one"]) 0 T.DX scM λ_ _ _=>by
 have:AO ["many","one"] (AF DX) ["one","at"] (ixC [1] 1) (GA DX 0):=csM
 have:(["one","at"]:Gc Str).Nodup:=by decide+kernel
 walk_at "d T.bt T.dw T.OI"
theorem Ss:St.Dfn P w K mg base "mixed_shares" 4 ["shares","weight","others","more"] (spD K 4 Ce):=dfW (N:=["shares","weight","others","more"]) 3 T.Ci scM λ_ _ _=>by
 have:AO ["shares","weight","others","more"] (AF Ci) ["weight","more","share","other"] (ixC [1,3] 2) (GA Ci 0):=csM
 have:(["weight","more","share","other"]:Gc Str).Nodup:=by decide+kernel
 walk_at "d T.bt fD"
theorem Vj:St.Dfn P w K mg base "made_shares" 5 ["held","shares","deed"] (spD K 3 Aa):=dfW (N:=["held","shares","deed","sources","load","other"]) 4 T.Ff scM λ_ _ _=>by
 walk_at "d T.bt Wa Ss"
theorem Sn:St.Dfn P w K mg base "worth_of_all" 1 ["train","held","worths"] (spD K 3 Dc):=dfW (N:=["train","held","worths"]) 0 T.Cf scM λ_ _ _=>by
 have:AO ["train","held","worths"] (AF Cf) ["worths","kind","pieces"] (ixC [2] 2) (GA Cf 0):=csM
 have:(["worths","kind","pieces"]:Gc Str).Nodup:=by decide+kernel
 walk_at "d T.bt"
theorem UI:St.Dfn P w K mg base "part_thrown" 3 ["train","held","deed"] (spD K 3 EE):=dfW (N:=["train","held","deed","load","pieces","worths"]) 2 T.FU scM λ_ _ _=>by
 walk_at "d cx Sn"
theorem SK:St.Dfn P w K mg base "thrown_shares" 5 ["train","held","owners","deed","shares"] (spD K 5 DB):=dfW (N:=["train","held","owners","deed","shares","top","bottom"]) 4 T.EM scM λ_ _ _=>by
 walk_at "d Ss UI"
theorem UZ:St.Dfn P w K mg base "sold_shares" 4 ["deed","shares"] (spD K 2 D0):=dfW (N:=["deed","shares","partner","other","sold","passed","changed"]) 3 T.FT scM λ_ _ _=>by
 walk_at "d T.bt jJ j0 eA"
theorem SN:St.Dfn P w K mg base "shares_behind" 6 ["train","held","owners","deed","shares"] (spD K 5 Ag):=dfW (N:=["train","held","owners","deed","shares"]) 5 T.EL scM λ_ _ _=>by
 walk_at "d SK UZ"
theorem SG:St.Dfn P w K mg base "owners_behind" 7 ["train","held","owners","deed"] (spD K 4 Al):=dfW (N:=["train","held","owners","deed","behind"]) 6 T.CF scM λ_ _ _=>by
 have:AO ["train","held","owners","deed","behind"] (AF CF) ["train","held","owners","deed","shares"] (ixC [0,1,2,3] 1) (GA CF 0):=csM
 have:(["train","held","owners","deed","shares"]:Gc Str).Nodup:=by decide+kernel
 walk_at "d T.Q2 WR Vj SN"
theorem Yk:St.Dfn P w K mg base "state_by" 8 ["book","many"] (spD K 2 Dv):=dfW (N:=["book","many","train","first","deeds","held","owners","holders","deed"]) 7 T.Eo scM λ_ _ _=>by
 have:AO ["book","many","train","first","deeds","held","owners","holders","deed"] (AF Eo) ["load"] (ixC [] 1) (GA Eo 0):=csM
 have:(["load"]:Gc Str).Nodup:=by decide+kernel
 walk_at "d Vf R3 SN SG"
theorem RW:St.Dfn P w K mg base "sums_by_kinds" 4 ["kinds","held","shares"] (spD K 3 CP):=dfW (N:=["kinds","held","shares","sums","share","kind","pieces"]) 3 T.EO scM λ_ _ _=>by
 walk_at "d T.bt T.OI jJ eA"
theorem U8:St.Dfn P w K mg base "theirs_told" 9 ["book","many"] (spD K 2 D8):=dfW (N:=["book","many","partners","kinds","held","owners","holders"]) 8 T.BR scM λ_ _ _=>by
 have:AO ["book","many","partners","kinds","held","owners","holders"] (AF BR) ["kinds","held","owners","partner"] (ixC [3,4,5] 1) (GA BR 0):=csM
 have:(["kinds","held","owners","partner"]:Gc Str).Nodup:=by decide+kernel
 have:AO ["kinds","held","owners","partner"] (cj (GA BR 0) (AF BR)) ["partner","shares"] (ixC [3] 1) (GA BR 1):=csM
 have:(["partner","shares"]:Gc Str).Nodup:=by decide+kernel
 walk_at "d T.bt Yk RW"
theorem ZG:N3 P w K mg base "loads_by" 9 ["book","many"] (spR K mg 2 Ef):=Qe (N:=["book","many","held","owners","holders"]) 8 T.Dt scM λ_ _ _=>by
 walk_at "d T.bt Rq PZ Yk SD PR"
theorem Yb:St.Dfn P w K mg base "loads_by" 9 ["book","many"] (spD K 2 C5):=dfW (N:=["book","many","held","owners","holders"]) 8 T.Dt scM λ_ _ _=>by
 have:AO ["book","many","held","owners","holders"] (AF Dt) ["shares","kind","pieces"] (ixC [] 3) (GA Dt 0):=csM
 have:(["shares","kind","pieces"]:Gc Str).Nodup:=by decide+kernel
 walk_at "d T.bt Rq PZ Yk"
theorem WO:N3 P w K mg base "holders_by" 9 ["book","many"] (spR K mg 2 Ck):=Qe (N:=["book","many","held","owners","holders"]) 8 T.Eb scM λ_ _ _=>by
 walk_at "d Rq PZ Yk SD PR"
theorem WU:St.Dfn P w K mg base "holders_by" 9 ["book","many"] (spD K 2 Bk):=dfW (N:=["book","many","held","owners","holders"]) 8 T.Eb scM λ_ _ _=>by
 walk_at "d Rq PZ Yk"
theorem FA:N3 P w K mg base "theirs_by" 10 ["book","many","partner"] (spR K mg 3 Bz):=Qe (N:=["book","many","partner"]) 9 T.E5 scM λ_ _ _=>by
 walk_at "d Rq PZ Oy U8 SD PR OC"
theorem E9:St.Dfn P w K mg base "theirs_by" 10 ["book","many","partner"] (spD K 3 BM):=dfW (N:=["book","many","partner"]) 9 T.E5 scM λ_ _ _=>by
 walk_at "d Rq PZ Oy U8"
theorem V3:St.Dfn P w K mg base "all_sources" 2 ["book"] (spD K 1 BG):=dfW (N:=["book","first","deeds"]) 1 T.Bs scM λ_ _ _=>by
 have:AO ["book","first","deeds"] (AF Bs) ["load"] (ixC [] 1) (GA Bs 0):=csM
 have:(["load"]:Gc Str).Nodup:=by decide+kernel
 have:AO ["book","first","deeds"] (AF Bs) ["deed"] (ixC [] 1) (GA Bs 1):=csM
 have:(["deed"]:Gc Str).Nodup:=by decide+kernel
 walk_at "d T.Q2 Wa"
theorem Tu:St.Dfn P w K mg base "all_origins" 6 ["book"] (spD K 1 EA):=dfW (N:=["book","many","held","origins","deed"]) 5 T.C7 scM λ_ _ _=>by
 have:AO ["book","many","held","origins","deed"] (AF C7) ["many","root"] (ixC [1] 1) (GA C7 0):=csM
 have:(["many","root"]:Gc Str).Nodup:=by decide+kernel
 walk_at "d T.bt T.Q2 Vf R3 WV WR Vj"
theorem ZV:N3 P w K mg base "made_of" 6 ["book","load"] (spR K mg 2 FO):=Qe (N:=["book","load"]) 5 T.Gm scM λ_ _ _=>by
 walk_at "d Rq RA V3 SD Qk"
theorem br:St.Dfn P w K mg base "made_of" 6 ["book","load"] (spD K 2 EJ):=dfW (N:=["book","load"]) 5 T.Gm scM λ_ _ _=>by
 walk_at "d Rq RA V3"
theorem WN:N3 P w K mg base "origins_of" 7 ["book","load"] (spR K mg 2 Co):=Qe (N:=["book","load"]) 6 T.Cm scM λ_ _ _=>by
 walk_at "d T.bt Rq RA Tu SD Qk"
theorem WI:St.Dfn P w K mg base "origins_of" 7 ["book","load"] (spD K 2 B6):=dfW (N:=["book","load"]) 6 T.Cm scM λ_ _ _=>by
 have:AO ["book","load"] (AF Cm) ["root","share"] (ixC [] 2) (GA Cm 0):=csM
 have:(["root","share"]:Gc Str).Nodup:=by decide+kernel
 walk_at "d T.bt Rq RA Tu"
theorem Y3:N3 P w K mg base "is_chain" 6 ["book","load","thing"] (spR K mg 3 Dr):=Qe (N:=["book","load","thing","sources"]) 5 T.CS scM λ_ _ _=>by
 walk_at "d T.bt YA Rq RA V3 SD Qk"
theorem Yu:St.Dfn P w K mg base "is_chain" 6 ["book","load","thing"] (spD K 3 C4):=dfW (N:=["book","load","thing","sources"]) 5 T.CS scM λ_ _ _=>by
 have:AO ["book","load","thing","sources"] (AF CS) ["sources","number"] (ixC [3] 1) (GA CS 0):=csM
 have:(["sources","number"]:Gc Str).Nodup:=by decide+kernel
 have:AO ["book","load","thing","sources"] (AF CS) ["sources","number","behind"] (ixC [3] 2) (GA CS 1):=csM
 have:(["sources","number","behind"]:Gc Str).Nodup:=by decide+kernel
 walk_at "d T.bt YA Rq RA V3"
theorem UU:N3 P w K mg base "first_chain" 6 ["book","load"] (spR K mg 2 CI):=Qe (N:=["book","load","chains","number","sources","longer"]) 5 T.CN scM λ_ _ _=>by
 walk_at "d T.bt Rq RA V3 SD Qk"
theorem VF:St.Dfn P w K mg base "first_chain" 6 ["book","load"] (spD K 2 BS):=dfW (N:=["book","load","chains","number","sources","longer"]) 5 T.CN scM λ_ _ _=>by
 have:AO ["book","load","chains","number","sources","longer"] (AF CN) ["chains","number","source"] (ixC [2,3] 1) (GA CN 0):=csM
 have:(["chains","number","source"]:Gc Str).Nodup:=by decide+kernel
 walk_at "d T.bt Rq RA V3"
theorem VT:N3 P w K mg base "many_chains" 6 ["book","load"] (spR K mg 2 CO):=Qe (N:=["book","load","numbers","sources"]) 5 T.CD scM λ_ _ _=>by
 walk_at "d T.bt Rq RA V3 SD Qk"
theorem UD:St.Dfn P w K mg base "many_chains" 6 ["book","load"] (spD K 2 Bp):=dfW (N:=["book","load","numbers","sources"]) 5 T.CD scM λ_ _ _=>by
 have:AO ["book","load","numbers","sources"] (AF CD) ["numbers","source"] (ixC [2] 1) (GA CD 0):=csM
 have:(["numbers","source"]:Gc Str).Nodup:=by decide+kernel
 walk_at "d T.bt Rq RA V3"
theorem ZE:St.Dfn P w K mg base "moves_of" 1 ["held","deed"] (spD K 2 BQ):=dfW (N:=["held","deed","word","load","given","kind","got"]) 0 T.Hg scM λ_ _ _=>by
 walk_at "d"
theorem Yt:St.Dfn P w K mg base "moves_by" 3 ["book","many"] (spD K 2 Fv):=dfW (N:=["book","many","held","moves","deed"]) 2 T.C9 scM λ_ _ _=>by
 have:AO ["book","many","held","moves","deed"] (AF C9) ["kind","pieces"] (ixC [] 2) (GA C9 0):=csM
 have:(["kind","pieces"]:Gc Str).Nodup:=by decide+kernel
 have:AO ["book","many","held","moves","deed"] (AF C9) ["kind","pieces"] (ixC [] 2) (GA C9 1):=csM
 have:(["kind","pieces"]:Gc Str).Nodup:=by decide+kernel
 walk_at "d Vf R3 ZE"
theorem Sk:St.Dfn P w K mg base "pieces_moved" 1 ["moves","kind","flow"] (spD K 3 Bb):=dfW (N:=["moves","kind","flow"]) 0 T.Cg scM λ_ _ _=>by
 have:AO ["moves","kind","flow"] (AF Cg) ["kind","flow","other","way","pieces"] (ixC [1,2] 3) (GA Cg 0):=csM
 have:(["kind","flow","other","way","pieces"]:Gc Str).Nodup:=by decide+kernel
 walk_at "d T.bt"
theorem WS:St.Dfn P w K mg base "flows_told" 4 ["book","many"] (spD K 2 Cj):=dfW (N:=["book","many","moves"]) 3 T.Bj scM λ_ _ _=>by
 have:AO ["book","many","moves"] (AF Bj) ["moves","kind"] (ixC [2] 1) (GA Bj 0):=csM
 have:(["moves","kind"]:Gc Str).Nodup:=by decide+kernel
 have:AO ["moves","kind"] (cj (GA Bj 0) (AF Bj)) ["moves","kind","flow"] (ixC [0,1] 1) (GA Bj 1):=csM
 have:(["moves","kind","flow"]:Gc Str).Nodup:=by decide+kernel
 walk_at "d T.bt T.TZ Yt Sk"
theorem Y6:N3 P w K mg base "stock_by" 6 ["book","many"] (spR K mg 2 Dl):=Qe (N:=["book","many","held"]) 5 T.B3 scM λ_ _ _=>by
 walk_at "d T.bt ag Rq PZ SD PR"
theorem Yc:St.Dfn P w K mg base "stock_by" 6 ["book","many"] (spD K 2 CQ):=dfW (N:=["book","many","held"]) 5 T.B3 scM λ_ _ _=>by
 have:AO ["book","many","held"] (AF B3) ["held","kind"] (ixC [2] 1) (GA B3 0):=csM
 have:(["held","kind"]:Gc Str).Nodup:=by decide+kernel
 have:AO ["held","kind"] (cj (GA B3 0) (AF B3)) ["kind","other","pieces"] (ixC [1] 2) (GA B3 1):=csM
 have:(["kind","other","pieces"]:Gc Str).Nodup:=by decide+kernel
 walk_at "d T.bt ag Rq PZ"
theorem YY:N3 P w K mg base "flows_by" 6 ["book","many"] (spR K mg 2 Ds):=Qe (N:=["book","many"]) 5 T.F0 scM λ_ _ _=>by
 walk_at "d Rq PZ WS SD PR"
theorem Y7:St.Dfn P w K mg base "flows_by" 6 ["book","many"] (spD K 2 CT):=dfW (N:=["book","many"]) 5 T.F0 scM λ_ _ _=>by
 walk_at "d Rq PZ WS"
theorem FZ:N3 P w K mg base "sheet_holds" 10 ["book","thing"] (spR K mg 2 ED):=Qe (N:=["book","thing"]) 9 T.CJ scM λ_ _ _=>by
 walk_at "d T.bt Lk Rq WS SD"
theorem EC:St.Dfn P w K mg base "sheet_holds" 10 ["book","thing"] (spD K 2 BV):=dfW (N:=["book","thing"]) 9 T.CJ scM λ_ _ _=>by
 have:AO ["book","thing"] (AF CJ) ["book","many"] (ixC [0] 1) (GA CJ 0):=csM
 have:(["book","many"]:Gc Str).Nodup:=by decide+kernel
 walk_at "d T.bt Lk Rq WS"
theorem Gi:St.Dfn P w K mg base "_law_cell_at" 1 ["_law_script","_law_k"] (spD K 2 CZ):=dfW (N:=["_law_script","_law_k"]) 0 T.Gb scM λ_ _ _=>by
 walk_at "d T.bt"
theorem LR:St.Dfn P w K mg base "_law_pen" 1 ["_law_cell"] (spD K 1 HZ):=dfW (N:=["_law_cell"]) 0 T.K3 scM λ_ _ _=>by
 walk_at "d T.bt"
theorem Bm:St.Dfn P w K mg base "_law_draw" 1 ["_law_pen_here","_law_bound"] (spD K 2 AG):=dfW (N:=["_law_pen_here","_law_bound","_law_found","_law_stir"]) 0 T.J4 scM λ_ _ _=>by
 walk_at "d"
theorem Yp:St.Dfn P w K mg base "_law_common" 1 ["_law_one","_law_other"] (spD K 2 Fx):=dfW (N:=["_law_one","_law_other"]) 0 T.Hc scM λ_ _ _=>by
 walk_at "d"
theorem dB:St.Dfn P w K mg base "_law_made" 2 ["_law_top","_law_bottom"] (spD K 2 Bl):=dfW (N:=["_law_top","_law_bottom","_law_by"]) 1 T.Jo scM λ_ _ _=>by
 walk_at "d T.bt Yp"
theorem c9:St.Dfn P w K mg base "_law_plus" 3 ["_law_one","_law_other"] (spD K 2 CK):=dfW (N:=["_law_one","_law_other"]) 2 T.Jz scM λ_ _ _=>by
 walk_at "d dB"
theorem bR:St.Dfn P w K mg base "_law_times" 3 ["_law_one","_law_other"] (spD K 2 Ax):=dfW (N:=["_law_one","_law_other"]) 2 T.Ie scM λ_ _ _=>by
 walk_at "d dB"
theorem dJ:St.Dfn P w K mg base "_law_less" 4 ["_law_one","_law_other"] (spD K 2 Dw):=dfW (N:=["_law_one","_law_other"]) 3 T.Jt scM λ_ _ _=>by
 walk_at "d c9"
theorem cB:St.Dfn P w K mg base "_law_whole" 3 ["_law_pen_here","_law_many"] (spD K 2 Dh):=dfW (N:=["_law_pen_here","_law_many","_law_weights"]) 2 T.Di scM λ_ _ _=>by
 have:AO ["_law_pen_here","_law_many","_law_weights"] (AF Di) ["_law_pen_here","_law_one"] (ixC [0] 1) (GA Di 0):=csM
 have:(["_law_pen_here","_law_one"]:Gc Str).Nodup:=by decide+kernel
 have:AO ["_law_pen_here","_law_many","_law_weights"] (AF Di) ["_law_weights","_law_weight"] (ixC [2] 1) (GA Di 1):=csM
 have:(["_law_weights","_law_weight"]:Gc Str).Nodup:=by decide+kernel
 walk_at "d T.bt Bm dB"
theorem ZM:St.Dfn P w K mg base "_law_pieces" 2 ["_law_pen_here"] (spD K 1 BH):=dfW (N:=["_law_pen_here","_law_great"]) 1 T.HW scM λ_ _ _=>by
 walk_at "d Bm"
theorem cQ:St.Dfn P w K mg base "_law_train" 4 ["_law_pen_here"] (spD K 1 Gz):=dfW (N:=["_law_pen_here","_law_partners","_law_kinds","_law_beasts"]) 3 T.Im scM λ_ _ _=>by
 walk_at "d Bm cB"
theorem Zo:St.Dfn P w K mg base "_law_first" 4 ["_law_pen_here","_law_train_here"] (spD K 2 G3):=dfW (N:=["_law_pen_here","_law_train_here","_law_found","_law_k"]) 3 T.Ik scM λ_ _ _=>by
 walk_at "d T.bt Bm cB ZM"
theorem Z6:St.Dfn P w K mg base "_law_share" 3 ["_law_pen_here"] (spD K 1 FV):=dfW (N:=["_law_pen_here","_law_bottom"]) 2 T.Ib scM λ_ _ _=>by
 walk_at "d Bm dB"
theorem ZJ:St.Dfn P w K mg base "_law_worths" 2 ["_law_pen_here","_law_many"] (spD K 2 Dm):=dfW (N:=["_law_pen_here","_law_many"]) 1 T.Ed scM λ_ _ _=>by
 have:AO ["_law_pen_here","_law_many"] (AF Ed) ["_law_pen_here","_law_one"] (ixC [0] 1) (GA Ed 0):=csM
 have:(["_law_pen_here","_law_one"]:Gc Str).Nodup:=by decide+kernel
 walk_at "d T.bt Bm"
theorem bM:St.Dfn P w K mg base "_law_begun" 1 ["_law_book_here"] (spD K 1 Gs):=dfW (N:=["_law_book_here"]) 0 T.FP scM λ_ _ _=>by
 have:AO ["_law_book_here"] (AF FP) ["_law_load"] (ixC [] 1) (GA FP 0):=csM
 have:(["_law_load"]:Gc Str).Nodup:=by decide+kernel
 walk_at "d T.bt"
theorem Yq:St.Dfn P w K mg base "_law_pooled" 4 ["_law_one","_law_other"] (spD K 2 Fw):=dfW (N:=["_law_one","_law_other","_law_found","_law_mine","_law_its","_law_both"]) 3 T.Hs scM λ_ _ _=>by
 walk_at "d T.bt dB c9 bR"
theorem dN:St.Dfn P w K mg base "_law_cost" 3 ["_law_train_here","_law_loads","_law_deed_here"] (spD K 3 IC):=dfW (N:=["_law_train_here","_law_loads","_law_deed_here","_law_worths_here","_law_whole_here"]) 2 T.GS scM λ_ _ _=>by
 have:AO ["_law_train_here","_law_loads","_law_deed_here","_law_worths_here","_law_whole_here"] (AF GS) ["_law_worths_here","_law_kind","_law_pieces_here","_law_owners"] (ixC [3] 3) (GA GS 0):=csM
 have:(["_law_worths_here","_law_kind","_law_pieces_here","_law_owners"]:Gc Str).Nodup:=by decide+kernel
 walk_at "d T.bt dB"
theorem cI:St.Dfn P w K mg base "_law_borne" 5 ["_law_shares","_law_part","_law_owners"] (spD K 3 EK):=dfW (N:=["_law_shares","_law_part","_law_owners","_law_found","_law_mine","_law_its"]) 4 T.Il scM λ_ _ _=>by
 walk_at "d T.bt c9 bR dJ"
theorem dC:St.Dfn P w K mg base "_law_sold" 5 ["_law_shares","_law_deed_here"] (spD K 2 FF):=dfW (N:=["_law_shares","_law_deed_here","_law_found","_law_passes"]) 4 T.Jp scM λ_ _ _=>by
 walk_at "d T.bt c9 bR dJ"
theorem dF:St.Dfn P w K mg base "_law_turn" 6 ["_law_train_here","_law_state","_law_deed_here"] (spD K 3 FE):=dfW (N:=["_law_train_here","_law_state","_law_deed_here","_law_loads","_law_holders","_law_numbers","_law_part","_law_owners","_law_load"]) 5 T.J5 scM λ_ _ _=>by
 walk_at "d dN cI dC"
theorem jg:St.Dfn P w K mg base "_law_do" 7 ["_law_train_here","_law_state","_law_deed_here"] (spD K 3 EB):=dfW (N:=["_law_train_here","_law_state","_law_deed_here","_law_loads","_law_holders","_law_numbers","_law_word_here","_law_one","_law_other","_law_load","_law_given","_law_kind","_law_got"]) 6 T.Jb scM λ_ _ _=>by
 have:AO ["_law_train_here","_law_state","_law_deed_here","_law_loads","_law_holders","_law_numbers","_law_word_here","_law_one","_law_other","_law_load","_law_given","_law_kind","_law_got"] (AF Jb) ["_law_deed_here","_law_one"] (ixC [2] 1) (GA Jb 0):=csM
 have:(["_law_deed_here","_law_one"]:Gc Str).Nodup:=by decide+kernel
 walk_at "d T.bt Yq dF"
theorem dE:St.Dfn P w K mg base "_law_deed" 4 ["_law_pen_here","_law_train_here","_law_state"] (spD K 3 EN):=dfW (N:=["_law_pen_here","_law_train_here","_law_state","_law_loads","_law_holders","_law_numbers","_law_full","_law_way","_law_load","_law_some","_law_same","_law_kind","_law_left","_law_partner"]) 3 T.DH scM λ_ _ _=>by
 have:AO ["_law_pen_here","_law_train_here","_law_state","_law_loads","_law_holders","_law_numbers","_law_full","_law_way","_law_load","_law_some","_law_same","_law_kind","_law_left","_law_partner"] (AF DH) ["_law_at","_law_load"] (ixC [] 2) (GA DH 0):=csM
 have:(["_law_at","_law_load"]:Gc Str).Nodup:=by decide+kernel
 have:AO ["_law_pen_here","_law_train_here","_law_state","_law_loads","_law_holders","_law_numbers","_law_full","_law_way","_law_load","_law_some","_law_same","_law_kind","_law_left","_law_partner"] (AF DH) ["_law_loads","_law_load","_law_at"] (ixC [3,8] 1) (GA DH 1):=csM
 have:(["_law_loads","_law_load","_law_at"]:Gc Str).Nodup:=by decide+kernel
 have:AO ["_law_pen_here","_law_train_here","_law_state","_law_loads","_law_holders","_law_numbers","_law_full","_law_way","_law_load","_law_some","_law_same","_law_kind","_law_left","_law_partner"] (AF DH) ["_law_numbers","_law_number"] (ixC [5] 1) (GA DH 2):=csM
 have:(["_law_numbers","_law_number"]:Gc Str).Nodup:=by decide+kernel
 walk_at "d T.bt Bm ZM Z6 ZJ"
theorem Jf:St.Dfn P w K mg base "_law_book" 8 ["_law_pen_here","_law_most"] (spD K 2 Dp):=dfW (N:=["_law_pen_here","_law_most","_law_train_here","_law_first_here","_law_state","_law_deeds","_law_k","_law_deed_here"]) 7 T.GW scM λ_ _ _=>by
 have:AO ["_law_pen_here","_law_most","_law_train_here","_law_first_here","_law_state","_law_deeds","_law_k","_law_deed_here"] (AF GW) ["_law_one"] (ixC [] 1) (GA GW 0):=csM
 have:(["_law_one"]:Gc Str).Nodup:=by decide+kernel
 walk_at "d T.bt Bm cQ Zo bM jg dE"
omit T bm in
theorem Hb:BP ["_law_pen_here","_law_deep","_law_way","_law_parts"] ["_law_pen_here","_law_deep"] (AF De):=scM
omit T bm in
theorem MC:AO ["_law_pen_here","_law_deep","_law_way","_law_parts"] (AF De) ["_law_pen_here","_law_deep","_law_k"] (ixC [0,1] 1) (GA De 0):=csM
omit T bm in
theorem ME:(["_law_pen_here","_law_deep","_law_k"]:Gc Str).Nodup:=by decide+kernel
theorem Cy:∀n:Nat,n<=8->St.Dfn P w K mg base "_law_thing" (2+n) ["_law_pen_here","_law_deep"] (spD K 2 (Ay n))
 |0,_=>Ng T.De (λ_ _ F=>bnR F λ_ _ _ _ _ _ _=>rfl)
 |n+1,hn=>by
  have Cy:=Cy n (by lia)
  have B:=T.bt
  have Bm:=Bm P base bm T
  refine dfM (2+n) T.De Hb λhr hu=>?_
  exact(BE (HA 2 (deM Bm hr (AE (AU 0) (AE BW AV))) Hb.nd)
   (BE (Kw (DW.dt (Zt (IU dg (AU 2) BW) (T9 (IU (Ku hu) (AU 1) BW)))) (BI (CB (L5 WL (LX (AE KR (AE NN (AE NN (AE BW (AE BW (AE (bX QL BW) (AE BW (AE (UW av BW BW) (AE Bf (AE Bf (AE (Oa AV) (AE (LX AV) AV))))))))))))) (deM Bm hr (AE (AU 0) (AE BW AV)))))) FR)
   (BE (RT [0,1] 1 ["_law_pen_here","_law_deep","_law_k"] rfl Hb.nd rfl rfl MC (Us rfl B.range (AE (deM Bm hr (AE (AU 0) (AE BW AV))) AV)) (λs H fp=>⟨N4 2 ME,WG,deM Cy hr (AE (AU 0) (AE (UW aP (AU 1) BW) AV))⟩))
   (BE (Kw (IU (Ku hu) (AU 2) BW) (BI (CB (AU 3))) FR)
   (BE (Kw (IU (Ku hu) (AU 2) BW) (BI (CB (dy (Xz Bf (AU 3) aC) (List.cons_ne_nil _ _) (by decide)))) FR)
   (BI (CB (K7 QA rfl B.tuple boot_tuple (AE (AU 3) AV)))))))))
theorem GH:St.Dfn P w K mg base "_law_fits" 1 ["_law_thing_here","_law_many"] (spD K 2 CL):=dfW (N:=["_law_thing_here","_law_many"]) 0 T.Jv scM λ_ _ _=>by
 walk_at "d T.bt"
omit T bm in
theorem IZ:Cb ["_law_book_here","_law_many","_law_due","_law_words"] (AF Ao) ["_law_book_here","_law_many"] [0,1] (Sv Ao 0):=lsM
omit T bm in
theorem Ih:Cb ["_law_book_here","_law_many","_law_due","_law_words"] (AF Ao) ["_law_book_here","_law_many"] [0,1] (Sv Ao 1):=lsM
omit T bm in
theorem Iu:Cb ["_law_book_here","_law_many","_law_due","_law_words"] (AF Ao) ["_law_book_here","_law_many"] [0,1] (Sv Ao 2):=lsM
omit T bm in
theorem JA:Cb ["_law_book_here","_law_many","_law_due","_law_words"] (AF Ao) ["_law_book_here","_law_many"] [0,1] (Sv Ao 3):=lsM
theorem Dd:St.Dfn P w K mg base "_law_numbers_so" 13 ["_law_book_here","_law_many","_law_due"] (spD K 3 A9):=pJ (N:=["_law_book_here","_law_many","_law_due","_law_words"]) 12 T.Ao scM λ_ _ _ _=>by
 have:=FJ
 have:=IZ
 have:=Ih
 have:=Iu
 have:=JA
 walk_at "d T.II Yb WU Yc Y7 T.Ge T.ES T.Df T.Fd ZG WO Y6 YY"
omit T bm in
theorem Jl:Cb ["_law_book_here","_law_load","_law_due","_law_words"] (AF Ap) ["_law_book_here","_law_load"] [0,1] (Sv Ap 0):=lsM
omit T bm in
theorem Jw:Cb ["_law_book_here","_law_load","_law_due","_law_words"] (AF Ap) ["_law_book_here","_law_load"] [0,1] (Sv Ap 1):=lsM
omit T bm in
theorem Jr:Cb ["_law_book_here","_law_load","_law_due","_law_words"] (AF Ap) ["_law_book_here","_law_load"] [0,1] (Sv Ap 2):=lsM
omit T bm in
theorem Ji:Cb ["_law_book_here","_law_load","_law_due","_law_words"] (AF Ap) ["_law_book_here","_law_load"] [0,1] (Sv Ap 3):=lsM
omit T bm in
theorem J0:Cb ["_law_book_here","_law_load","_law_due","_law_words"] (AF Ap) ["_law_book_here","_law_load"] [0,1] (Sv Ap 4):=lsM
theorem EZ:St.Dfn P w K mg base "_law_loads_so" 11 ["_law_book_here","_law_load","_law_due"] (spD K 3 BO):=pJ (N:=["_law_book_here","_law_load","_law_due","_law_words"]) 10 T.Ap scM λ_ _ _ _=>by
 have:=FJ
 have:=Jl
 have:=Jw
 have:=Jr
 have:=Ji
 have:=J0
 walk_at "d T.II br WI Yu VF UD T.Ge T.ES T.Df T.Fd ZV WN Y3 UU VT"
end
theorem nr{α:Sort _}{a b:α}(h:a=b):a=b:=h
@[simp high] theorem Be{α β:Type}(a:α)(f:α->Option β):(some a).bind f=f a:=Eq.mp (congrArg (λz=>z=f a) rfl) (Eq.refl (f a))
@[simp high] theorem ku{α β:Type}(a:α)(f:α->β):(some a).map f=some (f a):=Eq.mp (congrArg (λz=>z=some (f a)) rfl) (Eq.refl (some (f a)))
section
variable{E:En}{S:Sto}{op:OpN}{f g c:Ev}{d:D}{i:Nat}{w:Wv}{a b e h r':D}{r:Gc D}{fs:Gc Ev}
@[simp] theorem rJ{o:Option D}{E:En}:at? (o::E) 0=o:=nr rfl
@[simp] theorem rW{o:Option D}{E:En}{i:Nat}:at? (o::E) (i+1)=at? E i:=nr rfl
@[simp] theorem nZ:eC d E S=some (d,S):=nr rfl
@[simp] theorem om:eV i E S=(at? E i).map λd=>(d,S):=nr rfl
@[simp] theorem Zg:evs [] E S=some ([],S):=nr rfl
@[simp] theorem DZ:evs (f::fs) E S=(f E S).bind λr=>(evs fs E r.2).map λq=>(r.1::q.1,q.2):=nr rfl
@[simp] theorem VQ{cf:Bool}:N1 cf op fs E S=(evs fs E S).bind λr=>(op (r.1.map (dr r.2))).bind λw=>fin cf w r.2:=nr rfl
@[simp] theorem qL{cf:Bool}:fin cf (.val d) S=some (d,S):=by cases cf<;>rfl
@[simp] theorem qK:fin false (.own r) S=some (.lst r,S):=nr rfl
@[simp] theorem qq:fin true (.own r) S=some (.ref S.length,S++[.lst r]):=nr rfl
@[simp] theorem pF:dr S .non=.val .non:=nr rfl
@[simp] theorem pq{b:Bool}:dr S (.bl b)=.val (.bl b):=nr rfl
@[simp] theorem pN{i:Int}:dr S (.int i)=.val (.int i):=nr rfl
@[simp] theorem nj{x:Str}:dr S (.str x)=.val (.str x):=nr rfl
@[simp] theorem rC{x:String}:dr S (.ty x)=.val (.ty x):=nr rfl
@[simp] theorem oU:dr S (.tup r)=.val (.tup r):=nr rfl
@[simp] theorem oA:dr S (.lst r)=.val (.lst r):=nr rfl
@[simp] theorem oj{ns:List Int}:dr S (.scr ns)=.val (.scr ns):=nr rfl
@[simp] theorem pH{ns:List (Key×D)}:dr S (.dct ns)=.val (.dct ns):=nr rfl
theorem An{n:Nat}(h:S[n]?=Fk (.lst r)):dr S (.ref n)=.own r:=by
 show(match S[n]? with|some (.lst ds)=>Wv.own ds|_=>.val (.ref n))=_
 rw[h]
theorem AX{n:Nat}(h:S[n]?=Fk (.lst r)):Et S n=Fk r:=by
 unfold Et
 rw[h]
@[simp] theorem oR:fz (.val d)=d:=nr rfl
@[simp] theorem oO:fz (.own r)=.lst r:=nr rfl
noncomputable def kx(g:Ev)(E:En)(r:D×Sto):sD (D×Sto):=match r.1 with| .bl true=>g E r.2| .bl false=>Fk (.bl false,r.2)|_=>none
noncomputable def orK(g:Ev)(E:En)(r:D×Sto):sD (D×Sto):=match r.1 with| .bl false=>g E r.2| .bl true=>Fk (.bl true,r.2)|_=>none
noncomputable def pO(r:D×Sto):sD (D×Sto):=match r.1 with| .bl b=>Fk (.bl (!b),r.2)|_=>none
noncomputable def ifK(f g:Ev)(E:En)(r:D×Sto):sD (D×Sto):=match r.1 with| .bl true=>f E r.2| .bl false=>g E r.2|_=>none
@[simp] theorem nh:kx g E (.bl true,S)=g E S:=nr rfl
@[simp] theorem oG:kx g E (.bl false,S)=some (.bl false,S):=nr rfl
@[simp] theorem qU:orK g E (.bl false,S)=g E S:=nr rfl
@[simp] theorem qk:orK g E (.bl true,S)=some (.bl true,S):=nr rfl
@[simp] theorem pE{b:Bool}:pO (.bl b,S)=some (.bl (!b),S):=nr rfl
@[simp] theorem qa:ifK f g E (.bl true,S)=f E S:=nr rfl
@[simp] theorem qE:ifK f g E (.bl false,S)=g E S:=nr rfl
@[simp] theorem kI:H0 f g E S=(f E S).bind (kx g E):=nr rfl
@[simp] theorem P4:eOr f g E S=(f E S).bind (orK g E):=nr rfl
@[simp] theorem kN:Jx f E S=(f E S).bind pO:=nr rfl
@[simp] theorem lQ:eIf c f g E S=(c E S).bind (ifK f g E):=nr rfl
@[simp] theorem kJ:B0 fs E S=(evs fs E S).bind λr=>if r.1.length<=sizeLine then some (.tup r.1,r.2)else none:=nr rfl
@[simp] theorem kD{cf:Bool}:W9 cf fs E S=(evs fs E S).bind λr=>if r.1.length<=sizeLine then fin cf (.own r.1) r.2 else none:=nr rfl
@[simp] theorem gu{F:Fn}:AB F fs E S=(evs fs E S).bind λr=>F r.1 r.2:=nr rfl
noncomputable def pW(op:Mo)(fs:Gc Ev)(E:En)(r:D×Sto):sD (D×Sto):=match r.1 with
 | .ref n=>(Et r.2 n).bind λ_=>(evs fs E r.2).bind λp=>(Et p.2 n).bind λds=>(op p.2 ds p.1).map λq=>(q.1,p.2.set n (.lst q.2))
 |_=>none
@[simp] theorem jb{op:Mo}{n:Nat}:pW op fs E (.ref n,S)=(Et S n).bind λ_=>(evs fs E S).bind λp=>(Et p.2 n).bind λds=>(op p.2 ds p.1).map λq=>(q.1,p.2.set n (.lst q.2)):=nr rfl
@[simp] theorem js{op:Mo}:Fi op f fs E S=(f E S).bind (pW op fs E):=nr rfl
@[simp] theorem jU:Fp S r [d]=if r.length<sizeLine then some (.non,r++[d])else none:=nr rfl
variable{x y:Ex}
noncomputable def dD(y:Ex)(r:Fl×En×Sto):sD (Fl×En×Sto):=match r.1 with| .nx=>y r.2.1 r.2.2| .ret w=>Fk (.ret w,r.2)
noncomputable def k6(x y:Ex)(E:En)(r:D×Sto):sD (Fl×En×Sto):=match r.1 with| .bl true=>x E r.2| .bl false=>y E r.2|_=>none
@[simp] theorem U1:dD y (.nx,E,S)=y E S:=nr rfl
@[simp] theorem jh{w:D}:dD y (.ret w,E,S)=some (.ret w,E,S):=nr rfl
@[simp] theorem pG:k6 x y E (.bl true,S)=x E S:=nr rfl
@[simp] theorem oN:k6 x y E (.bl false,S)=y E S:=nr rfl
@[simp] theorem QX:AR x y E S=(x E S).bind (dD y):=nr rfl
@[simp] theorem j6:Cv E S=some (.nx,E,S):=nr rfl
@[simp] theorem V8:xIf c x y E S=(c E S).bind (k6 x y E):=nr rfl
@[simp] theorem jK:Aq f E S=(f E S).map λr=>(.ret r.1,E,r.2):=nr rfl
@[simp] theorem Wk:A8 i f E S=(f E S).map λr=>(.nx,E.set i (some r.1),r.2):=nr rfl
@[simp] theorem Vh:Ac f E S=(f E S).map λr=>(.nx,E,r.2):=nr rfl
noncomputable def oH(d b:D)(E:En)(i:D×Sto):sD (Fl×En×Sto):=match b,i.1 with
 | .ref n,.int j=>(Et i.2 n).bind λds=>(ixN ds.length j).map λm=>(.nx,E,i.2.set n (.lst (ds.set m d)))
 |_,_=>none
@[simp] theorem jt{n:Nat}{j:Int}:oH d (.ref n) E (.int j,S)=(Et S n).bind λds=>(ixN ds.length j).map λm=>(.nx,E,S.set n (.lst (ds.set m d))):=nr rfl
@[simp] theorem kK{k o:Ev}:Lz k f o E S=(k E S).bind λr=>(f E r.2).bind λb=>(o E b.2).bind (oH r.1 b.1 E):=nr rfl
@[simp] theorem XB{t:Tf}:LC t f E S=(f E S).bind λr=>(t r.1 E r.2).map λE'=>(.nx,E',r.2):=nr rfl
@[simp] theorem jR{i j:Nat}:SY i j f g E S=(f E S).bind λr=>(g E r.2).map λq=>(.nx,(E.set i (some r.1)).set j (some q.1),q.2):=by
  unfold SY
  rw[DZ]
  cases f E S with
  |none=>rfl
  |some r=>
   rw[Be,Be,DZ]
   cases g E r.2 with
   |none=>rfl
   |some q=>rfl
@[simp] theorem Zu:tNm i d E S=some (E.set i (some d)):=nr rfl
@[simp] theorem kf{ts:List Tf}{ds:List D}:tTp ts (.tup ds) E S=tMs ts ds E S:=nr rfl
@[simp] theorem mw{ts:List Tf}{ds:List D}:tTp ts (.lst ds) E S=tMs ts ds E S:=nr rfl
@[simp] theorem me{ts:List Tf}{n:Nat}:tTp ts (.ref n) E S=(Et S n).bind λds=>tMs ts ds E S:=nr rfl
@[simp] theorem kc:tMs [] [] E S=some E:=nr rfl
@[simp] theorem jq{t:Tf}{ts:List Tf}{ds:List D}:tMs (t::ts) (d::ds) E S=(t d E S).bind λE1=>tMs ts ds E1 S:=nr rfl
@[simp] theorem fG{N:Nat}{ds:List D}:AY (Af N x) ds S=(x (ds.map some++List.replicate (N-ds.length) none) S).map λr=>(flD r.1,r.2.2):=by rw[Kx];rfl
@[simp] theorem oF:flD .nx=.non:=nr rfl
@[simp] theorem k9:flD (.ret d)=d:=nr rfl
@[simp] theorem lX{i j:Int}:Ct (.val (.int i)) (.val (.int j))=some (.val (.int (i+j))):=nr rfl
@[simp] theorem mq{xs ys:List D}:Ct (.val (.tup xs)) (.val (.tup ys))=if xs.length+ys.length<=sizeLine then some (.val (.tup (xs++ys)))else none:=nr rfl
@[simp] theorem mG{xs ys:List D}:Ct (.val (.lst xs)) (.val (.lst ys))=if xs.length+ys.length<=sizeLine then some (.own (xs++ys))else none:=nr rfl
@[simp] theorem jT{i j:Int}:Bx (.val (.int i)) (.val (.int j))=if Dz i j=true then some (.val (.int (i*j)))else none:=nr rfl
@[simp] theorem jz{k:Int}:Bx (.val (.tup r)) (.val (.int k))=if(!r.isEmpty && decide (k<=0) && decide (-(2^63)<=k))=true then some (.val (.tup []))else if(!r.isEmpty && decide (1<=k) && decide (r.length*k.toNat<=sizeLine))=true then some (.val (.tup (List.replicate k.toNat r).flatten))else none:=nr rfl
@[simp] theorem JW{k:Int}:Bx (.val (.lst r)) (.val (.int k))=if(decide (k<2^63) && decide (-(2^63)<=k) && decide (r.length*k.toNat<=sizeLine))=true then some (.own (List.replicate k.toNat r).flatten)else none:=nr rfl
@[simp] theorem nM:asS (.own r)=some r:=nr rfl
@[simp] theorem km:asS (.val (.lst r))=some r:=nr rfl
@[simp] theorem lO:asS (.val (.tup r))=some r:=nr rfl
@[simp] theorem kr{ns:List Int}:asS (.val (.scr ns))=some (ns.map .int):=nr rfl
@[simp] theorem U4{j:Int}:wIx w (.val (.int j))=(asS w).bind λds=>(atI ds j).map .val:=nr rfl
theorem Bq{α:Type}{xs:Gc α}{n:Nat}{x:α}(h:xs[n]?=Fk x):atI xs (n:Int)=Fk x:=aF h
theorem Y8{α:Type}{xs:Gc α}{i:Int}(h0:0<=i)(h1:i<xs.length):atI xs i=Fk (xs[i.toNat]'(by lia)):=by
 have:atI xs ((i.toNat:Nat):Int)=Fk (xs[i.toNat]'(by lia)):=Bq (sA (by lia))
 rwa [uM h0]at this
@[simp] theorem qg:atI (a::r) 0=some a:=Bq (n:=0) rfl
@[simp] theorem qT:atI (a::b::r) 1=some b:=Bq (n:=1) rfl
@[simp] theorem qf:atI (a::b::e::r) 2=some e:=Bq (n:=2) rfl
@[simp] theorem qI:atI (a::b::e::h::r) 3=some h:=Bq (n:=3) rfl
@[simp] theorem qH{k:D}:atI (a::b::e::h::k::r) 4=some k:=Bq (n:=4) rfl
theorem K2{n k:Nat}(h:k<n):ixN n (k:Int)=Fk k:=by
 unfold ixN
 simp
 lia
theorem QV{n:Nat}{i:Int}(h0:0<=i)(h1:i<n):ixN n i=Fk i.toNat:=by
 have:=K2 (n:=n) (k:=i.toNat) (by lia)
 rwa [uM h0]at this
@[simp] theorem pX{n:Nat}:ixN (n+1) 0=some 0:=QV (by decide) (by lia)
@[simp] theorem qp{n:Nat}:ixN (n+2) 1=some 1:=QV (by decide) (by lia)
@[simp] theorem qV{n:Nat}:ixN (n+3) 2=some 2:=QV (by decide) (by lia)
@[simp] theorem pQ{i j:Int}:deq (.int i) (.int j)=(i==j):=nr rfl
@[simp] theorem kj{i j:Int}:PV (.int i) (.int j)=true:=nr rfl
@[simp] theorem md{w':Wv}:wEq w w'=if PV (fz w) (fz w')=true then some (.val (.bl (deq (fz w) (fz w'))))else none:=nr rfl
@[simp] theorem nK{w':Wv}:wNe w w'=if PV (fz w) (fz w')=true then some (.val (.bl (!deq (fz w) (fz w'))))else none:=nr rfl
@[simp] theorem mO{i j:Int}:wLt (.val (.int i)) (.val (.int j))=some (.val (.bl (decide (i<j)))):=nr rfl
@[simp] theorem l8{i j:Int}:wLe (.val (.int i)) (.val (.int j))=some (.val (.bl (decide (i<=j)))):=nr rfl
@[simp] theorem lP{i j:Int}:wGt (.val (.int i)) (.val (.int j))=some (.val (.bl (decide (j<i)))):=nr rfl
@[simp] theorem lr{i j:Int}:wGe (.val (.int i)) (.val (.int j))=some (.val (.bl (decide (j<=i)))):=nr rfl
@[simp] theorem jf{i j:Int}:Mm (.val (.int i)) (.val (.int j))=some (.val (.int (i-j))):=nr rfl
@[simp] theorem kW{i:Int}:N0 (.val (.int i))=some (.val (.int (-i))):=nr rfl
@[simp] theorem i0{i j:Int}:PU (.val (.int i)) (.val (.int j))=(if 0<j then some (.val (.int (i % j)))else none):=by
  show AAr Wv.val (if 0<j then Fk (D.int (i % j))else none)=_
  split<;>rfl
@[simp] theorem eB{i j:Int}:NS (.val (.int i)) (.val (.int j))=(if(decide (0<j) && decide (j.natAbs<F4))=true then some (.val (.int (i / j)))else none):=by
  show AAr Wv.val (if(decide (0<j) && decide (j.natAbs<F4))=true then Fk (D.int (i / j))else none)=_
  split<;>rfl
@[simp] theorem jP{i j:Int}:aQ (.val (.int i)) (.val (.int j))=if(decide (0<=j) && decide (j<=1000) && decide (i.natAbs<2^64))=true then some (.val (.int (i^j.toNat)))else none:=by
  show AAr Wv.val (if(decide (0<=j) && decide (j<=1000) && decide (i.natAbs<2^64))=true then Fk (D.int (i^j.toNat))else none)=_
  split<;>rfl
@[simp] theorem jA{i:Int}:dM (.val (.int i))=some (.val (.int (i.natAbs:Int))):=by
  show Fk (Wv.val (D.int (if i<0 then-i else i)))=_
  congr 3
  split<;>lia
@[simp] theorem iw:Ep (.own r)=some (.val (.int r.length)):=nr rfl
@[simp] theorem jX:Ep (.val (.lst r))=some (.val (.int r.length)):=nr rfl
@[simp] theorem kF:Ep (.val (.tup r))=some (.val (.int r.length)):=nr rfl
@[simp] theorem kQ{ns:List Int}:Ep (.val (.scr ns))=some (.val (.int ns.length)):=by
  show Fk (Wv.val (D.int ((ns.map D.int).length:Nat)))=_
  rw[tq]
@[simp] theorem dA:DK w=(asS w).map λds=>.val (.tup ds):=nr rfl
@[simp] theorem gm:Ow w=(asS w).map λds=>.own ds:=nr rfl
@[simp] theorem oM{b:Bool}:TH (.val (.bl b))=some (.val (.int (if b then 1 else 0))):=nr rfl
@[simp] theorem jD{i j:Int}:jB (.val (.int i)) (.val (.int j))=some (.val (.int (if j<i then j else i))):=nr rfl
@[simp] theorem kB{T:String}:Sx w (.val (.ty T))=if O6 T=true then(kdW w).map λk=>.val (.bl (k.isA T))else none:=nr rfl
@[simp] theorem kY:O6 "int"=true:=by decide
@[simp] theorem jZ:O6 "bool"=true:=by decide
@[simp] theorem fW:O6 "tuple"=true:=by decide
@[simp] theorem jS:O6 "list"=true:=by decide
theorem AI{n:Nat}(h:n<=1000):n<=sizeLine:=sL h (by decide)
@[simp] theorem sz1:(1:Nat)<=sizeLine:=AI (by decide)
@[simp] theorem sz2:(2:Nat)<=sizeLine:=AI (by decide)
@[simp] theorem sz3:(3:Nat)<=sizeLine:=AI (by decide)
@[simp] theorem sz4:(4:Nat)<=sizeLine:=AI (by decide)
@[simp] theorem sz5:(5:Nat)<=sizeLine:=AI (by decide)
@[simp] theorem sz6:(6:Nat)<=sizeLine:=AI (by decide)
@[simp] theorem GN:BK E S=some (.bl true,S):=nr rfl
@[simp] theorem jw{s:Sr}{t:Tf}{b:Ex}:L6 s t b E S=(s E S).bind λr=>Lx r.1.2 t b r.1.1 E r.2:=nr rfl
@[simp] theorem AZ:gOk [] S:=λ_ h=>(nomatch h)
theorem Ko{gs:Gd}{t:Tf}{b:Ex}(h:gOk gs S):Lx gs t b [] E S=Fk (.nx,E,S):=by
 unfold Lx
 rw[tK h]
theorem Tj {gs : Gd} {t : Tf} {b : Ex} {ds : Gc D} (h : gOk gs S) : Lx gs t b (d :: ds) E S = (t d E S).bind fun E1 => (b E1 S).bind fun r => match r.1 with
    | .nx => Lx gs t b ds r.2.1 r.2.2
    | .ret w => Fk (.ret w, r.2) := by
  rw [Lx, tK h]
  all_goals rfl
theorem FD{gs:Gd}{t:Tf}{b:Ex}{ds:Gc D}(h:gOk gs S):Lx gs t b (d::ds) E S=(t d E S).bind λE1=>(b E1 S).bind (dD (Lx gs t b ds)):=by
 rw[Tj h]
 rfl
@[simp] theorem kE:Fq f E S=(f E S).bind λr=>(sqD r.2 r.1).map λp=>(p,r.2):=nr rfl
@[simp] theorem nJ:sqD S (.tup r)=some (r,[]):=nr rfl
@[simp] theorem nS:sqD S (.lst r)=some (r,[]):=nr rfl
theorem Hw{n:Nat}(h:S[n]?=Fk (.lst r)):sqD S (.ref n)=Fk (r,[(n,r)]):=by
 show(Et S n).map (λds=>(ds,[(n,ds)]))=_
 rw[AX h]
 rfl
@[simp] theorem kR:YI f E S=(f E S).bind λr=>(sqD r.2 r.1).map λp=>((JV 0 p.1,p.2),r.2):=nr rfl
@[simp] theorem kC:YH f g E S=(f E S).bind λr=>(g E r.2).bind λq=>(sqD q.2 r.1).bind λa=>(sqD q.2 q.1).map λb=>((Ly a.1 b.1,a.2++b.2),q.2):=by
  unfold YH
  rw[DZ]
  cases f E S with
  |none=>rfl
  |some r=>
   rw[Be,Be,DZ]
   cases g E r.2 with
   |none=>rfl
   |some q=>rfl
noncomputable def HI(j:Int):tV:=decide (-(2^62)<=j) && decide (j<2^62)
theorem Cq{j:Int}(h: -1000000<=j)(g:j<=1000000):HI j=true:=by
 unfold HI
 rw[sU]
 exact⟨vV (by lia),vV (by lia)⟩
noncomputable def oZ(S:Sto):D->sD ((Gc D×Gd)×Sto)
 | .int j=>if HI j=true then Fk ((Ka 0 j.toNat,[]),S)else none
 |_=>none
@[simp] theorem jr{j:Int}:oZ S (.int j)=if HI j=true then some ((Ka 0 j.toNat,[]),S)else none:=nr rfl
@[simp] theorem kH:L7 [f] E S=(f E S).bind λr=>oZ r.2 r.1:=by
  unfold L7
  rw[DZ]
  cases f E S with
  |none=>rfl
  |some r=>
   obtain⟨d,S1⟩:=r
   rw[Be,Zg,ku,Be,Be]
   cases d<;>rfl
@[simp] theorem hU{cf:Bool}{cap:List Nat}{m:Nat}{s:Sr}{t:Tf}:Mc cf cap m s t c f E S=(s E S).bind λr=>(Bo r.1.2 t c f r.1.1 [] (MS cap m E) r.2).bind λq=>fin cf (.own q.1) q.2:=nr rfl
@[simp] theorem jG{cap:List Nat}{m:Nat}:MS cap m E=cap.map (at? E)++List.replicate m none:=nr rfl
@[simp] theorem SU{i:Int}:IJ (.int i::r)=(IJ r).map λns=>i::ns:=by
  unfold IJ
  rw[AAF]
  show(do let r1<-Fk i;let rs<-List.mapM intD r;pure (r1::rs))=_
  cases List.mapM intD r<;>rfl
theorem DV:∀(ns:Gc Int),IJ (ns.map D.int)=Fk ns
 | []=>rfl
 |n::ns=>by rw[su,SU,DV ns];rfl
@[simp] theorem jj:QP (.own r)=(IJ r).map λns=>.val (.int ns.sum):=nr rfl
@[simp] theorem kU:QP (.val (.lst r))=(IJ r).map λns=>.val (.int ns.sum):=nr rfl
@[simp] theorem og:XG true w (.val .non)=some (.val (.bl (!isN w))):=nr rfl
@[simp] theorem qh{i:Int}{w:Wv}:KY true false [w,.val (.int i)]=wSl (some i) none w:=nr rfl
@[simp] theorem qM{i:Int}{w:Wv}:KY false true [w,.val (.int i)]=wSl none (some i) w:=nr rfl
@[simp] theorem p0{i j:Int}{w:Wv}:KY true true [w,.val (.int i),.val (.int j)]=wSl (some i) (some j) w:=nr rfl
@[simp] theorem ky{lo hi:Option Int}:wSl lo hi (.val (.tup r))=some (.val (.tup (Kc r lo hi))):=nr rfl
end
structure By(A:Gc Nat)(S S':Sto):Prop where
 len:S.length<=S'.length
 keep:∀n,n<S.length->n∉A->S'[n]?=S[n]?
theorem By.refl{A:Gc Nat}{S:Sto}:By A S S:=⟨sM _,λ_ _ _=>rfl⟩
theorem By.trans{A:Gc Nat}{S S' S2:Sto}(h:By A S S')(g:By A S' S2):By A S S2:=⟨sL h.len g.len,λn hn ha=>(g.keep n (sI hn h.len) ha).trans (h.keep n hn ha)⟩
theorem By.mono{A B:Gc Nat}{S S':Sto}(h:By A S S')(s:∀n∈A,n∈B):By B S S':=⟨h.len,λn hn hb=>h.keep n hn λz=>hb (s n z)⟩
theorem By.get{A:Gc Nat}{S S':Sto}(h:By A S S'){n:Nat}{c:Cl}(e:S[n]?=Fk c)(ha:n∉A):S'[n]?=Fk c:=by
 rw[h.keep n (sO.mp e).1 ha];exact e
theorem By.app{A:Gc Nat}{S T:Sto}:By A S (S++T):=⟨by simp,λn hn _=>sH hn⟩
theorem By.set{A:Gc Nat}{S:Sto}{n:Nat}{c:Cl}(h:n∈A):By A S (S.set n c):=⟨by simp,λm hm ha=>sJ (λz=>ha (by rw[<-z];exact h))⟩
theorem By.new{A:Gc Nat}{S S' S2:Sto}(h:By A S S')(g:By (A++B) S' S2)(hb:∀n∈B,S.length<=n):By A S S2:=⟨sL h.len g.len,λn hn ha=>(g.keep n (sI hn h.len) (λz=>by
 rcases sx.mp z with z|z
 .exact ha z
 .have:=hb n z;lia)).trans (h.keep n hn ha)⟩
theorem Ai{S:Sto}{n:Nat}{c:Cl}(h:S[n]?=Fk c):n<S.length:=(sO.mp h).1
section
variable{E:En}{S:Sto}{f g h k l m:Ev}{cf:tV}{F:Fn}
@[simp high] theorem kG{op:Op1}:N1 cf (o1 op) [f] E S=(f E S).bind λr=>(op (dr r.2 r.1)).bind λw=>fin cf w r.2:=by
  rw[VQ,DZ];cases f E S<;>rfl
@[simp high] theorem Xa{op:Op2}:N1 cf (o2 op) [f,g] E S=(f E S).bind λr=>(g E r.2).bind λq=>(op (dr q.2 r.1) (dr q.2 q.1)).bind λw=>fin cf w q.2:=by
  rw[VQ,DZ]
  cases f E S with
  |none=>rfl
  |some r=>rw[Be,Be,DZ];cases g E r.2<;>rfl
theorem oE:evs [f] E S=(f E S).bind λr=>Fk ([r.1],r.2):=by rw[DZ];cases f E S<;>rfl
theorem nW:evs [f,g] E S=(f E S).bind λr=>(g E r.2).bind λq=>Fk ([r.1,q.1],q.2):=by
 rw[DZ];cases f E S with
 |none=>rfl
 |some r=>rw[Be,Be,oE];cases g E r.2<;>rfl
theorem oY:evs [f,g,h] E S=(f E S).bind λr=>(g E r.2).bind λq=>(h E q.2).bind λu=>Fk ([r.1,q.1,u.1],u.2):=by
 rw[DZ];cases f E S with
 |none=>rfl
 |some r=>rw[Be,Be,nW];cases g E r.2 with
  |none=>rfl
  |some q=>rw[Be,Be];cases h E q.2<;>rfl
theorem q8:evs [f,g,h,k] E S=(f E S).bind λr=>(g E r.2).bind λq=>(h E q.2).bind λu=>(k E u.2).bind λv=>Fk ([r.1,q.1,u.1,v.1],v.2):=by
 rw[DZ];cases f E S with
 |none=>rfl
 |some r=>rw[Be,Be,oY];cases g E r.2 with
  |none=>rfl
  |some q=>rw[Be,Be];cases h E q.2 with
   |none=>rfl
   |some u=>rw[Be,Be];cases k E u.2<;>rfl
@[simp high] theorem qC:evs [f] E S=(f E S).bind λr=>some ([r.1],r.2):=oE
@[simp high] theorem qS:evs [f,g] E S=(f E S).bind λr=>(g E r.2).bind λq=>some ([r.1,q.1],q.2):=nW
@[simp high] theorem qr:evs [f,g,h] E S=(f E S).bind λr=>(g E r.2).bind λq=>(h E q.2).bind λu=>some ([r.1,q.1,u.1],u.2):=oY
@[simp high] theorem qz:evs [f,g,h,k] E S=(f E S).bind λr=>(g E r.2).bind λq=>(h E q.2).bind λu=>(k E u.2).bind λv=>some ([r.1,q.1,u.1,v.1],v.2):=q8
@[simp high] theorem rY{d:D}:eV 0 (some d::E) S=some (d,S):=nr rfl
@[simp high] theorem rH{d:D}{o0:Option D}:eV 1 (o0::some d::E) S=some (d,S):=nr rfl
@[simp high] theorem rX{d:D}{o0 o1:Option D}:eV 2 (o0::o1::some d::E) S=some (d,S):=nr rfl
@[simp high] theorem rQ{d:D}{o0 o1 o2:Option D}:eV 3 (o0::o1::o2::some d::E) S=some (d,S):=nr rfl
@[simp high] theorem rf{d:D}{o0 o1 o2 o3:Option D}:eV 4 (o0::o1::o2::o3::some d::E) S=some (d,S):=nr rfl
@[simp high] theorem rP{d:D}{o0 o1 o2 o3 o4:Option D}:eV 5 (o0::o1::o2::o3::o4::some d::E) S=some (d,S):=nr rfl
@[simp high] theorem rG{d:D}{o0 o1 o2 o3 o4 o5:Option D}:eV 6 (o0::o1::o2::o3::o4::o5::some d::E) S=some (d,S):=nr rfl
@[simp high] theorem rS{d:D}{o0 o1 o2 o3 o4 o5 o6:Option D}:eV 7 (o0::o1::o2::o3::o4::o5::o6::some d::E) S=some (d,S):=nr rfl
@[simp high] theorem rV{d:D}{o0 o1 o2 o3 o4 o5 o6 o7:Option D}:eV 8 (o0::o1::o2::o3::o4::o5::o6::o7::some d::E) S=some (d,S):=nr rfl
@[simp high] theorem rM{d:D}{o0 o1 o2 o3 o4 o5 o6 o7 o8:Option D}:eV 9 (o0::o1::o2::o3::o4::o5::o6::o7::o8::some d::E) S=some (d,S):=nr rfl
@[simp high] theorem qY{d:D}{o0 o1 o2 o3 o4 o5 o6 o7 o8 o9:Option D}:eV 10 (o0::o1::o2::o3::o4::o5::o6::o7::o8::o9::some d::E) S=some (d,S):=nr rfl
@[simp high] theorem qu{d:D}{o0 o1 o2 o3 o4 o5 o6 o7 o8 o9 o10:Option D}:eV 11 (o0::o1::o2::o3::o4::o5::o6::o7::o8::o9::o10::some d::E) S=some (d,S):=nr rfl
@[simp high] theorem qx{d:D}{o0 o1 o2 o3 o4 o5 o6 o7 o8 o9 o10 o11:Option D}:eV 12 (o0::o1::o2::o3::o4::o5::o6::o7::o8::o9::o10::o11::some d::E) S=some (d,S):=nr rfl
@[simp high] theorem pZ{d:D}{o0 o1 o2 o3 o4 o5 o6 o7 o8 o9 o10 o11 o12:Option D}:eV 13 (o0::o1::o2::o3::o4::o5::o6::o7::o8::o9::o10::o11::o12::some d::E) S=some (d,S):=nr rfl
@[simp 20000] theorem nY{op:Op2}{d:D}:N1 cf (o2 op) [f,eC d] E S=(f E S).bind λr=>(op (dr r.2 r.1) (dr r.2 d)).bind λw=>fin cf w r.2:=by
  rw[Xa];cases f E S<;>rfl
@[simp high] theorem jy{i:Nat}{y:Ex}:AR (A8 i f) y E S=(f E S).bind λr=>y (E.set i (some r.1)) r.2:=by
  rw[QX,Wk];cases f E S<;>rfl
@[simp high] theorem jW{y:Ex}:AR (Ac f) y E S=(f E S).bind λr=>y E r.2:=by
  rw[QX,Vh];cases f E S<;>rfl
end
section
theorem mulL{i j:Int}(h: -18446744073709551616<i)(g:i<18446744073709551616):Dz i j=true:=by
 unfold Dz
 rw[uU]
 exact .inl (vV (by lia))
theorem mulR{i j:Int}(h: -18446744073709551616<j)(g:j<18446744073709551616):Dz i j=true:=by
 unfold Dz
 rw[uU,uU]
 exact .inr (.inl (vV (by lia)))
theorem DR{n k:Nat}(h:n<2^k)(hk:k<=8000):n<F4:=sI h (uC (by decide) hk)
theorem Ee{n:Int}(h0:0<n)(h1:n<1152921504606846976):n.natAbs<F4:=DR (k:=60) (show n.natAbs<2^60 by lia) (by decide)
variable{S:Sto}
noncomputable def PY(a b:Int):Int:=((yf a.natAbs b.natAbs:Nat):Int)
theorem K8{c:Ev}{b:Ex}{k:Nat}{E:En}:He c b (k+1) E S=(c E S).bind λr=>match r.1 with
 | .bl true=>(b E r.2).bind λp=>match p.1 with
   | .nx=>He c b k p.2.1 p.2.2
   | .ret w=>Fk (.ret w,p.2)
 | .bl false=>Fk (.nx,E,r.2)
 |_=>none:=rfl
theorem QQ{c:Ev}{b:Ex}{k:Nat}{E E2:En}{S1 S2:Sto}(e1:c E S=Fk (.bl true,S1))(e2:b E S1=Fk (.nx,E2,S2)):He c b (k+1) E S=He c b k E2 S2:=by
 rw[K8,e1]
 show(b E S1).bind _=_
 rw[e2]
 rfl
theorem Q0{c:Ev}{b:Ex}{k:Nat}{E:En}{S1:Sto}(e1:c E S=Fk (.bl false,S1)):He c b (k+1) E S=Fk (.nx,E,S1):=by
 rw[K8,e1]
 rfl
theorem Ql:∀(k:Nat) (x y:Nat),y<k->He (eOp (o2 wNe) [eV 1,eC (.int 0)]) (SY 0 1 (eV 1) (eOp (o2 PU) [eV 0,eV 1])) k [Fk (.int x),Fk (.int y)] S=Fk (.nx,[Fk (.int (yf x y:Nat)),Fk (.int 0)],S)
 |0,x,y,h=>absurd h (Nat.not_lt_zero _)
 |k+1,x,y,h=>by
  by_cases hy:y=0
  .subst hy
   rw[Q0 (S1:=S) (by simp)]
   simp
  .have hy2:(((y:Nat):Int)==0)=false:=by simpa using hy
   have ih:=Ql k y (x % y) (by have:=Nat.mod_lt x (xT hy);lia)
   rw[show((x % y:Nat):Int)=(x:Int) % (y:Int) by lia]at ih
   have hy4:0<y:=xT hy
   rw[QQ (S1:=S) (S2:=S) (E2:=[Fk (.int y),Fk (.int ((x:Int) % (y:Int)))]) (by simp[hy2]) (by simp[hy4]),ih]
   rw[zd x y,Nat.gcd_rec y x,zd]
theorem hO(a b:Int):B8 [.int a,.int b] S=Fk (.int (PY a b),S):=by
 have:=Ql (S:=S) (b.natAbs+2) a.natAbs b.natAbs (by lia)
 simp[B8,Ez,OK,UN,this,PY]
theorem Lw:∀(k:Nat) (x y:Nat),y<k->He (eOp (o2 wGt) [eV 1,eC (.int 0)]) (SY 0 1 (eV 1) (eOp (o2 PU) [eV 0,eV 1])) k [Fk (.int x),Fk (.int y)] S=Fk (.nx,[Fk (.int (yf x y:Nat)),Fk (.int 0)],S)
 |0,x,y,h=>absurd h (Nat.not_lt_zero _)
 |k+1,x,y,h=>by
  by_cases hy:y=0
  .subst hy
   rw[Q0 (S1:=S) (by simp)]
   simp
  .have ih:=Lw k y (x % y) (by have:=Nat.mod_lt x (xT hy);lia)
   rw[show((x % y:Nat):Int)=(x:Int) % (y:Int) by lia]at ih
   have hy4:0<y:=xT hy
   rw[QQ (S1:=S) (S2:=S) (E2:=[Fk (.int y),Fk (.int ((x:Int) % (y:Int)))]) (by simp[hy4]) (by simp[hy4]),ih]
   rw[zd x y,Nat.gcd_rec y x,zd]
theorem Vu(a b:Int)(ha:0<=a)(hb:0<=b):Fx [.int a,.int b] S=Fk (.int (PY a b),S):=by
 have:=Lw (S:=S) (b.natAbs+2) a.natAbs b.natAbs (by lia)
 have e1:((a.natAbs:Nat):Int)=a:=by lia
 have e2:((b.natAbs:Nat):Int)=b:=by lia
 rw[e1,e2]at this
 simp[Fx,KQ,OK,UN,this,PY]
noncomputable def lowP(t b:Int):Int×Int:=(t / PY t b,b / PY t b)
theorem Q9{t b:Int}(h:0<b):0<PY t b:=by
 unfold PY
 have:0<yf t.natAbs b.natAbs:=Nat.gcd_pos_of_pos_right _ (by lia)
 lia
theorem UH{t b:Int}(h:0<b):(PY t b).natAbs<=b.natAbs:=by
 unfold PY
 have:yf t.natAbs b.natAbs<=b.natAbs:=Nat.gcd_le_right _ (by lia)
 lia
noncomputable def amD(p:Int×Int):D:=.tup [.int p.1,.int p.2]
theorem JL{t b:Int}(h:0<b)(hb:b.natAbs<F4):DJ [.int t,.int b] S=Fk (amD (lowP t b),S):=by
 have h1:=Q9 (t:=t) h
 have h2:(PY t b).natAbs<F4:=uT (UH h) hb
 simp[DJ,MQ,hO,h1,h2,amD,lowP]
theorem Wd{t b:Int}:PY (t.natAbs:Int) b=PY t b:=by
 unfold PY
 rw[vR]
theorem Pe{t b:Int}(h:0<b)(hb:b.natAbs<F4):Bl [.int t,.int b] S=Fk (amD (lowP t b),S):=by
 have h1:=Q9 (t:=t) h
 have h2:(PY t b).natAbs<F4:=uT (UH h) hb
 have h3:=Vu (S:=S) (t.natAbs:Int) b (by lia) (by lia)
 rw[Wd]at h3
 simp[Bl,Mf,h3,h1,h2,amD,lowP]
noncomputable def aD(q:Rat):D:=.tup [.int q.num,.int q.den]
def Sz(k:Nat)(q:Rat):Prop:=q.num.natAbs<2^k/\q.den<2^k
theorem D7(q:Rat):(q.num:Rat) / (q.den:Rat)=q:=by
 rw[<-Rat.mkRat_eq_div,Rat.mkRat_self]
theorem IS(q:Rat):(q.den:Rat)≠0:=by
 have:=q.den_nz
 exact_mod_cast this
theorem Lr(t:Int)(n:Nat)(h:0<n):((t:Rat) / (n:Rat)).num=t / (yf t.natAbs n:Nat)/\((t:Rat) / (n:Rat)).den=n / yf t.natAbs n:=by
 have e:(t:Rat) / (n:Rat)=mkRat t n:=by rw[Rat.mkRat_eq_div]
 rw[e,Rat.mkRat_def,dif_neg (by lia),Rat.normalize_eq]
 exact⟨rfl,rfl⟩
theorem Iw{t b:Int}(h:0<b):amD (lowP t b)=aD ((t:Rat) / (b:Rat)):=by
 obtain⟨n,rfl⟩:∃n:Nat,b=n:=⟨b.natAbs,by lia⟩
 obtain⟨h1,h2⟩:=Lr t n (by lia)
 unfold amD aD lowP PY
 rw[show(((n:Nat):Int):Rat)=((n:Nat):Rat)from rfl,h1,h2]
 simp
theorem MP{t b:Int}{k:Nat}(h:0<b)(ht:t.natAbs<2^k)(hb:b.natAbs<2^k):Sz k ((t:Rat) / (b:Rat)):=by
 obtain⟨n,rfl⟩:∃n:Nat,b=n:=⟨b.natAbs,by lia⟩
 obtain⟨h1,h2⟩:=Lr t n (by lia)
 unfold Sz
 rw[show(((n:Nat):Int):Rat)=((n:Nat):Rat)from rfl,h1,h2]
 exact⟨uT (Int.natAbs_ediv_le_natAbs _ _) ht,uT (Nat.div_le_self _ _) (by simpa using hb)⟩
theorem Dx{a b j k:Nat}(ha:a<2^j)(hb:b<2^k):a*b<2^(j+k):=by
 rw[Nat.pow_add]
 exact Nat.mul_lt_mul'' ha hb
theorem Gp{i j:Int}{k m:Nat}(hi:i.natAbs<2^k)(hj:j.natAbs<2^m)(h:k<=60000)(g:m<=60000):Dz i j=true:=by
 unfold Dz
 rw[uU,uU,sU]
 exact .inr (.inr ⟨vV (sI hi (uC (by decide) h)),vV (sI hj (uC (by decide) g))⟩)
theorem den_pos(q:Rat):0<(q.den:Int):=by have:=q.den_pos;lia
theorem ZR{x:Int}{n m:Nat}(h:x.natAbs<2^n)(g:n<=m):x.natAbs<2^m:=sI h (uC (by decide) g)
section
variable{p q:Rat}{j k:Nat}
theorem Dq(hp:Sz j p)(hq:Sz k q):(p.num*q.den+q.num*p.den).natAbs<2^(j+k+1)/\((p.den:Int)*q.den).natAbs<2^(j+k)/\(p.num*q.den-q.num*p.den).natAbs<2^(j+k+1):=by
 have a1:=Dx hp.1 hq.2
 have a2:=Dx hq.1 hp.2
 have a3:=Dx hp.2 hq.2
 rw[zY k j]at a2
 have e:2^(j+k+1)=2^(j+k)+2^(j+k):=by rw[ze];lia
 refine⟨?_,?_,?_⟩
 .refine uT (Int.natAbs_add_le _ _) ?_
  rw[wL,wL,vR,vR,e]
  lia
 .rw[wL,vR,vR];exact a3
 .refine uT (Int.natAbs_sub_le _ _) ?_
  rw[wL,wL,vR,vR,e]
  lia
theorem NP:(((p.num*q.den+q.num*p.den:Int):Rat) / (((p.den:Int)*q.den:Int):Rat))=p+q:=by
 have h1:=D7 p;have h2:=D7 q
 have d1:=IS p;have d2:=IS q
 push_cast
 grind
theorem Q3:(((p.num*q.den-q.num*p.den:Int):Rat) / (((p.den:Int)*q.den:Int):Rat))=p-q:=by
 have h1:=D7 p;have h2:=D7 q
 have d1:=IS p;have d2:=IS q
 push_cast
 grind
theorem K5:(((p.num*q.num:Int):Rat) / (((p.den:Int)*q.den:Int):Rat))=p*q:=by
 have h1:=D7 p;have h2:=D7 q
 have d1:=IS p;have d2:=IS q
 push_cast
 grind
theorem dY(hp:Sz j p)(hq:Sz k q):Sz (j+k+1) (p+q):=by
 rw[<-NP]
 have:=Dq hp hq
 exact MP (ue (den_pos _) (den_pos _)) this.1 (ZR this.2.1 (by lia))
theorem eF(hp:Sz j p)(hq:Sz k q):Sz (j+k+1) (p-q):=by
 rw[<-Q3]
 have:=Dq hp hq
 exact MP (ue (den_pos _) (den_pos _)) this.2.2 (ZR this.2.1 (by lia))
theorem MN(hp:Sz j p)(hq:Sz k q):Sz (j+k) (p*q):=by
 rw[<-K5]
 have:=Dq hp hq
 exact MP (ue (den_pos _) (den_pos _)) (by rw[wL];exact Dx hp.1 hq.1) this.2.1
end
section
variable{p q:Rat}{j k:Nat}
theorem MY(hp:Sz j p)(hq:Sz k q)(hj:j+k<=7990):Dz p.num q.den=true/\Dz q.num p.den=true/\Dz p.den q.den=true/\Dz p.num q.num=true:=by
 refine⟨Gp hp.1 (by simpa using hq.2) (by lia) (by lia),Gp hq.1 (by simpa using hp.2) (by lia) (by lia),Gp (by simpa using hp.2) (by simpa using hq.2) (by lia) (by lia),Gp hp.1 hq.1 (by lia) (by lia)⟩
theorem ff(hp:Sz j p)(hq:Sz k q)(hj:j+k<=7990):Gv [aD p,aD q] S=Fk ((aD (p+q)),S):=by
 obtain⟨m1,m2,m3,m4⟩:=MY hp hq (by lia)
 have b:=Dq hp hq
 have l:=JL (S:=S) (t:=p.num*q.den+q.num*p.den) (b:=p.den*q.den) (ue (den_pos _) (den_pos _)) (DR b.2.1 (by lia))
 rw[Iw (ue (den_pos _) (den_pos _)),NP]at l
 simp only[aD]at l⊢
 simp[Gv,Qq,m1,m2,m3,l]
theorem mK(hp:Sz j p)(hq:Sz k q)(hj:j+k<=7990):JG [aD p,aD q] S=Fk ((aD (p-q)),S):=by
 obtain⟨m1,m2,m3,m4⟩:=MY hp hq (by lia)
 have b:=Dq hp hq
 have l:=JL (S:=S) (t:=p.num*q.den-q.num*p.den) (b:=p.den*q.den) (ue (den_pos _) (den_pos _)) (DR b.2.1 (by lia))
 rw[Iw (ue (den_pos _) (den_pos _)),Q3]at l
 simp only[aD]at l⊢
 simp[JG,QT,m1,m2,m3,l]
theorem ZN(hp:Sz j p)(hq:Sz k q)(hj:j+k<=7990):FL [aD p,aD q] S=Fk ((aD (p*q)),S):=by
 obtain⟨m1,m2,m3,m4⟩:=MY hp hq (by lia)
 have b:=Dq hp hq
 have l:=JL (S:=S) (t:=p.num*q.num) (b:=p.den*q.den) (ue (den_pos _) (den_pos _)) (DR b.2.1 (by lia))
 rw[Iw (ue (den_pos _) (den_pos _)),K5]at l
 simp only[aD]at l⊢
 simp[FL,N6,m3,m4,l]
theorem Qt(hp:Sz j p)(hq:Sz k q)(hj:j+k<=7990):CK [aD p,aD q] S=Fk ((aD (p+q)),S):=by
 obtain⟨m1,m2,m3,m4⟩:=MY hp hq (by lia)
 have b:=Dq hp hq
 have l:=Pe (S:=S) (t:=p.num*q.den+q.num*p.den) (b:=p.den*q.den) (ue (den_pos _) (den_pos _)) (DR b.2.1 (by lia))
 rw[Iw (ue (den_pos _) (den_pos _)),NP]at l
 simp only[aD]at l⊢
 simp[CK,MO,m1,m2,m3,l]
theorem Ju(hp:Sz j p)(hq:Sz k q)(hj:j+k<=7990):Ax [aD p,aD q] S=Fk ((aD (p*q)),S):=by
 obtain⟨m1,m2,m3,m4⟩:=MY hp hq (by lia)
 have b:=Dq hp hq
 have l:=Pe (S:=S) (t:=p.num*q.num) (b:=p.den*q.den) (ue (den_pos _) (den_pos _)) (DR b.2.1 (by lia))
 rw[Iw (ue (den_pos _) (den_pos _)),K5]at l
 simp only[aD]at l⊢
 simp[Ax,K0,m3,m4,l]
theorem dc:aD (-q)=.tup [.int (0-q.num),.int q.den]:=by
 unfold aD
 rw[show(-q).num=0-q.num by simp,show(-q).den=q.den by simp]
theorem hV(hq:Sz k q):Sz k (-q):=by
 unfold Sz
 rw[show(-q).num= -q.num by simp,show(-q).den=q.den by simp,Int.natAbs_neg]
 exact hq
theorem Yi(hp:Sz j p)(hq:Sz k q)(hj:j+k<=7990):Dw [aD p,aD q] S=Fk ((aD (p-q)),S):=by
 have l:=Qt (S:=S) hp (hV hq) hj
 rw[dc]at l
 rw[Rat.sub_eq_add_neg]
 simp only[aD]at l⊢
 simp at l
 simp[Dw,Ma,l]
end
theorem V2{t b:Int}(h:0<b)(hb:b.natAbs<F4):DJ [.int t,.int b] S=Fk ((aD (t / b)),S):=by
 rw[JL h hb,Iw h]
theorem XN{t b:Int}(h:0<b)(hb:b.natAbs<F4):Bl [.int t,.int b] S=Fk ((aD (t / b)),S):=by
 rw[Pe h hb,Iw h]
theorem IA{a b:Int}{k:Nat}(ha:a.natAbs<2^k)(hb:b.natAbs<2^k):(a+b).natAbs<2^(k+1):=by
 have e:2^(k+1)=2^k+2^k:=by rw[ze];lia
 have:=Int.natAbs_add_le a b
 lia
theorem JZ{a b:Int}{j k:Nat}(ha:a.natAbs<2^j)(hb:b.natAbs<2^k):(a*b).natAbs<2^(j+k):=by
 rw[wL];exact Dx ha hb
theorem V5{p q:Rat}{w m:Int}(h:0<w+m):((p.num*q.den*w+q.num*p.den*m:Int):Rat) / (((p.den:Int)*q.den*(w+m):Int):Rat)=(p*w+q*m) / (w+m):=by
 have h1:=D7 p;have h2:=D7 q
 have d1:=IS p;have d2:=IS q
 have d3:((w:Rat)+(m:Rat))≠0:=by
  intro e
  have:((w+m:Int):Rat)=0:=by push_cast;exact e
  have:=vY.mp this
  lia
 push_cast
 grind
section
variable{p q:Rat}{w m:Int}{j k n:Nat}
theorem Wr(hp:Sz j p)(hq:Sz k q)(hw:w.natAbs<2^n)(hm:m.natAbs<2^n):(p.num*q.den*w+q.num*p.den*m).natAbs<2^(j+k+n+1)/\((p.den:Int)*q.den*(w+m)).natAbs<2^(j+k+(n+1)):=by
 have d1:((p.den:Int)).natAbs<2^j:=by simpa using hp.2
 have d2:((q.den:Int)).natAbs<2^k:=by simpa using hq.2
 refine⟨IA (JZ (JZ hp.1 d2) hw) ?_,JZ (JZ d1 d2) (IA hw hm)⟩
 have:=JZ (JZ hq.1 d1) hm
 rwa [zY k j]at this
theorem gv(hp:Sz j p)(hq:Sz k q)(hw:w.natAbs<2^n)(hm:m.natAbs<2^n)(h:0<w+m)(hj:j+k+n+1<=7990):Hk [aD p,.int w,aD q,.int m] S=Fk ((aD ((p*w+q*m) / (w+m))),S):=by
 obtain⟨m1,m2,m3,m4⟩:=MY hp hq (by lia)
 have d1:((p.den:Int)).natAbs<2^j:=by simpa using hp.2
 have d2:((q.den:Int)).natAbs<2^k:=by simpa using hq.2
 have b:=Wr hp hq hw hm
 have m5:Dz (p.num*q.den) w=true:=Gp (JZ hp.1 d2) hw (by lia) (by lia)
 have m6:Dz (q.num*p.den) m=true:=Gp (JZ hq.1 d1) hm (by lia) (by lia)
 have m7:Dz ((p.den:Int)*q.den) (w+m)=true:=Gp (JZ d1 d2) (IA hw hm) (by lia) (by lia)
 have l:=V2 (S:=S) (t:=p.num*q.den*w+q.num*p.den*m) (b:=p.den*q.den*(w+m)) (ue (ue (den_pos _) (den_pos _)) h) (DR b.2 (by lia))
 rw[V5 h]at l
 simp only[aD]at l⊢
 simp[Hk,OR,m1,m2,m3,m5,m6,m7,l]
end
end
section
variable{S:Sto}{p:Nat}
theorem ZC{r:Gc D}(h:p<S.length):dr (S.set p (.lst r)) (.ref p)=.own r:=An (sX h)
def Pen(ds:Gc D):Prop:=∃a b c d:Int,ds=[.int a,.int b,.int c,.int d]/\0<=d/\d<1000000007
def Cu(p:Nat)(S:Sto):Prop:=∃ds,S[p]?=Fk (.lst ds)/\Pen ds
structure Pn(p:Nat)(S S':Sto):Prop where
 same:By [p] S S'
 pen:Cu p S'
theorem Pn.trans{S S' S2:Sto}(h:Pn p S S')(g:Pn p S' S2):Pn p S S2:=⟨h.same.trans g.same,g.pen⟩
theorem Pn.get{S S':Sto}(h:Pn p S S'){n:Nat}{c:Cl}(e:S[n]?=Fk c)(ha:n≠p):S'[n]?=Fk c:=h.same.get e (by simpa using ha)
theorem Pn.refl(h:Cu p S):Pn p S S:=⟨.refl,h⟩
theorem Cu.lt(h:Cu p S):p<S.length:=by obtain⟨ds,e,_⟩:=h;exact Ai e
theorem Cu.app(h:Cu p S)(T:Sto):Cu p (S++T):=by obtain⟨ds,e,hp⟩:=h;exact⟨ds,by rw[sH (Ai e)];exact e,hp⟩
inductive Drw(p:Nat)(n:Int)(S:Sto):Prop
 |mk (r:Int) (S':Sto) (e:AG [.ref p,.int n] S=Fk (.int r,S')) (a:0<=r) (b:r<n) (g:Pn p S S')
theorem Ak(h:Cu p S){n:Int}(h0:0<n)(h1:n<1152921504606846976):Drw p n S:=by
 obtain⟨ds,hp,a,b,c,d,rfl,hd0,hd1⟩:=h
 have hl:=Ai hp
 have hs:=Ee h0 h1
 have hr:=An hp
 have hc:=AX hp
 by_cases hb:b=1/\0<a
 .obtain⟨rfl,ha⟩:=hb
  refine⟨a % n,S.set p (.lst [.int (a / n),.int 1,.int c,.int d]),?_,vy _ (by lia),wQ _ h0,.set (by simp),_,sX hl,_,_,_,_,rfl,hd0,hd1⟩
  simp[AG,IE,ha,h0,hs,hr,hc]
 .have m1:Dz (d+17) (69621+2*(c+1))=true:=mulL (by lia) (by lia)
  have m2:Dz 2 (c+1)=true:=mulL (by decide) (by decide)
  generalize ht:(d+17)*(69621+2*(c+1)) % 2147483647=t at*
  have t0:0<=t:=by rw[<-ht];exact vy _ (by decide)
  have t1:t<2147483647:=by rw[<-ht];exact wQ _ (by decide)
  have m3:Dz t t=true:=mulL (by lia) (by lia)
  have m4:Dz 40503 (c+1)=true:=mulL (by decide) (by decide)
  generalize hu:(t*t+40503*(c+1)+5) % 2147483629=u at*
  have u0:0<=u:=by rw[<-hu];exact vy _ (by decide)
  have u1:u<2147483629:=by rw[<-hu];exact wQ _ (by decide)
  have m5:Dz u 48271=true:=mulL (by lia) (by lia)
  have d32:(32:Int).natAbs<F4:=Ee (by decide) (by decide)
  have d32':(32:Nat)<F4:=d32
  refine⟨u*48271 % 2147483647 / 32 % n,S.set p (.lst [.int a,.int b,.int (c+1),.int d]),?_,vy _ (by lia),wQ _ h0,.set (by simp),_,sX hl,_,_,_,_,rfl,hd0,hd1⟩
  by_cases hb1:b=1
  .subst hb1
   have ha:¬0<a:=λz=>hb ⟨rfl,z⟩
   simp[AG,IE,ha,h0,hs,hr,hc,ZC,hl,m1,m2,m3,m4,m5,ht,hu,d32']
  .have hb2:(b==1)=false:=by simpa using hb1
   simp[AG,IE,hb2,h0,hs,hr,hc,ZC,hl,m1,m2,m3,m4,m5,ht,hu,d32']
theorem ie(c:Int):∃p S',HZ [.int c] S=Fk (.ref p,S')/\Cu p S'/\By [] S S'/\S.length<=p:=by
 refine⟨S.length,S++[.lst [.int c,.int (if(10:Int)^18<=c then 1 else 0),.int 0,.int (c % 1000000007)]],?_,⟨_,sV,_,_,_,_,rfl,vy _ (by decide),wQ _ (by decide)⟩,.app,sM _⟩
 simp[HZ,O9]
theorem Ej{gs:Gd}{t:Tf}{c f:Ev}{acc:Gc D}{E:En}(h:gOk gs S):Bo gs t c f [] acc E S=Fk (acc,S):=by
 unfold Bo
 rw[tK h]
theorem MW {gs : Gd} {t : Tf} {c f : Ev} {d : D} {ds acc : Gc D} {E : En} (h : gOk gs S) (hz : acc.length < sizeLine) : Bo gs t c f (d :: ds) acc E S = (t d E S).bind fun E1 => (c E1 S).bind fun r => match r.1 with
      | .bl true => (f E1 r.2).bind fun p => Bo gs t c f ds (acc ++ [p.1]) E1 p.2
      | .bl false => Bo gs t c f ds acc E1 r.2
      | _ => none := by
  rw [Bo, tK h, tK hz]
  all_goals rfl
theorem HR{gs:Gd}{t:Tf}{c f:Ev}{d:D}{ds acc:Gc D}{E E1:En}{S1:Sto}(h:gOk gs S)(hz:acc.length<sizeLine)(e1:t d E S=Fk E1)(e2:c E1 S=Fk (.bl true,S1)):Bo gs t c f (d::ds) acc E S=(f E1 S1).bind λp=>Bo gs t c f ds (acc++[p.1]) E1 p.2:=by
 rw[MW h hz,e1]
 show(c E1 S).bind _=_
 rw[e2]
 rfl
theorem Io{gs:Gd}{t:Tf}{c f:Ev}{d:D}{ds acc:Gc D}{E E1:En}{S1:Sto}(h:gOk gs S)(hz:acc.length<sizeLine)(e1:t d E S=Fk E1)(e2:c E1 S=Fk (.bl false,S1)):Bo gs t c f (d::ds) acc E S=Bo gs t c f ds acc E1 S1:=by
 rw[MW h hz,e1]
 show(c E1 S).bind _=_
 rw[e2]
 rfl
theorem Kg{gs:Gd}{t:Tf}{f:Ev}{C:En}{m:Nat}{I:Sto->Prop}{R:D->D->Prop}(hg:∀S,I S->gOk gs S):∀{ds acc:Gc D} {os:En} {S:Sto},os.length=m->I S->acc.length+ds.length<=sizeLine->(∀d∈ds,∀os S,os.length=m->I S->∃us y S',us.length=m/\t d (C++os) S=Fk (C++us)/\f (C++us) S=Fk (y,S')/\I S'/\R d y)->∃ys S',Bo gs t BK f ds acc (C++os) S=Fk (acc++ys,S')/\I S'/\ys.length=ds.length/\Paired R ds ys
 | [],acc,os,S,ho,hI,hz,h=>⟨[],S,by rw[Ej (hg S hI)];simp,hI,rfl,.nil⟩
 |d::ds,acc,os,S,ho,hI,hz,h=>by
  obtain⟨us,y,S1,hu,e1,e2,I1,r1⟩:=h d sZ os S ho hI
  obtain⟨ys,S2,e3,I2,l2,r2⟩:=Kg hg (ds:=ds) (acc:=acc++[y]) (os:=us) (S:=S1) hu I1 (by simp at hz ⊢; lia) λd' hd=>h d' (sQ _ hd)
  refine⟨y::ys,S2,?_,I2,by simp[l2],.cons r1 r2⟩
  rw[HR (hg S hI) (by simp at hz;lia) e1 GN,e2,Be,e3]
  simp
theorem comp_map{gs:Gd}{t:Tf}{f:Ev}{C:En}{m:Nat}{g:D->D}{S:Sto}(hg:gOk gs S):∀{ds acc:Gc D} {os:En},os.length=m->acc.length+ds.length<=sizeLine->(∀d∈ds,∀os,os.length=m->∃us,us.length=m/\t d (C++os) S=Fk (C++us)/\f (C++us) S=Fk (g d,S))->Bo gs t BK f ds acc (C++os) S=Fk (acc++ds.map g,S)
 | [],acc,os,ho,hz,h=>by rw[Ej hg];simp
 |d::ds,acc,os,ho,hz,h=>by
  obtain⟨us,hu,e1,e2⟩:=h d sZ os ho
  rw[HR hg (by simp at hz;lia) e1 GN,e2,Be]
  rw[comp_map hg hu (by simp at hz ⊢; lia) λd' hd=>h d' (sQ _ hd)]
  simp
theorem EV{gs:Gd}{t:Tf}{b:Ex}{I:Gc D->En->Sto->Prop}(hg:∀ds E S,I ds E S->gOk gs S):∀{ds:Gc D} {E:En} {S:Sto},I ds E S->(∀d ds E S,I (d::ds) E S->∃E1 E2 S2,t d E S=Fk E1/\b E1 S=Fk (.nx,E2,S2)/\I ds E2 S2)->∃E' S',Lx gs t b ds E S=Fk (.nx,E',S')/\I [] E' S'
 | [],E,S,hI,h=>⟨E,S,Ko (hg _ _ _ hI),hI⟩
 |d::ds,E,S,hI,h=>by
  obtain⟨E1,E2,S2,e1,e2,I2⟩:=h d ds E S hI
  obtain⟨E',S',e3,I3⟩:=EV hg I2 h
  exact⟨E',S',by rw[FD (hg _ _ _ hI),e1];simp[e2,e3],I3⟩
theorem pick{xs:Gc D}{r:Int}(h0:0<=r)(h1:r<xs.length):∃x,atI xs r=Fk x/\x∈xs:=⟨_,Y8 h0 h1,vj _⟩
theorem IH{α β:Type}{P:β->Prop}:∀{xs:Gc α} {ys:Gc β},Paired (λ_ y=>P y) xs ys->∀y∈ys,P y
 |_,_,.nil,y,h=>by cases h
 |_,_,.cons r t,y,h=>by
  rcases sN.mp h with h|h
  .rw[h];exact r
  .exact IH t y h
theorem Fz{lo:Int}{n:Nat}:(Ka lo n).length=n:=by simp[Ka]
end
def Ok(G B:Nat)(r:Rat):Prop:=∃z:Nat,r*(G:Rat)=(z:Rat)/\z<=B
theorem Mp{n:Nat}(h:0<n):(n:Rat)≠0:=by
 have:n≠0:=by lia
 exact_mod_cast this
theorem Ok.sz{G B k:Nat}{r:Rat}(h:Ok G B r)(hG:0<G)(g:G<2^k)(b:B<2^k):Sz k r:=by
 obtain⟨z,e,hz⟩:=h
 have e2:r=((z:Int):Rat) / ((G:Int):Rat):=by
  have:=Mp hG
  rw[show(((z:Nat):Int):Rat)=(z:Rat)from rfl,show(((G:Nat):Int):Rat)=(G:Rat)from rfl,<-e]
  grind
 rw[e2]
 exact MP (by lia) (by simpa using uT hz b) (by simpa using g)
theorem Ok.up{G B t B':Nat}{r:Rat}(h:Ok G B r)(hB:B*t<=B'):Ok (G*t) B' r:=by
 obtain⟨z,e,hz⟩:=h
 refine⟨z*t,?_,sL (uf t hz) hB⟩
 push_cast
 rw[<-e]
 grind
theorem Ok.zero{G B:Nat}:Ok G B 0:=⟨0,by simp,ux _⟩
theorem Ok.one{G B:Nat}(h:G<=B):Ok G B 1:=⟨G,by simp,h⟩
theorem Ok.mix{G B a b t:Nat}{r o:Rat}(hr:Ok G B r)(ho:Ok G B o)(ht:a+b=t)(h0:0<t):Ok (G*t) (B*t) ((r*(a:Rat)+o*(b:Rat)) / (t:Rat)):=by
 obtain⟨z,e1,h1⟩:=hr
 obtain⟨y,e2,h2⟩:=ho
 refine⟨z*a+y*b,?_,?_⟩
 .have:=Mp h0
  push_cast
  rw[<-e1,<-e2]
  grind
 .rw[<-ht,Nat.mul_add]
  exact Nat.add_le_add (uf a h1) (uf b h2)
structure Tr where
 p:Nat
 k:Nat
 b:Nat
 ho:Gc Rat
 h:Int
 l:Int
structure Ld where
 k:Nat
 n:Int
 ow:Gc Rat
structure Stt where
 AA:Gc Ld
 hold:Gc Rat
 nums:Gc Int
inductive AK where
 |DU (p k:Nat) (n:Int)
 |F9 (a b:Nat)
 |swap (l:Nat) (g:Int) (k:Nat) (n:Int)
 |Cd (t:Int) (l:Nat) (g:Int) (k:Nat) (n:Int)
 |DQ (l:Nat) (n:Int)
 |thr (l:Nat) (n:Int) (ws:Gc Int)
 |Gq (p q:Nat) (s:Rat)
noncomputable def shD(rs:Gc Rat):D:=.tup (rs.map aD)
noncomputable def Tr.d(t:Tr):D:=.tup [.int t.p,.int t.k,.int t.b,shD t.ho,.int t.h,.int t.l]
noncomputable def Ld.d(l:Ld):D:=.tup [.int l.k,.int l.n,shD l.ow]
noncomputable def AK.d:AK->D
 | .DU p k n=>.tup [.str "bring",.int p,.int k,.int n]
 | .F9 a b=>.tup [.str "pool",.int a,.int b]
 | .swap l g k n=>.tup [.str "swap",.int l,.int g,.int k,.int n]
 | .Cd t l g k n=>.tup [.str "trade",.int t,.int l,.int g,.int k,.int n]
 | .DQ l n=>.tup [.str "spoil",.int l,.int n]
 | .thr l n ws=>.tup [.str "throw",.int l,.int n,.tup (ws.map .int)]
 | .Gq p q s=>.tup [.str "sell",.int p,.int q,aD s]
noncomputable def GJ(x:Rat)(os ss:Gc Rat):Gc Rat:=xw (λs o=>s*(1-x)+o*x) ss os
noncomputable def Fo(p q:Nat)(s:Rat)(ss:Gc Rat):Gc Rat:=(ss.set p (ss.getD p 0-ss.getD p 0*s)).set q (ss.getD q 0+ss.getD p 0*s)
noncomputable def Bt(n m:Int)(ss os:Gc Rat):Gc Rat:=xw (λs o=>(s*n+o*m) / (n+m:Int)) ss os
noncomputable def EI(t:Tr)(ls:Gc Ld)(ws:Gc Int):Int:=(ls.map λl=>l.n*ws.getD l.k 0).sum+t.b*ws.getD t.k 0
noncomputable def Ip(t:Tr)(ls:Gc Ld)(l:Nat)(n:Int)(ws:Gc Int):Rat:=((n*ws.getD ((ls[l]?.map (·.k)).getD 0) 0:Int):Rat) / (EI t ls ws:Rat)
noncomputable def AJ(ls:Gc Ld)(l:Nat):Ld:=ls.getD l ⟨0,0,[]⟩
noncomputable def less(ls:Gc Ld)(l:Nat)(n:Int):Gc Ld:=ls.set l {AJ ls l with n:=(AJ ls l).n-n}
noncomputable def MA(p i:Nat):Gc Rat:=(tL p).map λj=>if j=i then 1 else 0
noncomputable def step(t:Tr)(s:Stt):AK->Stt
 | .DU p k n=>{s with AA:=s.AA++[⟨k,n,MA t.p p⟩]}
 | .F9 a b=>{s with AA:=less (less s.AA a (AJ s.AA a).n) b (AJ s.AA b).n++[⟨(AJ s.AA a).k,(AJ s.AA a).n+(AJ s.AA b).n,Bt (AJ s.AA a).n (AJ s.AA b).n (AJ s.AA a).ow (AJ s.AA b).ow⟩]}
 | .swap l g k n=>{s with AA:=less s.AA l g++[⟨k,n,(AJ s.AA l).ow⟩]}
 | .Cd u l g k n=>{s with AA:=less s.AA l g++[⟨k,n,(AJ s.AA l).ow⟩],nums:=s.nums++[u]}
 | .DQ l n=>{s with AA:=less s.AA l n}
 | .thr l n ws=>{s with AA:=(less s.AA l n).map λx=>{x with ow:=GJ (Ip t s.AA l n ws) (AJ s.AA l).ow x.ow},hold:=GJ (Ip t s.AA l n ws) (AJ s.AA l).ow s.hold}
 | .Gq p q x=>{s with AA:=s.AA.map λy=>{y with ow:=Fo p q x y.ow},hold:=Fo p q x s.hold}
def JB(t:Tr):Prop:=1<=t.p/\t.p<=4/\1<=t.k/\t.k<=5/\1<=t.b/\t.b<=20
def Can(t:Tr)(s:Stt):AK->Prop
 | .DU p k n=>p<t.p/\k<t.k/\1<=n/\n<2^131
 | .F9 a b=>a≠b/\a<s.AA.length/\b<s.AA.length/\0<(AJ s.AA a).n/\0<(AJ s.AA b).n/\(AJ s.AA a).k=(AJ s.AA b).k
 | .swap l g k n=>l<s.AA.length/\1<=g/\g<=(AJ s.AA l).n/\k<t.k/\k≠(AJ s.AA l).k/\1<=n/\n<2^131
 | .Cd u l g k n=>l<s.AA.length/\1<=g/\g<=(AJ s.AA l).n/\k<t.k/\k≠(AJ s.AA l).k/\1<=n/\n<2^131/\u∉s.nums/\0<=u/\u<=9
 | .DQ l n=>l<s.AA.length/\1<=n/\n<=(AJ s.AA l).n
 | .thr l n ws=>l<s.AA.length/\1<=n/\n<=(AJ s.AA l).n/\ws.length=t.k+1/\∀w∈ws,1<=w/\w<=99
 | .Gq p q x=>p≠q/\p<t.p/\q<t.p/\0<x.num/\x.num<=x.den/\x.den<=12
structure DP(t:Tr)(k:Nat)(s:Stt):Prop where
 len:s.AA.length<=4+k
 kind:∀l∈s.AA,l.k<t.k
 pcs:∀l∈s.AA,0<=l.n/\l.n<2^(131+k)
 own:∀l∈s.AA,l.ow.length=t.p
 hold:s.hold.length=t.p
 nm:s.nums.length<=k
 gb:∃G B:Nat,0<G/\G<=B/\B<2^(30+170*k)/\(∀l∈s.AA,∀r∈l.ow,Ok G B r)/\∀r∈s.hold,Ok G B r
theorem DP.sz{t:Tr}{k:Nat}{s:Stt}(h:DP t k s):(∀l∈s.AA,∀r∈l.ow,Sz (30+170*k) r)/\∀r∈s.hold,Sz (30+170*k) r:=by
 obtain⟨G,B,g0,gb,b,h1,h2⟩:=h.gb
 exact⟨λl hl r hr=>(h1 l hl r hr).sz g0 (uT gb b) b,λr hr=>(h2 r hr).sz g0 (uT gb b) b⟩
theorem AW{ls:Gc Ld}{l:Nat}(h:l<ls.length):AJ ls l∈ls:=by
 unfold AJ
 rw[sG,sA h]
 exact vj h
theorem Cp{ls:Gc Ld}{l:Nat}(h:l<ls.length):ls[l]?=Fk (AJ ls l):=by
 unfold AJ
 rw[sG,sA h]
 rfl
theorem JH{ls:Gc Ld}{l:Nat}{n:Int}{x:Ld}(h:x∈less ls l n)(hl:l<ls.length):x∈ls\/x={AJ ls l with n:=(AJ ls l).n-n}:=by
 unfold less at h
 rcases vw h with h|h
 .exact .inl h
 .exact .inr h
theorem BY{ls:Gc Ld}{l:Nat}{n:Int}:(less ls l n).length=ls.length:=by simp[less]
section
variable{S:Sto}{p:Nat}
theorem Pg{P:Int->Prop}:∀{ys:Gc D},(∀y∈ys,∃i:Int,y=.int i/\P i)->∃ns:Gc Int,ys=ns.map D.int/\∀n∈ns,P n
 | [],_=>⟨[],rfl,λn h=>by cases h⟩
 |y::ys,h=>by
  obtain⟨i,rfl,hi⟩:=h y sZ
  obtain⟨ns,rfl,hn⟩:=Pg (P:=P) (ys:=ys) λz hz=>h z (sQ _ hz)
  exact⟨i::ns,rfl,λn hn'=>by
   rcases sN.mp hn' with e|e
   .rw[e];exact hi
   .exact hn n e⟩
theorem N5{ns:Gc Int}(h:∀n∈ns,0<=n/\n<=8):0<=ns.sum/\ns.sum<=8*ns.length/\∀n∈ns,n<=ns.sum:=by
 induction ns with
 |nil=>simp
 |cons a l ih=>
  have h1:=h a sZ
  obtain⟨i1,i2,i3⟩:=ih λn hn=>h n (sQ _ hn)
  rw[uS,tY]
  refine⟨by lia,by push_cast;lia,λn hn=>?_⟩
  rcases sN.mp hn with e|e
  .lia
  .have:=i3 n e;lia
theorem RP (h : Cu p S) {n : Nat} (hn : n ≤ 20) : ∃ (ns : Gc Int) (S' : Sto), Bo [] (tNm 1) BK (eOp (o2 wIx) [(Eu [(eC (.int 0)), (eC (.int 1)), (AB AG [(eV 0), (eC (.int 4))]), (AB AG [(eV 0), (eC (.int 9))])]), (AB AG [(eV 0), (eC (.int 4))])]) (Ka 0 n) [] [Fk (.ref p), none] S = Fk (ns.map D.int, S') /\ Pn p S S' /\ ns.length = n /\ ∀ i ∈ ns, 0 ≤ i /\ i ≤ 8 := by
  obtain ⟨ys, S', e, hI, l, r⟩ := Kg (gs := []) (t := tNm 1) (f := eOp (o2 wIx) [(Eu [(eC (.int 0)), (eC (.int 1)), (AB AG [(eV 0), (eC (.int 4))]), (AB AG [(eV 0), (eC (.int 9))])]), (AB AG [(eV 0), (eC (.int 4))])]) (C := [Fk (.ref p)]) (m := 1) (I := Pn p S) (R := fun _ y => ∃ i : Int, y = .int i /\ 0 ≤ i /\ i ≤ 8)
    (fun _ _ => AZ) (ds := Ka 0 n) (acc := []) (os := [none]) rfl (Pn.refl h) (by rw [Fz]; simp; exact AI (by lia)) fun d _ os S0 ho I0 => by
      obtain ⟨o, rfl⟩ := Ke ho
      obtain ⟨r1, S1, e1, a1, b1, p1⟩ := Ak I0.pen (n := 4) (by decide) (by decide)
      obtain ⟨r2, S2, e2, a2, b2, p2⟩ := Ak p1.pen (n := 9) (by decide) (by decide)
      obtain ⟨r3, S3, e3, a3, b3, p3⟩ := Ak p2.pen (n := 4) (by decide) (by decide)
      obtain ⟨x, ex, hx⟩ := pick (xs := [.int 0, .int 1, .int r1, .int r2]) (r := r3) a3 (by simpa using b3)
      refine ⟨[Fk d], x, S3, rfl, by simp, by simp [e1, e2, e3, ex], ((I0.trans p1).trans p2).trans p3, ?_⟩
      simp only [sN, si, uX] at hx
      rcases hx with rfl | rfl | rfl | rfl
      · exact ⟨0, rfl, by decide, by decide⟩
      · exact ⟨1, rfl, by decide, by decide⟩
      · exact ⟨r1, rfl, by lia, by lia⟩
      · exact ⟨r2, rfl, by lia, by lia⟩
  obtain ⟨ns, rfl, hns⟩ := Pg (IH r)
  exact ⟨ns, S', by simpa using e, hI, by simpa [Fz] using l, hns⟩
noncomputable def IQ(ns:Gc Int):Gc Rat:=ns.map λ(n:Int)=>(n:Rat) / (ns.sum:Rat)
theorem LP{ns:Gc Int}(h:∀n∈ns,0<=n/\n<=8)(hs:0<ns.sum):∀r∈IQ ns,Ok ns.sum.toNat ns.sum.toNat r:=by
 intro r hr
 obtain⟨n,hn,rfl⟩:=uG.mp hr
 have h1:=h n hn
 have h2:=(N5 h).2.2 n hn
 refine⟨n.toNat,?_,by lia⟩
 have e1:((ns.sum.toNat:Nat):Rat)=(ns.sum:Rat):=by
  have:((ns.sum.toNat:Nat):Int)=ns.sum:=by lia
  exact congrArg (λz:Int=>(z:Rat)) this
 have e2:((n.toNat:Nat):Rat)=(n:Rat):=by
  have:((n.toNat:Nat):Int)=n:=by lia
  exact congrArg (λz:Int=>(z:Rat)) this
 rw[e1,e2]
 have:(ns.sum:Rat)≠0:=by
  intro z
  have:=vY.mp z
  lia
 grind
theorem Uo{s:Rat}:∀{ns:Gc Int},(ns.map λ(n:Int)=>(n:Rat) / s).sum=(ns.sum:Rat) / s
 | []=>by simp;grind
 |n::ns=>by
  rw[su,uS,uS,Uo (ns:=ns)]
  push_cast
  grind
theorem OD{ns:Gc Int}(hs:0<ns.sum):(IQ ns).sum=1:=by
 unfold IQ
 rw[Uo]
 have:(ns.sum:Rat)≠0:=by
  intro z
  have:=vY.mp z
  lia
 grind
theorem QO{ns:Gc Int}{q:Nat}(hq:S[q]?=Fk (.lst (ns.map D.int)))(hl:ns.length<=20)(hn:∀n∈ns,0<=n/\n<=8)(hs:0<ns.sum):Bo [(q,ns.map D.int)] (tNm 1) BK (AB Bl [eV 1,eOp (o1 QP) [eV 0]]) (ns.map D.int) [] [Fk (.ref q),none] S=Fk ((IQ ns).map aD,S):=by
 obtain⟨s1,s2,s3⟩:=N5 hn
 have:=comp_map (gs:=[(q,ns.map D.int)]) (t:=tNm 1) (f:=AB Bl [eV 1,eOp (o1 QP) [eV 0]]) (C:=[Fk (.ref q)]) (m:=1) (g:=λd=>match d with| .int n=>aD ((n:Rat) / (ns.sum:Rat))|d=>d) (S:=S) (λg hg=>by rw[tJ.mp hg];exact AX hq) (ds:=ns.map D.int) (acc:=[]) (os:=[none]) rfl (by simp;exact AI (by lia)) λd hd os ho=>by
  obtain⟨o,rfl⟩:=Ke ho
  obtain⟨i,hi,rfl⟩:=uG.mp hd
  have m:=XN (S:=S) (t:=i) hs (Ee (by lia) (by lia))
  exact⟨[Fk (.int i)],rfl,by simp,by simp[An hq,DV,m]⟩
 have e2:(ns.map D.int).map (λd=>match d with| .int n=>aD ((n:Rat) / (ns.sum:Rat))|d=>d)=(IQ ns).map aD:=by
  unfold IQ
  rw[tW,tW]
  rfl
 rw[e2]at this
 simpa using this
theorem Qh(h:Cu p S){n:Nat}(h1:1<=n)(h2:n<=4):∃rs S',Dh [.ref p,.int n] S=Fk (shD rs,S')/\Pn p S S'/\(rs.length=n/\rs.sum=1)/\∃G:Nat,0<G/\G<=32/\∀r∈rs,Ok G G r:=by
 obtain⟨ns,S1,e1,p1,l1,i1⟩:=RP (n:=n) h (by lia)
 obtain⟨s1,s2,s3⟩:=N5 i1
 have hq:(S1++[Cl.lst (ns.map D.int)])[S1.length]?=Fk (.lst (ns.map D.int)):=sV
 have pp:Cu p (S1++[Cl.lst (ns.map D.int)]):=p1.pen.app _
 have hlt:=p1.pen.lt
 have r1:HI (n:Int)=true:=Cq (by lia) (by lia)
 by_cases hz:ns.sum=0
 .obtain⟨r,S2,e2,a2,b2,p2⟩:=Ak pp (n:=n) (by lia) (by lia)
  have hq2:S2[S1.length]?=Fk (.lst (ns.map D.int)):=p2.get hq (by lia)
  have hn':∀x∈ns.set r.toNat 1,0<=x/\x<=8:=λx hx=>by
   rcases vw hx with hx|rfl
   .exact i1 x hx
   .exact⟨by decide,by decide⟩
  have hs':0<(ns.set r.toNat 1).sum:=by
   have:=(N5 hn').2.2 1 (List.mem_set (by lia) 1)
   lia
  have hq3:(S2.set S1.length (.lst ((ns.set r.toNat 1).map D.int)))[S1.length]?=Fk (.lst ((ns.set r.toNat 1).map D.int)):=sX (Ai hq2)
  have e3:=QO hq3 (by simp;lia) hn' hs'
  have ix:ixN ns.length r=Fk r.toNat:=QV a2 (by lia)
  refine⟨IQ (ns.set r.toNat 1),S2.set S1.length (.lst ((ns.set r.toNat 1).map D.int)),?_,⟨?_,?_⟩,⟨by simp[IQ,l1],OD hs'⟩,_,(show 0<(ns.set r.toNat 1).sum.toNat by lia),?_,LP hn' hs'⟩
  .have sq3:=Hw hq3
   rw[vf]at e3 sq3 hq3
   simp[Dh,Ic,r1,e1,An hq,DV,hz,e2,AX hq2,ix,sq3,e3,shD]
  .have g:By [p] S (S1++[Cl.lst (ns.map D.int)]):=p1.same.trans .app
   refine⟨sL (g.trans p2.same).len (by simp),λm hm hmp=>?_⟩
   rw[sJ (by have:=p1.same.len;lia)]
   exact(g.trans p2.same).keep m hm hmp
  .obtain⟨ds,ed,hd⟩:=p2.pen
   exact⟨ds,by rw[sJ (by lia)];exact ed,hd⟩
  .have:=(N5 hn').2.1
   rw[vb]at this
   lia
 .have hz':(ns.sum==0)=false:=by simpa using hz
  have e3:=QO hq (by lia) i1 (by lia)
  refine⟨IQ ns,S1++[Cl.lst (ns.map D.int)],?_,⟨p1.same.trans .app,pp⟩,⟨by simp[IQ,l1],OD (by lia)⟩,_,(show 0<ns.sum.toNat by lia),by lia,LP i1 (by lia)⟩
  have sq3:=Hw hq
  simp[Dh,Ic,r1,e1,An hq,DV,hz',sq3,e3,shD]
end
section
variable{S:Sto}{p:Nat}
theorem bE:(2:Nat)<F4:=Ee (n:=2) (by decide) (by decide)
inductive Pcs(p j:Nat)(S:Sto):Prop
 |mk (n:Int) (S':Sto) (e:BH [.ref p] S=Fk (.int n,S')) (g:Pn p S S') (a:1<=n) (b:n<2^j)
theorem MR(h:Cu p S):Pcs p 130 S:=by
 obtain⟨r1,S1,e1,a1,b1,p1⟩:=Ak h (n:=99) (by decide) (by decide)
 obtain⟨r2,S2,e2,a2,b2,p2⟩:=Ak p1.pen (n:=4) (by decide) (by decide)
 obtain⟨r3,S3,e3,a3,b3,p3⟩:=Ak p2.pen (n:=40) (by decide) (by decide)
 obtain⟨r4,S4,e4,a4,b4,p4⟩:=Ak p3.pen (n:=999) (by decide) (by decide)
 obtain⟨r5,S5,e5,a5,b5,p5⟩:=Ak p4.pen (n:=7) (by decide) (by decide)
 have pp:=(((p1.trans p2).trans p3).trans p4).trans p5
 have d2:=bE
 have go:∀g:Int,1<=g->g<2^130->∃n:Int,atI [D.int (1+r2),.int (1+r3),.int (1+r4),.int g] (r5 / 2)=Fk (.int n)/\1<=n/\n<2^130:=λg g1 g2=>by
  obtain⟨x,ex,hx⟩:=pick (xs:=[D.int (1+r2),.int (1+r3),.int (1+r4),.int g]) (r:=r5 / 2) (by lia) (by simp;lia)
  simp only[sN,si,uX]at hx
  rcases hx with rfl|rfl|rfl|rfl
  .exact⟨_,ex,by lia,by lia⟩
  .exact⟨_,ex,by lia,by lia⟩
  .exact⟨_,ex,by lia,by lia⟩
  .exact⟨_,ex,g1,g2⟩
 first
  |(obtain⟨n,en,n1,n2⟩:=go (10^39+r1) (by lia) (by lia)
    exact⟨n,S5,by simp[BH,Hf,e1,e2,e3,e4,e5,d2]at en ⊢; simp[en],pp,n1,n2⟩)
  |(obtain⟨n,en,n1,n2⟩:=go (10^30+r1) (by lia) (by lia)
    exact⟨n,S5,by simp[BH,Hf,e1,e2,e3,e4,e5,d2]at en ⊢; simp[en],pp,n1,n2⟩)
theorem Le(h:Cu p S):Pcs p 131 S:=by
 obtain⟨n,S',a,b,c,d⟩:=MR h
 exact⟨n,S',a,b,c,Int.lt_trans d (by decide)⟩
theorem G7{r:Int}(h:0<=r):∃m:Nat,r=m:=⟨r.toNat,by lia⟩
def pL(t:Tr):Prop:=0<=t.h/\t.h<=9/\0<=t.l/\t.l<=9
theorem WA(h:Cu p S):∃t S',Gz [.ref p] S=Fk (Tr.d t,S')/\Pn p S S'/\JB t/\((t.ho.length=t.p/\t.ho.sum=1)/\pL t)/\∃G:Nat,0<G/\G<=32/\∀r∈t.ho,Ok G G r:=by
 obtain⟨r1,S1,e1,a1,b1,p1⟩:=Ak h (n:=4) (by decide) (by decide)
 obtain⟨r2,S2,e2,a2,b2,p2⟩:=Ak p1.pen (n:=5) (by decide) (by decide)
 obtain⟨r3,S3,e3,a3,b3,p3⟩:=Ak p2.pen (n:=3) (by decide) (by decide)
 obtain⟨r4,S4,e4,a4,b4,p4⟩:=Ak p3.pen (n:=20) (by decide) (by decide)
 obtain⟨r5,S5,e5,a5,b5,p5⟩:=Ak p4.pen (n:=2) (by decide) (by decide)
 obtain⟨m1,rfl⟩:=G7 a1
 obtain⟨m2,rfl⟩:=G7 a2
 obtain⟨b,eb,hb1,hb2⟩:∃b:Nat,atI [D.int (1+r3),.int (1+r4)] r5=Fk (.int b)/\1<=b/\b<=20:=by
  obtain⟨x,ex,hx⟩:=pick (xs:=[D.int (1+r3),.int (1+r4)]) (r:=r5) a5 (by simpa using b5)
  obtain⟨m3,rfl⟩:=G7 a3
  obtain⟨m4,rfl⟩:=G7 a4
  simp only[sN,si,uX]at hx
  rcases hx with rfl|rfl
  .exact⟨1+m3,by rw[ex];simp,by lia,by lia⟩
  .exact⟨1+m4,by rw[ex];simp,by lia,by lia⟩
 obtain⟨rs,S6,e6,p6,l6,G,g0,g1,g2⟩:=Qh p5.pen (n:=1+m1) (by lia) (by lia)
 obtain⟨r7,S7,e7,a7,b7,p7⟩:=Ak p6.pen (n:=10) (by decide) (by decide)
 obtain⟨r8,S8,e8,a8,b8,p8⟩:=Ak p7.pen (n:=10) (by decide) (by decide)
 rw[show((1+m1:Nat):Int)=1+(m1:Int) by lia]at e6
 refine⟨⟨1+m1,1+m2,b,rs,r7,r8⟩,S8,?_,((((((p1.trans p2).trans p3).trans p4).trans p5).trans p6).trans p7).trans p8,⟨by simp,by simp;lia,by simp,by simp;lia,hb1,hb2⟩,⟨l6,a7,by show r7<=9;lia,a8,by show r8<=9;lia⟩,G,g0,g1,g2⟩
 simp[Gz,Lq,e1,e2,e3,e4,e5,eb,e6,e7,e8,Tr.d]
inductive Shr(p:Nat)(S:Sto):Prop
 |mk (x:Rat) (S':Sto) (e:FV [.ref p] S=Fk (aD x,S')) (g:Pn p S S') (a:0<x.num) (b:x.num<=x.den) (c:x.den<=12)
theorem Xx(h:Cu p S):Shr p S:=by
 obtain⟨r1,S1,e1,a1,b1,p1⟩:=Ak h (n:=12) (by decide) (by decide)
 obtain⟨r2,S2,e2,a2,b2,p2⟩:=Ak p1.pen (n:=1+r1) (by lia) (by lia)
 have m:=XN (S:=S2) (t:=1+r2) (b:=1+r1) (by lia) (Ee (by lia) (by lia))
 obtain⟨m1,rfl⟩:=G7 a1
 obtain⟨m2,rfl⟩:=G7 a2
 have rp:=Lr (1+(m2:Int)) (1+m1) (by lia)
 have eb:(((1+(m1:Int):Int)):Rat)=(((1+m1:Nat)):Rat):=by
  have:(1+(m1:Int))=((1+m1:Nat):Int):=by lia
  rw[this];rfl
 have en:(1+(m2:Int)).natAbs=1+m2:=by lia
 have gp:0<yf (1+m2) (1+m1):=Nat.gcd_pos_of_pos_left _ (by lia)
 obtain⟨q,hq⟩:=Nat.gcd_dvd_left (1+m2) (1+m1)
 obtain⟨q',hq'⟩:=Nat.gcd_dvd_right (1+m2) (1+m1)
 refine⟨((1+(m2:Int):Int):Rat) / ((1+(m1:Int):Int):Rat),S2,?_,p1.trans p2,?_,?_,?_⟩
 .simp[FV,Lf,e1,e2,m]
 .rw[eb,rp.1,en]
  generalize yf (1+m2) (1+m1)=g at*
  have:(1+(m2:Int))=((g*q:Nat):Int):=by lia
  rw[this,zo,zE _ (by lia)]
  have:q≠0:=λz=>by subst z;lia
  lia
 .rw[eb,rp.1,rp.2,en]
  generalize yf (1+m2) (1+m1)=g at*
  have t1:(1+(m2:Int))=((g*q:Nat):Int):=by lia
  rw[t1,zo,zE _ (by lia),hq',Nat.mul_div_cancel_left _ gp]
  have:q<=q':=by
   have:g*q<=g*q':=by lia
   exact Nat.le_of_mul_le_mul_left this gp
  lia
 .rw[eb,rp.2]
  exact sL (Nat.div_le_self _ _) (by lia)
inductive Wts(p n:Nat)(S:Sto):Prop
 |mk (ws:Gc Int) (S':Sto) (e:Dm [.ref p,.int n] S=Fk (.tup (ws.map .int),S')) (g:Pn p S S') (a:ws.length=n) (b:∀w∈ws,1<=w/\w<=99)
theorem VW (h : Cu p S) {n : Nat} (hn : n ≤ 6) : Wts p n S := by
  obtain ⟨ys, S', e, hI, l, r⟩ := Kg (gs := []) (t := tNm 1) (f := (eOp (o2 Ct) [(eC (.int 1)), (eOp (o2 wIx) [(Eu [(AB AG [(eV 0), (eC (.int 3))]), (AB AG [(eV 0), (eC (.int 99))])]), (AB AG [(eV 0), (eC (.int 2))])])])) (C := [Fk (.ref p)]) (m := 1) (I := Pn p S) (R := fun _ y => ∃ i : Int, y = .int i /\ 1 ≤ i /\ i ≤ 99)
    (fun _ _ => AZ) (ds := Ka 0 n) (acc := []) (os := [none]) rfl (Pn.refl h) (by rw [Fz]; simp; exact AI (by lia)) fun d _ os S0 ho I0 => by
      obtain ⟨o, rfl⟩ := Ke ho
      obtain ⟨r1, S1, e1, a1, b1, p1⟩ := Ak I0.pen (n := 3) (by decide) (by decide)
      obtain ⟨r2, S2, e2, a2, b2, p2⟩ := Ak p1.pen (n := 99) (by decide) (by decide)
      obtain ⟨r3, S3, e3, a3, b3, p3⟩ := Ak p2.pen (n := 2) (by decide) (by decide)
      obtain ⟨x, ex, hx⟩ := pick (xs := [.int r1, .int r2]) (r := r3) a3 (by simpa using b3)
      simp only [sN, si, uX] at hx
      rcases hx with rfl | rfl
      · exact ⟨[Fk d], .int (1 + r1), S3, rfl, by simp, by simp [e1, e2, e3, ex], ((I0.trans p1).trans p2).trans p3, _, rfl, by lia, by lia⟩
      · exact ⟨[Fk d], .int (1 + r2), S3, rfl, by simp, by simp [e1, e2, e3, ex], ((I0.trans p1).trans p2).trans p3, _, rfl, by lia, by lia⟩
  obtain ⟨ns, rfl, hns⟩ := Pg (IH r)
  have r1 : HI (n : Int) = true := Cq (by lia) (by lia)
  have e' : Bo [] (tNm 1) BK (eOp (o2 Ct) [(eC (.int 1)), (eOp (o2 wIx) [(Eu [(AB AG [(eV 0), (eC (.int 3))]), (AB AG [(eV 0), (eC (.int 99))])]), (AB AG [(eV 0), (eC (.int 2))])])]) (Ka 0 n) [] [Fk (.ref p), none] S = Fk (ns.map D.int, S') := by simpa using e
  exact ⟨ns, S', by simp [Dm, KC, r1, e'], hI, by simpa [Fz] using l, hns⟩
def G4(t:Tr)(ls:Gc Ld):Prop:=(∀l∈ls,l.k<t.k/\1<=l.n/\l.n<2^131/\l.ow.length=t.p/\l.ow.sum=1)/\∃G:Nat,0<G/\G<=32^ls.length/\∀l∈ls,∀r∈l.ow,Ok G G r
theorem G4.snoc{t:Tr}{ls:Gc Ld}{l:Ld}(h:G4 t ls)(h1:l.k<t.k/\1<=l.n/\l.n<2^131/\l.ow.length=t.p/\l.ow.sum=1){g:Nat}(g0:0<g)(g1:g<=32)(g2:∀r∈l.ow,Ok g g r):G4 t (ls++[l]):=by
 obtain⟨ha,G,G0,G1,G2⟩:=h
 refine⟨λx hx=>?_,G*g,yP G0 g0,?_,λx hx r hr=>?_⟩
 .rcases sx.mp hx with hx|hx
  .exact ha x hx
  .rw[tJ.mp hx];exact h1
 .rw[uN,zw,ze]
  exact yv G1 g1
 .rcases sx.mp hx with hx|hx
  .exact(G2 x hx r hr).up (sM _)
  .rw[tJ.mp hx]at hr
   have:=(g2 r hr).up (t:=G) (B':=G*g) (by rw[wN];exact sM _)
   rwa [wN g G]at this
end
section
variable{S:Sto}{p:Nat}
theorem G4.nil{t:Tr}:G4 t []:=⟨λl hl=>(nomatch hl),1,by decide,by simp,λl hl=>(nomatch hl)⟩
theorem XO(h:Cu p S){t:Tr}(ht:JB t):∃(ls:Gc Ld) (S':Sto),G3 [.ref p,t.d] S=Fk (.tup (ls.map Ld.d),S')/\Pn p S S'/\G4 t ls/\ls.length<=4:=by
 obtain⟨t1,t2,t3,t4,t5,t6⟩:=ht
 have hlt:=h.lt
 have hq:(S++[Cl.lst []])[S.length]?=Fk (.lst []):=sV
 obtain⟨r1,S1,e1,a1,b1,p1⟩:=Ak (h.app [Cl.lst []]) (n:=5) (by decide) (by decide)
 obtain⟨r2,S2,e2,a2,b2,p2⟩:=Ak p1.pen (n:=3) (by decide) (by decide)
 obtain⟨n,en,hn⟩:∃n:Nat,atI [D.int 0,.int 1,.int r1] r2=Fk (.int n)/\n<=4:=by
  obtain⟨x,ex,hx⟩:=pick (xs:=[D.int 0,.int 1,.int r1]) (r:=r2) a2 (by simpa using b2)
  simp only[sN,si,uX]at hx
  rcases hx with rfl|rfl|rfl
  .exact⟨0,ex,by decide⟩
  .exact⟨1,ex,by decide⟩
  .exact⟨r1.toNat,by rw[ex,uM a1],by lia⟩
 have q2:S2[S.length]?=Fk (.lst []):=(p1.trans p2).get hq (by lia)
 have rn:HI (n:Int)=true:=Cq (by lia) (by lia)
 obtain⟨E',S',ef,ls,o,rfl,f1,f2,f3,f4,f5⟩:=EV (gs:=[]) (t:=tNm 3) (b:=Ac (Fi Fp (eV 2) [B0 [AB AG [eV 0,eOp (o2 wIx) [eV 1,eC (.int 1)]],AB BH [eV 0],AB Dh [eV 0,eOp (o2 wIx) [eV 1,eC (.int 0)]]]]))
  (I:=λds E S'=>∃(ls:Gc Ld) (o:sD D),E=[Fk (.ref p),Fk t.d,Fk (.ref S.length),o]/\S'[S.length]?=Fk (.lst (ls.map Ld.d))/\Cu p S'/\By [p] S S'/\G4 t ls/\ls.length+ds.length<=4)
  (λ_ _ _ _=>AZ) (ds:=Ka 0 n) (E:=[Fk (.ref p),Fk t.d,Fk (.ref S.length),none]) (S:=S2)
  ⟨[],none,rfl,q2,p2.pen,By.app.trans (p1.trans p2).same,G4.nil,by simp[Fz];exact hn⟩ (by
    rintro d ds E S0 ⟨ls,o,rfl,i1,i2,i3,i4,i5⟩
    obtain⟨x1,T1,g1,c1,d1,k1⟩:=Ak i2 (n:=t.k) (by lia) (by lia)
    obtain⟨x2,T2,g2,k2,c2,d2⟩:=Le k1.pen
    obtain⟨rs,T3,g3,k3,l3,G,G0,G1,G2⟩:=Qh k2.pen (n:=t.p) t1 t2
    obtain⟨m1,rfl⟩:=G7 c1
    have kk:=(k1.trans k2).trans k3
    have j1:T3[S.length]?=Fk (.lst (ls.map Ld.d)):=kk.get i1 (by lia)
    have hz:ls.length<sizeLine:=sI (show ls.length<5 by lia) (AI (by decide))
    refine⟨[Fk (.ref p),Fk t.d,Fk (.ref S.length),Fk d],[Fk (.ref p),Fk t.d,Fk (.ref S.length),Fk d],T3.set S.length (.lst ((ls++[Ld.mk m1 x2 rs]).map Ld.d)),by simp,?_,ls++[Ld.mk m1 x2 rs],Fk d,rfl,sX (Ai j1),?_,?_,i4.snoc (l:=Ld.mk m1 x2 rs) ⟨show m1<t.k by lia,c2,d2,l3⟩ G0 G1 G2,by simp at i5 ⊢; lia⟩
    .have e3:atI [D.int t.p,.int t.k,.int t.b,shD t.ho,.int t.h,.int t.l] 1=Fk (.int t.k):=by simp
     simp[Tr.d,g1,g2,g3,AX i1,AX j1,hz,Ld.d]
    .obtain⟨ds',ed,hd⟩:=kk.pen
     exact⟨ds',by rw[sJ (by lia)];exact ed,hd⟩
    .refine⟨sL (i3.trans kk.same).len (by simp),λm hm hmp=>?_⟩
     rw[sJ (by lia)]
     exact(i3.trans kk.same).keep m hm hmp)
 refine⟨ls,S',?_,⟨f3,f2⟩,f4,by simpa using f5⟩
 simp[G3,Ls,e1,e2,en,rn,ef,An f1]
noncomputable def CH(x:Ld):Cl:=.lst [.int x.k,.int x.n,shD x.ow]
structure SAt(S:Sto)(s l m:Nat)(as:Gc Nat)(st:Stt):Prop where
 root:S[s]?=Fk (.lst [.ref l,shD st.hold,.ref m])
 lo:S[l]?=Fk (.lst (as.map .ref))
 nu:S[m]?=Fk (.lst (st.nums.map .int))
 ld:∀(i a:Nat) (x:Ld),as[i]?=Fk a->st.AA[i]?=Fk x->S[a]?=Fk (CH x)
 len:as.length=st.AA.length
 nd:(s::l::m::as).Nodup
theorem Yo:∀{ls:Gc Ld} {acc:Gc D} {o:sD D} {S:Sto},acc.length+ls.length<=100->Bo [] (tNm 0) BK (c8 (o1 Ow) [eV 0]) (ls.map Ld.d) acc [o] S=Fk (acc++(List.range' S.length ls.length).map D.ref,S++ls.map CH)
 | [],acc,o,S,h=>by rw[vB,Ej AZ];simp
 |x::ls,acc,o,S,h=>by
  rw[su,HR (E1:=[Fk x.d]) AZ (sI (show acc.length<101 by simp at h;lia) (AI (by decide))) (by simp) GN]
  have:c8 (o1 Ow) [eV 0] [Fk x.d] S=Fk (.ref S.length,S++[CH x]):=by simp[Ld.d,CH]
  rw[this,Be,Yo (by simp at h ⊢; lia)]
  simp[List.range'_succ]
theorem getElem?_at{α:Type}{xs:Gc α}{x:α}{n:Nat}(h:n=xs.length):(xs++[x])[n]?=Fk x:=by subst h;exact sV
theorem X4{t:Tr}{ls:Gc Ld}{x:D}(hl:ls.length<=20):∃s l m as S',Gs [.tup [t.d,.tup (ls.map Ld.d),x]] S=Fk (.ref s,S')/\SAt S' s l m as ⟨ls,t.ho,[]⟩/\By [] S S'/\(∀n∈s::l::m::as,S.length<=n):=by
 have e:=Yo (ls:=ls) (acc:=[]) (o:=none) (S:=S) (by simp;lia)
 refine⟨S.length+ls.length+2,S.length+ls.length,S.length+ls.length+1,List.range' S.length ls.length,S++ls.map CH++[.lst ((List.range' S.length ls.length).map D.ref)]++[.lst []]++[.lst [.ref (S.length+ls.length),shD t.ho,.ref (S.length+ls.length+1)]],?_,⟨?_,?_,?_,?_,?_,?_⟩,?_,?_⟩
 .simp[Gs,LI,Tr.d,e,shD]
  lia
 .exact getElem?_at (by simp;lia)
 .rw[sH (by simp),sH (by simp)]
  exact getElem?_at (by simp)
 .rw[sH (by simp;lia)]
  exact getElem?_at (by simp;lia)
 .intro i a y ha hy
  have hi:i<ls.length:=(sO.mp hy).1
  have:a=S.length+i:=by
   rw[List.getElem?_range' hi]at ha
   simp at ha;lia
  subst this
  rw[sH (by simp;lia),sH (by simp;lia),sH (by simp;lia),uB (by lia)]
  have hy':ls[i]?=Fk y:=hy
  simp[hy']
 .simp
 .rw[va,va,va]
  refine⟨?_,?_,?_,List.nodup_range'⟩
  .simp only[sN,xy];lia
  .simp only[sN,xy];lia
  .simp only[xy];lia
 .rw[xl,xl,xl]
  exact .app
 .intro n hn
  simp only[sN,xy]at hn
  lia
end
section
variable{S:Sto}{p:Nat}
@[simp] theorem pf{rs:List Rat}{S:Sto}:sqD S (shD rs)=some (rs.map aD,[]):=nr rfl
@[simp] theorem mU{S:Sto}{r:List D}:dr (S++[.lst r]) (.ref S.length)=.own r:=An List.getElem?_concat_length
@[simp] theorem dH{S:Sto}{r:List D}:Et (S++[.lst r]) S.length=some r:=AX List.getElem?_concat_length
theorem set_same{S:Sto}{q:Nat}{c:Cl}(h:S[q]?=Fk c):S.set q c=S:=by
 apply x5
 intro i
 by_cases e:q=i
 .subst e;rw[sX (Ai h),h]
 .rw[sJ e]
theorem P2{gs:Gd}{t:Tf}{b:Ex}{C:En}{m q:Nat}{h:D->D}{I:Sto->Prop}(hg:∀S,I S->gOk gs S)(hI:∀S c,I S->I (S.set q c)):∀{ds acc:Gc D} {os:En} {S:Sto},os.length=m->I S->S[q]?=Fk (.lst acc)->acc.length+ds.length<=1000->(∀d∈ds,∀os S acc,os.length=m->I S->S[q]?=Fk (.lst acc)->acc.length<sizeLine->∃us us',t d (C++os) S=Fk (C++us)/\b (C++us) S=Fk (.nx,C++us',S.set q (.lst (acc++[h d])))/\us'.length=m)->∃os',os'.length=m/\Lx gs t b ds (C++os) S=Fk (.nx,C++os',S.set q (.lst (acc++ds.map h)))
 | [],acc,os,S,ho,hS,hq,hz,H=>⟨os,ho,by
     rw[Ko (hg S hS)]
     have:S.set q (.lst (acc++List.map h []))=S:=by
      rw[vB,vJ]
      exact set_same hq
     rw[this]⟩
 |d::ds,acc,os,S,ho,hS,hq,hz,H=>by
  have hl:=Ai hq
  obtain⟨us,us',e1,e2,hu⟩:=H d sZ os S acc ho hS hq (sI (show acc.length<1001 by simp at hz;lia) (sL (by decide) (show 1001<=sizeLine by decide)))
  obtain⟨os',ho',e3⟩:=P2 hg hI (ds:=ds) (acc:=acc++[h d]) (os:=us') (S:=S.set q (.lst (acc++[h d]))) hu (hI S _ hS) (sX hl) (by simp at hz ⊢; lia) λd' hd=>H d' (sQ _ hd)
  refine⟨os',ho',?_⟩
  rw[FD (hg S hS),e1,Be,e2,Be,U1,e3,List.set_set]
  simp
noncomputable def un:D->Rat
 | .tup [.int n,.int d]=>(n:Rat) / (d:Rat)
 |_=>0
theorem Zc(r:Rat):un (aD r)=r:=D7 r
noncomputable def Pj(f:Rat->Rat->Rat):D->D
 | .tup [a,b]=>aD (f (un a) (un b))
 |d=>d
theorem NW{f:Rat->Rat->Rat}:∀{ss os:Gc Rat},(Ly (ss.map aD) (os.map aD)).map (Pj f)=(xw f ss os).map aD
 | [],os=>by simp[Ly]
 |s::ss,[]=>by simp[Ly]
 |s::ss,o::os=>by
  have ih:=NW (f:=f) (ss:=ss) (os:=os)
  unfold Ly at ih⊢
  simp only[su,ym,zf]at ih⊢
  rw[ih]
  simp[Pj,Zc]
theorem Uz{ss os:Gc Rat}{d:D}(h:d∈Ly (ss.map aD) (os.map aD)):∃s∈ss,∃o∈os,d=.tup [aD s,aD o]:=by
 unfold Ly at h
 obtain⟨⟨a,b⟩,h1,rfl⟩:=uG.mp h
 have h2:=vK h1
 obtain⟨s,hs,rfl⟩:=uG.mp h2.1
 obtain⟨o,ho,rfl⟩:=uG.mp h2.2
 exact⟨s,hs,o,ho,rfl⟩
theorem dS:aD 1=.tup [.int 1,.int 1]:=rfl
theorem Yj(n:Int):aD (n:Rat)=.tup [.int n,.int 1]:=by
 unfold aD
 simp
theorem Yf{n:Int}{k:Nat}(h:n.natAbs<2^k)(hk:1<=k):Sz k (n:Rat):=by
 unfold Sz
 have:1<2^k:=yw (by lia)
 simp[h,this]
theorem Yz{k:Nat}(hk:1<=k):Sz k (1:Rat):=by
 have:1<2^k:=yw (by lia)
 exact⟨by simpa using this,by simpa using this⟩
theorem QU{x:Rat}{ss os:Gc Rat}{j i:Nat}(hs:∀r∈ss,Sz j r)(ho:∀r∈os,Sz j r)(hx:Sz i x)(hj:2*j+2*i<=7900)(hl:ss.length<=10):∃S',EK [shD ss,aD x,shD os] S=Fk (shD (GJ x os ss),S')/\By [] S S':=by
 have hq:(S++[Cl.lst []])[S.length]?=Fk (.lst []):=sV
 obtain⟨os',ho',e⟩:=P2 (gs:=[]) (t:=tTp [tNm 4,tNm 5]) (b:=Ac (Fi Fp (eV 3) [AB CK [AB Ax [eV 4,AB Dw [B0 [eC (.int 1),eC (.int 1)],eV 1]],AB Ax [eV 5,eV 1]]])) (C:=[Fk (shD ss),Fk (aD x),Fk (shD os),Fk (.ref S.length)]) (m:=2) (q:=S.length) (h:=Pj λs o=>s*(1-x)+o*x) (I:=λ_=>y8) (λ_ _=>AZ) (λ_ _ _=>trivial)
  (ds:=Ly (ss.map aD) (os.map aD)) (acc:=[]) (os:=[none,none]) (S:=S++[Cl.lst []]) rfl trivial hq (by simp[Kk];lia) (by
    intro d hd os0 S0 acc h0 _ hq0 hz
    obtain⟨o1,o2,rfl⟩:=Ye h0
    obtain⟨s,hs',o,ho',rfl⟩:=Uz hd
    have l1:=Yi (S:=S0) (Yz (k:=1) (by decide)) hx (by lia)
    have s1:=(eF (Yz (k:=1) (by decide)) hx)
    have l2:=Ju (S:=S0) (hs s hs') s1 (by lia)
    have l3:=Ju (S:=S0) (ho o ho') hx (by lia)
    have l4:=Qt (S:=S0) (MN (hs s hs') s1) (MN (ho o ho') hx) (by lia)
    rw[dS]at l1
    refine⟨[Fk (aD s),Fk (aD o)],[Fk (aD s),Fk (aD o)],by simp,?_,rfl⟩
    simp[l1,l2,l3,l4,AX hq0,hz,Pj,Zc])
 rw[NW]at e
 refine⟨(S++[Cl.lst []]).set S.length (.lst ((GJ x os ss).map aD)),?_,?_⟩
 .have e':Lx [] (tTp [tNm 4,tNm 5]) (Ac (Fi Fp (eV 3) [AB CK [AB Ax [eV 4,AB Dw [B0 [eC (.int 1),eC (.int 1)],eV 1]],AB Ax [eV 5,eV 1]]])) (Ly (ss.map aD) (os.map aD)) [Fk (shD ss),Fk (aD x),Fk (shD os),Fk (.ref S.length),none,none] (S++[Cl.lst []])=Fk (.nx,[Fk (shD ss),Fk (aD x),Fk (shD os),Fk (.ref S.length)]++os',(S++[Cl.lst []]).set S.length (.lst ((GJ x os ss).map aD))):=by simpa[GJ]using e
  simp[EK,LU,e']
  rfl
 .refine⟨by simp,λn hn _=>?_⟩
  rw[sJ (by lia),sH hn]
end
section
variable{S:Sto}{p:Nat}
theorem getD_get{α:Type}{xs:Gc α}{n:Nat}{d:α}(h:n<xs.length):xs[n]?=Fk (xs.getD n d):=by
 rw[sG,sA h]
 rfl
theorem getD_mem{α:Type}{xs:Gc α}{n:Nat}{d:α}(h:n<xs.length):xs.getD n d∈xs:=se (getD_get h)
theorem Ta{ss:Gc Rat}{n:Nat}(h:n<ss.length):atI (ss.map aD) (n:Int)=Fk (aD (ss.getD n 0)):=Bq (by rw[sP,getD_get h];rfl)
theorem Yx{ss:Gc Rat}{n:Nat}(h:n<ss.length):ixN (ss.map aD).length (n:Int)=Fk n:=K2 (by simpa using h)
theorem Ug{p q:Nat}{x:Rat}{ss:Gc Rat}{j i:Nat}(hs:∀r∈ss,Sz j r)(hx:Sz i x)(hj:2*j+i<=7900)(hp:p<ss.length)(hq:q<ss.length)(hpq:p≠q):∃S',FF [shD ss,(AK.Gq p q x).d] S=Fk (shD (Fo p q x ss),S')/\By [] S S':=by
 have sp:=hs _ (getD_mem (d:=0) hp)
 have sq:=hs _ (getD_mem (d:=0) hq)
 have l1:∀S,Ax [aD (ss.getD p 0),aD x] S=Fk (aD (ss.getD p 0*x),S):=λS=>Ju sp hx (by lia)
 have s1:=MN sp hx
 have l2:∀S,Dw [aD (ss.getD p 0),aD (ss.getD p 0*x)] S=Fk (aD (ss.getD p 0-ss.getD p 0*x),S):=λS=>Yi sp s1 (by lia)
 have l3:∀S,CK [aD (ss.getD q 0),aD (ss.getD p 0*x)] S=Fk (aD (ss.getD q 0+ss.getD p 0*x),S):=λS=>Qt sq s1 (by lia)
 have a1:=Ta hp
 have i1:=Yx hp
 have i2:ixN (((ss.map aD).set p (aD (ss.getD p 0-ss.getD p 0*x))).length) (q:Int)=Fk q:=K2 (by simpa using hq)
 have a2:atI ((ss.map aD).set p (aD (ss.getD p 0-ss.getD p 0*x))) (q:Int)=Fk (aD (ss.getD q 0)):=Bq (by
  rw[sJ hpq,sP,getD_get hq];rfl)
 refine⟨S++[.lst ((Fo p q x ss).map aD)],?_,.app⟩
 simp only[vb,tq]at i1 i2
 have em:(Fo p q x ss).map aD=((ss.map aD).set p (aD (ss.getD p 0-ss.getD p 0*x))).set q (aD (ss.getD q 0+ss.getD p 0*x)):=by rw[Fo,vf,vf]
 unfold shD
 rw[em]
 generalize aD (ss.getD p 0-ss.getD p 0*x)=d1 at*
 generalize aD (ss.getD q 0+ss.getD p 0*x)=d2 at*
 generalize aD (ss.getD p 0*x)=d3 at*
 generalize aD (ss.getD p 0)=d4 at*
 generalize aD (ss.getD q 0)=d5 at*
 simp[FF,MU,AK.d,a1,l1,l2,l3,i1,i2,a2]
theorem WB{x y:Ld}{a b:Nat}{j i:Nat}(ha:S[a]?=Fk (CH x))(hb:S[b]?=Fk (CH y))(hs:∀r∈x.ow,Sz j r)(ho:∀r∈y.ow,Sz j r)(hx:x.n.natAbs<2^i)(hy:y.n.natAbs<2^i)(h0:0<x.n+y.n)(h1:1<=i)(hj:2*j+4*i<=7900)(hl:x.ow.length<=10):∃S',Fw [.ref a,.ref b] S=Fk (shD (Bt x.n y.n x.ow y.ow),S')/\By [] S S':=by
 have la:=Ai ha
 have lb:=Ai hb
 have hq:(S++[Cl.lst []])[S.length]?=Fk (.lst []):=sV
 have ha':(S++[Cl.lst []])[a]?=Fk (CH x):=by rw[sH la];exact ha
 have hb':(S++[Cl.lst []])[b]?=Fk (CH y):=by rw[sH lb];exact hb
 obtain⟨os',ho',e⟩:=P2 (gs:=[]) (t:=tTp [tNm 3,tNm 4]) (b:=AR (A8 5 (AB CK [AB Ax [B0 [eOp (o2 wIx) [eV 0,eC (.int 1)],eC (.int 1)],eV 3],AB Ax [B0 [eOp (o2 wIx) [eV 1,eC (.int 1)],eC (.int 1)],eV 4]]))
  (Ac (Fi Fp (eV 2) [AB Ax [eV 5,AB Bl [eC (.int 1),eOp (o2 Ct) [eOp (o2 wIx) [eV 0,eC (.int 1)],eOp (o2 wIx) [eV 1,eC (.int 1)]]]]]))) (C:=[Fk (.ref a),Fk (.ref b),Fk (.ref S.length)]) (m:=3) (q:=S.length) (h:=Pj λs o=>(s*x.n+o*y.n) / (x.n+y.n:Int)) (I:=λS'=>S'[a]?=Fk (CH x)/\S'[b]?=Fk (CH y)) (λ_ _=>AZ) (λS' c h=>⟨by rw[sJ (by lia)];exact h.1,by rw[sJ (by lia)];exact h.2⟩)
  (ds:=Ly (x.ow.map aD) (y.ow.map aD)) (acc:=[]) (os:=[none,none,none]) (S:=S++[Cl.lst []]) rfl ⟨ha',hb'⟩ hq (by simp[Kk];lia) (by
    intro d hd os0 S0 acc h0' hI hq0 hz
    obtain⟨o1,o2,o3,rfl⟩:=jL h0'
    obtain⟨s,hs',o,ho',rfl⟩:=Uz hd
    have d1:=An hI.1
    have d2:=An hI.2
    have z1:=Yf hx h1
    have z2:=Yf hy h1
    have l1:=Ju (S:=S0) z1 (hs s hs') (by lia)
    have l2:=Ju (S:=S0) z2 (ho o ho') (by lia)
    have s1:=MN z1 (hs s hs')
    have s2:=MN z2 (ho o ho')
    have l3:=Qt (S:=S0) s1 s2 (by lia)
    have b1:=IA hx hy
    have l4:=XN (S:=S0) (t:=1) h0 (DR b1 (by lia))
    have s4:Sz (i+1) (((1:Int):Rat) / ((x.n+y.n:Int):Rat)):=MP h0 (show(1:Int).natAbs<2^(i+1)from yw (by lia)) b1
    have l5:=Ju (S:=S0) (dY s1 s2) s4 (by lia)
    rw[Yj]at l1 l2
    refine⟨[Fk (aD s),Fk (aD o),o3],[Fk (aD s),Fk (aD o),Fk (aD (x.n*s+y.n*o))],by simp,?_,rfl⟩
    have ev:(((x.n:Rat)*s+(y.n:Rat)*o)*(((1:Int):Rat) / ((x.n+y.n:Int):Rat)))=(s*x.n+o*y.n) / (x.n+y.n:Int):=by
     push_cast
     grind
    rw[ev]at l5
    have lf:(Pj λs o=>(s*x.n+o*y.n) / (x.n+y.n:Int)) (.tup [aD s,aD o])=aD ((s*x.n+o*y.n) / (x.n+y.n:Int)):=by simp only[Pj,Zc]
    rw[lf]
    generalize aD ((s*x.n+o*y.n) / (x.n+y.n:Int))=e5 at*
    generalize aD (((1:Int):Rat) / ((x.n+y.n:Int):Rat))=e4 at*
    generalize aD (x.n*s+y.n*o)=e3 at*
    simp[d1,d2,CH,l1,l2,l3,l4,l5,AX hq0,hz])
 rw[NW]at e
 refine⟨(S++[Cl.lst []]).set S.length (.lst ((Bt x.n y.n x.ow y.ow).map aD)),?_,?_⟩
 .have e':=e
  simp only[tU,tF]at e'
  have d1:=An ha'
  have d2:=An hb'
  change Lx _ _ _ _ _ _=Fk (_,_,List.set _ _ (Cl.lst (List.map aD (Bt x.n y.n x.ow y.ow))))at e'
  generalize Bt x.n y.n x.ow y.ow=rs at*
  simp[Fw,KO,d1,d2,e',shD]
 .refine⟨by simp,λn hn _=>?_⟩
  rw[sJ (by lia),sH hn]
end
section
variable{S:Sto}{p:Nat}
theorem Bw{α:Type}{gs:Gd}{t:Tf}{f:Ev}{C:En}{m:Nat}{e g:α->D}{S:Sto}(hg:gOk gs S):∀{xs:Gc α} {acc:Gc D} {os:En},os.length=m->acc.length+xs.length<=sizeLine->(∀x∈xs,∀os,os.length=m->∃us,us.length=m/\t (e x) (C++os) S=Fk (C++us)/\f (C++us) S=Fk (g x,S))->Bo gs t BK f (xs.map e) acc (C++os) S=Fk (acc++xs.map g,S)
 | [],acc,os,ho,hz,h=>by rw[vB,Ej hg];simp
 |x::xs,acc,os,ho,hz,h=>by
  obtain⟨us,hu,e1,e2⟩:=h x sZ os ho
  rw[su,HR hg (by simp at hz;lia) e1 GN,e2,Be]
  rw[Bw hg hu (by simp at hz ⊢; lia) λx' hx=>h x' (sQ _ hx)]
  simp
theorem CA{α:Type}{gs:Gd}{t:Tf}{c f:Ev}{C:En}{m:Nat}{e g:α->D}{b:α->tV}{S:Sto}(hg:gOk gs S):∀{xs:Gc α} {acc:Gc D} {os:En},os.length=m->acc.length+xs.length<=sizeLine->(∀x∈xs,∀os,os.length=m->∃us,us.length=m/\t (e x) (C++os) S=Fk (C++us)/\c (C++us) S=Fk (.bl (b x),S)/\f (C++us) S=Fk (g x,S))->Bo gs t c f (xs.map e) acc (C++os) S=Fk (acc++(xs.filter b).map g,S)
 | [],acc,os,ho,hz,h=>by rw[vB,Ej hg];simp
 |x::xs,acc,os,ho,hz,h=>by
  obtain⟨us,hu,e1,e2,e3⟩:=h x sZ os ho
  cases hb:b x with
  |true=>
   rw[hb]at e2
   rw[su,HR hg (by simp at hz;lia) e1 e2,e3,Be,CA hg hu (by simp at hz ⊢; lia) λd' hd=>h d' (sQ _ hd)]
   simp[hb]
  |false=>
   rw[hb]at e2
   rw[su,Io hg (by simp at hz;lia) e1 e2,CA hg hu (by simp at hz ⊢; lia) λd' hd=>h d' (sQ _ hd)]
   simp[hb]
theorem Xi{as:Gc Nat}{ls:Gc Ld}(h:as.length=ls.length):as.map D.ref=(as.zip ls).map λz=>D.ref z.1:=by
 have:as=(as.zip ls).map Prod.fst:=(List.map_fst_zip (by lia)).symm
 conv=>lhs;rw[this]
 rw[tW];rfl
theorem Zd{β:Type}{as:Gc Nat}{ls:Gc Ld}(h:as.length=ls.length)(g:Ld->β):ls.map g=(as.zip ls).map λz=>g z.2:=by
 have:ls=(as.zip ls).map Prod.snd:=(List.map_snd_zip (by lia)).symm
 conv=>lhs;rw[this]
 rw[tW];rfl
section
variable{s l m:Nat}{as:Gc Nat}{st:Stt}
theorem SAt.qJ(h:SAt S s l m as st){z:Nat×Ld}(hz:z∈as.zip st.AA):S[z.1]?=Fk (CH z.2):=by
 obtain⟨i,hi⟩:=vt.mp hz
 have:=xC.mp hi
 exact h.ld i z.1 z.2 this.1 this.2
theorem SAt.at(h:SAt S s l m as st){i:Nat}(hi:i<st.AA.length):∃a,as[i]?=Fk a/\S[a]?=Fk (CH (AJ st.AA i))/\atI (as.map D.ref) (i:Int)=Fk (.ref a):=by
 have h1:i<as.length:=by rw[h.len];exact hi
 refine⟨as[i],sA h1,h.ld i _ _ (sA h1) (Cp hi),Bq (by rw[sP,sA h1];rfl)⟩
theorem SAt.guard(h:SAt S s l m as st):gOk [(l,as.map D.ref)] S:=by
 intro g hg
 simp only[sN,si,uX]at hg
 subst hg
 exact AX h.lo
end
theorem Tv{M:Int}(hM:0<=M):∀{xs:Gc Int},(∀x∈xs,0<=x/\x<=M)->0<=xs.sum/\xs.sum<=xs.length*M
 | [],_=>by simp
 |x::xs,h=>by
  have h1:=h x sZ
  have h2:=Tv hM λy hy=>h y (sQ _ hy)
  simp only[uS,tY]
  refine⟨by lia,?_⟩
  have:((xs.length+1:Nat):Int)*M=xs.length*M+M:=by push_cast;grind
  lia
theorem Mq:∀{xs:Gc Int} {y:Int},(∀x∈xs,0<=x)->y∈xs->y<=xs.sum
 |x::xs,y,h,hy=>by
  have h1:=h x sZ
  have h2:0<=xs.sum:=by
   clear hy
   induction xs with
   |nil=>simp
   |cons z zs ih=>
    have:=h z (by simp)
    have:=ih λw hw=>h w (by simp at hw ⊢; rcases hw with hw|hw<;>simp[hw])
    simp only[uS];lia
  simp only[uS]
  rcases sN.mp hy with e|e
  .lia
  .have:=Mq (λz hz=>h z (sQ _ hz)) e
   lia
section
variable{t:Tr}{k:Nat}{st:Stt}{ws:Gc Int}{n:Int}{l:Nat}
theorem LJ{i:Nat}(hw:∀w∈ws,1<=w/\w<=99)(hi:i<ws.length):1<=ws.getD i 0/\ws.getD i 0<=99:=hw _ (getD_mem hi)
theorem QW{i:Nat}(hi:i<ws.length):atI (ws.map D.int) (i:Int)=Fk (.int (ws.getD i 0)):=Bq (by rw[sP,getD_get hi];rfl)
theorem Mu(hi:ws.length=k+1):atI (ws.map D.int) (-1:Int)=Fk (.int (ws.getD k 0)):=by
 have ix:ixN (ws.map D.int).length (-1)=Fk k:=by
  rw[tq,hi]
  unfold ixN
  simp
  lia
 unfold atI
 rw[ix]
 show(ws.map D.int)[k]?=_
 rw[sP,getD_get (d:=(0:Int)) (by lia)]
 rfl
theorem JT(ht:JB t)(h:DP t k st)(hk:k<=20)(hl:ws.length=t.k+1)(hw:∀w∈ws,1<=w/\w<=99):0<EI t st.AA ws/\EI t st.AA ws<2^(145+k):=by
 obtain⟨t1,t2,t3,t4,t5,t6⟩:=ht
 have hP:(0:Int)<=2^(131+k):=Int.le_of_lt (Int.pow_pos (by decide))
 have hs:=Tv (M:=2^(131+k)*99) (by lia) (xs:=st.AA.map λl=>l.n*ws.getD l.k 0) (by
  intro x hx
  obtain⟨y,hy,rfl⟩:=uG.mp hx
  have h1:=h.pcs y hy
  have h2:=LJ hw (i:=y.k) (by have:=h.kind y hy;lia)
  refine⟨Int.mul_nonneg h1.1 (by lia),Int.mul_le_mul (by lia) h2.2 (by lia) hP⟩)
 have hb:=LJ hw (i:=t.k) (by lia)
 have hlen:=h.len
 rw[tq]at hs
 have h3:(st.AA.length:Int)*(2^(131+k)*99)<=24*(2^(131+k)*99):=yJ (by lia) (by lia)
 have h4:(1:Int)<=t.b*ws.getD t.k 0:=by
  have:0<(t.b:Int)*ws.getD t.k 0:=ue (by lia) (by lia)
  lia
 have h5:t.b*ws.getD t.k 0<=20*99:=Int.mul_le_mul (by lia) hb.2 (by lia) (by decide)
 have h6:(2:Int)^(145+k)=2^(131+k)*16384:=by rw[show 145+k=(131+k)+14 by lia,Int.pow_add];rfl
 have h7:(1:Int)<=2^(131+k):=by have:(0:Int)<2^(131+k):=Int.pow_pos (by decide);lia
 have h7':(2:Int)^11<=2^(131+k):=by
  have:(2^11:Nat)<=2^(131+k):=uC (by decide) (by lia)
  exact_mod_cast this
 unfold EI
 rw[h6]
 generalize (2:Int)^(131+k)=P at*
 lia
theorem UP(ht:JB t)(h:DP t k st)(hl:ws.length=t.k+1)(hw:∀w∈ws,1<=w/\w<=99)(hi:l<st.AA.length)(h1:1<=n)(h2:n<=(AJ st.AA l).n):0<n*ws.getD (AJ st.AA l).k 0/\n*ws.getD (AJ st.AA l).k 0<EI t st.AA ws:=by
 obtain⟨t1,t2,t3,t4,t5,t6⟩:=ht
 have hw1:=LJ hw (i:=(AJ st.AA l).k) (by have:=h.kind _ (AW hi);lia)
 have hb:=LJ hw (i:=t.k) (by lia)
 have h4:(1:Int)<=t.b*ws.getD t.k 0:=by
  have:0<(t.b:Int)*ws.getD t.k 0:=ue (by lia) (by lia)
  lia
 have h5:=Mq (xs:=st.AA.map λl=>l.n*ws.getD l.k 0) (y:=(AJ st.AA l).n*ws.getD (AJ st.AA l).k 0) (by
  intro x hx
  obtain⟨y,hy,rfl⟩:=uG.mp hx
  have h1:=h.pcs y hy
  have h2:=LJ hw (i:=y.k) (by have:=h.kind y hy;lia)
  exact Int.mul_nonneg h1.1 (by lia)) (uG.mpr ⟨_,AW hi,rfl⟩)
 have h6:n*ws.getD (AJ st.AA l).k 0<=(AJ st.AA l).n*ws.getD (AJ st.AA l).k 0:=yJ h2 (by lia)
 refine⟨ue (by lia) (by lia),?_⟩
 unfold EI
 lia
theorem Kf(hi:l<st.AA.length):Ip t st.AA l n ws=((n*ws.getD (AJ st.AA l).k 0:Int):Rat) / (EI t st.AA ws:Rat):=by
 unfold Ip
 rw[Cp hi]
 rfl
theorem EH{x:Int}{j:Nat}(h0:0<=x)(h1:x<2^j):x.natAbs<2^j:=by
 have:((x.natAbs:Nat):Int)<((2^j:Nat):Int):=by
  rw[Int.natAbs_of_nonneg h0];push_cast;exact h1
 exact_mod_cast this
theorem US(ht:JB t)(h:DP t k st)(hk:k<=20)(hl:ws.length=t.k+1)(hw:∀w∈ws,1<=w/\w<=99)(hi:l<st.AA.length)(h1:1<=n)(h2:n<=(AJ st.AA l).n):Sz (145+k) (Ip t st.AA l n ws):=by
 have a:=JT ht h hk hl hw
 have b:=UP ht h hl hw hi h1 h2
 rw[Kf hi]
 exact MP a.1 (EH (by lia) (by lia)) (EH (by lia) a.2)
theorem cR{s r m:Nat}{as:Gc Nat}(hS:SAt S s r m as st)(ht:JB t)(h:DP t k st)(hk:k<=20)(hl:ws.length=t.k+1)(hw:∀w∈ws,1<=w/\w<=99)(hi:l<st.AA.length)(h1:1<=n)(h2:n<=(AJ st.AA l).n):IC [t.d,.ref r,(AK.thr l n ws).d] S=Fk (aD (Ip t st.AA l n ws),S):=by
 have a:=JT ht h hk hl hw
 obtain⟨x,x1,x2,x3⟩:=hS.at hi
 have hlen:=h.len
 have e:=Bw (gs:=[(r,as.map D.ref)]) (t:=tTp [tNm 1,tNm 2,tNm 3]) (f:=eOp (o2 Bx) [eV 2,eOp (o2 wIx) [eV 0,eV 1]]) (C:=[Fk (.tup (ws.map D.int))]) (m:=3) (e:=λz:Nat×Ld=>D.ref z.1) (g:=λz=>D.int (z.2.n*ws.getD z.2.k 0)) hS.guard (xs:=as.zip st.AA) (acc:=[]) (os:=[none,none,none]) rfl (sL (show _<=24 by simp;lia) (AI (by decide))) (by
  intro z hz os ho
  obtain⟨q1,q2,q3,rfl⟩:=jL ho
  have c1:=hS.qJ hz
  have hm:z.2∈st.AA:=(vK (a:=z.1) (b:=z.2) hz).2
  have hk:=h.kind _ hm
  have w1:=QW (ws:=ws) (i:=z.2.k) (by lia)
  have w2:=LJ hw (i:=z.2.k) (by lia)
  have m1:Dz z.2.n (ws.getD z.2.k 0)=true:=mulR (by lia) (by lia)
  generalize ws.getD z.2.k 0=wz at*
  refine⟨[Fk (.int z.2.k),Fk (.int z.2.n),Fk (shD z.2.ow)],rfl,?_,?_⟩
  .simp[AX c1,CH]
  .simp[w1,m1])
 rw[<-Xi hS.len,<-Zd hS.len (λx=>D.int (x.n*ws.getD x.k 0))]at e
 have e':=e
 simp only[tU,tF]at e'
 rw[Kf hi]
 have es:IJ (st.AA.map λx=>D.int (x.n*ws.getD x.k 0))=Fk (st.AA.map λx=>x.n*ws.getD x.k 0):=by
  have:=DV (st.AA.map λx=>x.n*ws.getD x.k 0)
  rwa [tW]at this
 have w1:=QW (ws:=ws) (i:=(AJ st.AA l).k) (by have:=h.kind _ (AW hi);lia)
 have w3:=LJ hw (i:=(AJ st.AA l).k) (by have:=h.kind _ (AW hi);lia)
 have w2:=Mu hl
 have w4:=LJ hw (i:=t.k) (by lia)
 have m1:Dz n (ws.getD (AJ st.AA l).k 0)=true:=mulR (by lia) (by lia)
 have m2:Dz (t.b:Int) (ws.getD t.k 0)=true:=mulR (by lia) (by lia)
 have l1:=XN (S:=S) (t:=n*ws.getD (AJ st.AA l).k 0) a.1 (DR (EH (by lia) a.2) (by lia))
 have e2:EI t st.AA ws=(st.AA.map λx=>x.n*ws.getD x.k 0).sum+t.b*ws.getD t.k 0:=rfl
 rw[e2]at l1⊢
 generalize aD (((n*ws.getD (AJ st.AA l).k 0:Int):Rat) / (((st.AA.map λx=>x.n*ws.getD x.k 0).sum+t.b*ws.getD t.k 0:Int):Rat))=R at*
 generalize (st.AA.map λx=>x.n*ws.getD x.k 0)=es' at*
 generalize (st.AA.map λx=>D.int (x.n*ws.getD x.k 0))=es2 at*
 generalize ws.getD (AJ st.AA l).k 0=wa at*
 generalize ws.getD t.k 0=wb at*
 have dx:=An x2
 have dl:=An hS.lo
 simp[IC,MZ,AK.d,Tr.d,Hw hS.lo,e',es,w2,m2,dl,x3,dx,CH,w1,m1,l1]
theorem VX{G B:Nat}(ht:JB t)(h:DP t k st)(hk:k<=20)(hl:ws.length=t.k+1)(hw:∀w∈ws,1<=w/\w<=99)(hi:l<st.AA.length)(h1:1<=n)(h2:n<=(AJ st.AA l).n){os ss:Gc Rat}(ho:∀r∈os,Ok G B r)(hs:∀r∈ss,Ok G B r):∀r∈GJ (Ip t st.AA l n ws) os ss,Ok (G*(EI t st.AA ws).toNat) (B*(EI t st.AA ws).toNat) r:=by
 have a:=JT ht h hk hl hw
 have b:=UP ht h hl hw hi h1 h2
 intro r hr
 unfold GJ at hr
 rw[vt]at hr
 obtain⟨i,hi'⟩:=hr
 rw[yQ]at hi'
 obtain⟨x,y,hx,hy,rfl⟩:=hi'
 rw[Kf hi]
 generalize n*ws.getD (AJ st.AA l).k 0=c at*
 generalize EI t st.AA ws=W at*
 have:=Ok.mix (a:=(W-c).toNat) (b:=c.toNat) (t:=W.toNat) (hs x (se hx)) (ho y (se hy)) (by lia) (by lia)
 have e1:(((W-c).toNat:Nat):Rat)=(W:Rat)-(c:Rat):=by
  have:(((W-c).toNat:Nat):Int)=W-c:=uM (by lia)
  have:((((W-c).toNat:Nat):Int):Rat)=((W-c:Int):Rat):=by rw[this]
  push_cast at this
  exact this
 have e2:((c.toNat:Nat):Rat)=(c:Rat):=by
  have:((c.toNat:Nat):Int)=c:=uM (by lia)
  have:(((c.toNat:Nat):Int):Rat)=(c:Rat):=by rw[this]
  exact this
 have e3:((W.toNat:Nat):Rat)=(W:Rat):=by
  have:((W.toNat:Nat):Int)=W:=uM (by lia)
  have:(((W.toNat:Nat):Int):Rat)=(W:Rat):=by rw[this]
  exact this
 rw[e1,e2,e3]at this
 have ne:(W:Rat)≠0:=by
  intro z
  have:=vY.mp z
  lia
 have ev:(x*((W:Rat)-(c:Rat))+y*(c:Rat)) / (W:Rat)=x*(1-(c:Rat) / (W:Rat))+y*((c:Rat) / (W:Rat)):=by grind
 rw[ev]at this
 exact this
end
end
section
variable{S:Sto}
theorem VB{x y:Str}(h:vP x=true)(g:vP y=true):PV (.str x) (.str y)=true:=by
 unfold PV
 show(vP x && vP y && _)=true
 rw[h,g]
 rfl
theorem aL(c:Char):c.toNat<1114112:=by
 have h:c.toNat.isValidChar:=c.valid
 rcases h with h|h
 .exact Nat.lt_trans h (by decide)
 .exact h.2
theorem NK{x:ug}:vP (ur x)=true:=by
 unfold vP ur
 simp
 intro c hc
 rw[cpsOfBytes_string]at hc
 obtain⟨ch,_,rfl⟩:=uG.mp hc
 exact aL ch
theorem Oh:∀{a b:Gc Char},a.map Char.toNat=b.map Char.toNat->a=b
 | [],[],_=>rfl
 |x::a,y::b,h=>by
  rw[su,su]at h
  injection h with h1 h2
  rw[Char.toNat_inj.mp h1,Oh h2]
 | [],_::_,h=>nomatch h
 |_::_,[],h=>nomatch h
theorem cU{x y:ug}(h:ur x=ur y):x=y:=by
 rw[zg,zg]at h
 injection h with h
 exact String.toList_inj.mp (Oh (by simpa using h))
@[simp] theorem rK(x y:String):PV (.str (Str.ofString x)) (.str (Str.ofString y))=true:=VB NK NK
@[simp] theorem rm(x y:String):deq (.str (Str.ofString x)) (.str (Str.ofString y))=decide (x=y):=by
  show(ur x==ur y)=_
  rw[yX,vc,um]
  exact⟨cU,λz=>by rw[z]⟩
@[simp] theorem Y1:wIn false (.val (.str "bring")) (.val (.tup [.str "swap",.str "trade"]))=some (.val (.bl false)):=nr rfl
@[simp] theorem Xr:wIn false (.val (.str "bring")) (.val (.tup [.str "spoil",.str "throw"]))=some (.val (.bl false)):=nr rfl
@[simp] theorem mC:wIn false (.val (.str "bring")) (.val BX)=some (.val (.bl true)):=nr rfl
@[simp] theorem Z1:wIn false (.val (.str "pool")) (.val (.tup [.str "swap",.str "trade"]))=some (.val (.bl false)):=nr rfl
@[simp] theorem oy:wIn false (.val (.str "pool")) (.val BX)=some (.val (.bl true)):=nr rfl
@[simp] theorem aA:wIn false (.val (.str "swap")) (.val (.tup [.str "swap",.str "trade"]))=some (.val (.bl true)):=nr rfl
@[simp] theorem oX:wIn false (.val (.str "swap")) (.val BX)=some (.val (.bl true)):=nr rfl
@[simp] theorem Y4:wIn false (.val (.str "trade")) (.val (.tup [.str "swap",.str "trade"]))=some (.val (.bl true)):=nr rfl
@[simp] theorem lB:wIn false (.val (.str "trade")) (.val BX)=some (.val (.bl true)):=nr rfl
@[simp] theorem ZA:wIn false (.val (.str "spoil")) (.val (.tup [.str "swap",.str "trade"]))=some (.val (.bl false)):=nr rfl
@[simp] theorem YB:wIn false (.val (.str "spoil")) (.val (.tup [.str "spoil",.str "throw"]))=some (.val (.bl true)):=nr rfl
@[simp] theorem lJ:wIn false (.val (.str "spoil")) (.val BX)=some (.val (.bl false)):=nr rfl
@[simp] theorem ZF:wIn false (.val (.str "throw")) (.val (.tup [.str "swap",.str "trade"]))=some (.val (.bl false)):=nr rfl
@[simp] theorem XQ:wIn false (.val (.str "throw")) (.val (.tup [.str "spoil",.str "throw"]))=some (.val (.bl true)):=nr rfl
@[simp] theorem mV:wIn false (.val (.str "throw")) (.val BX)=some (.val (.bl false)):=nr rfl
@[simp] theorem ak:wIn false (.val (.str "sell")) (.val (.tup [.str "swap",.str "trade"]))=some (.val (.bl false)):=nr rfl
@[simp] theorem ZD:wIn false (.val (.str "sell")) (.val (.tup [.str "spoil",.str "throw"]))=some (.val (.bl false)):=nr rfl
@[simp] theorem pV:wIn false (.val (.str "sell")) (.val BX)=some (.val (.bl false)):=nr rfl
@[simp] theorem fF:dr S BX=.val BX:=nr rfl
section
variable{a b c d e f:D}{r:Gc D}
@[simp] theorem ju:Kc [a,b,c,d,e] (some (-4)) none=[b,c,d,e]:=nr rfl
@[simp] theorem jv:Kc [a,b,c,d,e,f] (some (-4)) none=[c,d,e,f]:=nr rfl
@[simp] theorem lx:Kc [a,b,c,d] (some 1) none=[b,c,d]:=nr rfl
@[simp] theorem j4:Kc [a,b,c,d,e] (some 1) (some 2)=[b]:=nr rfl
@[simp] theorem jE:Kc [a,b,c,d,e,f] (some 1) (some 2)=[b]:=nr rfl
@[simp] theorem jC{ds zs:List D}:jV S ds [.tup zs]=if ds.length+zs.length<=sizeLine then some (.non,ds++zs)else none:=nr rfl
end
end
section
variable{S S':Sto}{s l m:Nat}{as:Gc Nat}{st:Stt}
theorem SAt.same(h:SAt S s l m as st)(g:By A S S')(hA:∀n∈A,n∉s::l::m::as):SAt S' s l m as st where
 root:=g.get h.root λz=>hA _ z (by simp)
 lo:=g.get h.lo λz=>hA _ z (by simp)
 nu:=g.get h.nu λz=>hA _ z (by simp)
 ld:=λi a x ha hx=>g.get (h.ld i a x ha hx) λz=>hA _ z (by simp[se ha])
 len:=h.len
 nd:=h.nd
theorem SAt.TC(h:SAt S s l m as st)(g:By [] S S'):SAt S' s l m as st:=h.same g λ_ z=>(nomatch z)
theorem SAt.ne(h:SAt S s l m as st):s≠l/\s≠m/\l≠m/\s∉as/\l∉as/\m∉as/\as.Nodup:=by
 have:=h.nd
 simp only[va,sN,zZ]at this
 obtain⟨⟨a,b,c⟩,⟨d,e⟩,f,g⟩:=this
 exact⟨a,b,d,c,e,f,g⟩
theorem SAt.Pd(h:SAt S s l m as st){i a:Nat}{y:Ld}(ha:as[i]?=Fk a):SAt (S.set a (CH y)) s l m as {st with AA:=st.AA.set i y}:=by
 obtain⟨n1,n2,n3,n4,n5,n6,n7⟩:=h.ne
 have ma:=se ha
 have q1:a≠s:=λe=>n4 (e▸ma)
 have q2:a≠l:=λe=>n5 (e▸ma)
 have q3:a≠m:=λe=>n6 (e▸ma)
 have hi:i<as.length:=(sO.mp ha).1
 have hi':i<st.AA.length:=by rw[<-h.len];exact hi
 refine⟨by rw[sJ q1];exact h.root,by rw[sJ q2];exact h.lo,by rw[sJ q3];exact h.nu,?_,by simp[h.len],h.nd⟩
 intro j b x hb hx
 by_cases e:i=j
 .subst e
  rw[ha]at hb
  cases hb
  have hx':(st.AA.set i y)[i]?=Fk x:=hx
  rw[sX hi']at hx'
  cases hx'
  have hl:a<S.length:=Ai (h.ld i a _ ha (sA hi'))
  exact sX hl
 .have hx':(st.AA.set i y)[j]?=Fk x:=hx
  rw[sJ e]at hx'
  have:a≠b:=by
   intro z
   subst z
   exact e ((xn hi n7).mp (ha.trans hb.symm))
  rw[sJ this]
  exact h.ld j b x hb hx'
theorem SAt.lts(h:SAt S s l m as st):∀n∈s::l::m::as,n<S.length:=by
 intro n hn
 simp only[sN]at hn
 rcases hn with rfl|rfl|rfl|hn
 .exact Ai h.root
 .exact Ai h.lo
 .exact Ai h.nu
 .obtain⟨i,hi⟩:=vt.mp hn
  have:i<st.AA.length:=by rw[<-h.len];exact(sO.mp hi).1
  exact Ai (h.ld i n _ hi (sA this))
theorem SAt.app(h:SAt S s l m as st)(y:Ld):SAt ((S++[CH y]).set l (.lst (as.map D.ref++[.ref S.length]))) s l m (as++[S.length]) {st with AA:=st.AA++[y]}:=by
 obtain⟨n1,n2,n3,n4,n5,n6,n7⟩:=h.ne
 have lt:=h.lts
 have ls:=lt s (by simp);have ll:=lt l (by simp);have lm:=lt m (by simp)
 have la:∀a∈as,a<S.length:=λa ha=>lt a (by simp[ha])
 refine⟨?_,?_,?_,?_,by simp[h.len],?_⟩
 .rw[sJ (uO n1),sH ls];exact h.root
 .rw[sX (by simp;lia)];simp
 .rw[sJ n3,sH lm];exact h.nu
 .intro i a x ha hx
  by_cases e:i<as.length
  .rw[sH e]at ha
   have hx':(st.AA++[y])[i]?=Fk x:=hx
   rw[sH (by rw[<-h.len];exact e)]at hx'
   have ma:=se ha
   rw[sJ (show l≠a by rintro rfl;exact n5 ma),sH (la a ma)]
   exact h.ld i a x ha hx'
  .have hx':(st.AA++[y])[i]?=Fk x:=hx
   have:i=as.length:=by
    have:=(sO.mp ha).1
    simp at this;lia
   subst this
   rw[sV]at ha
   cases ha
   rw[h.len,sV]at hx'
   cases hx'
   rw[sJ (by lia),sV]
 .have:(s::l::m::(as++[S.length]))=(s::l::m::as)++[S.length]:=by simp
  rw[this,xo]
  refine⟨h.nd,by simp,?_⟩
  intro a ha b hb e
  simp only[sN,si,uX]at hb
  have:=lt a ha
  lia
theorem SAt.hold(h:SAt S s l m as st)(rs:Gc Rat):SAt (S.set s (.lst [.ref l,shD rs,.ref m])) s l m as {st with hold:=rs}:=by
 obtain⟨n1,n2,n3,n4,n5,n6,n7⟩:=h.ne
 refine⟨sX (h.lts s (by simp)),by rw[sJ n1];exact h.lo,by rw[sJ n2];exact h.nu,?_,h.len,h.nd⟩
 intro i a x ha hx
 rw[sJ (show s≠a by rintro rfl;exact n4 (se ha))]
 exact h.ld i a x ha hx
theorem SAt.nums(h:SAt S s l m as st)(us:Gc Int):SAt (S.set m (.lst (us.map D.int))) s l m as {st with nums:=us}:=by
 obtain⟨n1,n2,n3,n4,n5,n6,n7⟩:=h.ne
 refine⟨by rw[sJ (uO n2)];exact h.root,by rw[sJ (uO n3)];exact h.lo,sX (h.lts m (by simp)),?_,h.len,h.nd⟩
 intro i a x ha hx
 rw[sJ (show m≠a by rintro rfl;exact n6 (se ha))]
 exact h.ld i a x ha hx
theorem OG{f:Ld->Ld}{body:Ex}{C:En}{i8:Nat}{o0:sD D}(h:SAt S s l m as st)(hi:C.length=i8)(hb:∀(S':Sto) (a:Nat) (x:Ld),x∈st.AA->S'[a]?=Fk (CH x)->∃S2,body (C++[Fk (.ref a)]) S'=Fk (.nx,C++[Fk (.ref a)],S2.set a (CH (f x)))/\By [] S' S2):∃o S',Lx [(l,as.map D.ref)] (tNm i8) body (as.map D.ref) (C++[o0]) S=Fk (.nx,C++[o],S')/\SAt S' s l m as {st with AA:=st.AA.map f}/\By as S S':=by
 obtain⟨E',S',e,i,o,i1,i2,rfl,i3,i4⟩:=EV (gs:=[(l,as.map D.ref)]) (t:=tNm i8) (b:=body)
  (I:=λds E S'=>∃(i:Nat) (o:sD D),ds=(as.drop i).map D.ref/\i<=as.length/\E=C++[o]/\SAt S' s l m as {st with AA:=(st.AA.take i).map f++st.AA.drop i}/\By as S S')
  (λds E S' hI=>by obtain⟨i,o,_,_,_,h1,_⟩:=hI;exact h1.guard) (ds:=as.map D.ref) (E:=C++[o0]) (S:=S)
  ⟨0,o0,by simp,ux _,rfl,by simpa using h,.refl⟩ (by
    rintro d ds E S1 ⟨i,o,i1,i2,rfl,i3,i4⟩
    have hlt:i<as.length:=by
     rcases vI i as.length with w|w
     .exact w
     .rw[uH w]at i1;cases i1
    rw[tS hlt,su]at i1
    injection i1 with e1 e2
    subst e1 e2
    have hl2:i<st.AA.length:=by rw[<-h.len];exact hlt
    have ha:=sA hlt
    have hx:((st.AA.take i).map f++st.AA.drop i)[i]?=Fk st.AA[i]:=by
     rw[uB (by simp;lia)]
     simp[yY (xX hl2)]
    obtain⟨S2,e3,g3⟩:=hb S1 as[i] st.AA[i] (vj hl2) (i3.ld i _ _ ha hx)
    have k:=(i3.TC g3).Pd (y:=f st.AA[i]) ha
    refine⟨C++[Fk (.ref as[i])],C++[Fk (.ref as[i])],S2.set as[i] (CH (f st.AA[i])),?_,e3,i+1,Fk (.ref as[i]),rfl,hlt,rfl,?_,?_⟩
    .rw[Zu]
     congr 1
     subst hi
     rw[zx _ _ (sM _)]
     simp
    .have:((st.AA.take i).map f++st.AA.drop i).set i (f st.AA[i])=(st.AA.take (i+1)).map f++st.AA.drop (i+1):=by
      rw[zx _ _ (by simp;lia)]
      have e0:i-((st.AA.take i).map f).length=0:=by simp;lia
      rw[e0,tS hl2,AAv,List.take_succ_eq_append_getElem hl2,uA]
      simp
     rw[<-this]
     exact k
    .exact(i4.trans (g3.mono λ_ z=>(nomatch z))).trans (.set (vj hlt)))
 refine⟨o,S',e,?_,i4⟩
 have hz:i=as.length:=by
  have:=congrArg vz i1
  simp at this
  lia
 have:(st.AA.take i).map f++st.AA.drop i=st.AA.map f:=by
  rw[hz,h.len];simp
 rw[this]at i3
 exact i3
end
section
variable{S S':Sto}{s l m:Nat}{as:Gc Nat}{st:Stt}{t:Tr}{k:Nat}
theorem Zi{i:Nat}{n:Int}{j:Nat}(hi:i<st.AA.length)(h:∀x∈st.AA,∀r∈x.ow,Sz j r):∀x∈less st.AA i n,∀r∈x.ow,Sz j r:=by
 intro x hx
 rcases JH hx hi with h1|h1
 .exact h x h1
 .rw[h1];exact h (AJ st.AA i) (AW hi)
theorem VJ{i:Nat}{n:Int}{j:Nat}(hi:i<st.AA.length)(h:∀x∈st.AA,x.ow.length=j):∀x∈less st.AA i n,x.ow.length=j:=by
 intro x hx
 rcases JH hx hi with h1|h1
 .exact h x h1
 .rw[h1];exact h (AJ st.AA i) (AW hi)
theorem YF(hS:SAt S s l m as st)(ht:JB t)(h:DP t k st)(hk:k<=16){i:Nat}{n:Int}{ws:Gc Int}(hc:Can t st (.thr i n ws)):∃S',FE [t.d,.ref s,(AK.thr i n ws).d] S=Fk (.non,S')/\SAt S' s l m as (step t st (.thr i n ws))/\By (s::l::m::as) S S':=by
 obtain⟨hi,h1,h2,hl,hw⟩:=hc
 have cO:=cR hS ht h (by lia) hl hw hi h1 h2
 have cz:=US ht h (by lia) hl hw hi h1 h2
 have sz:=h.sz
 obtain⟨a,a1,a2,a3⟩:=hS.at hi
 have hS1:=hS.Pd (y:=⟨(AJ st.AA i).k,(AJ st.AA i).n-n,(AJ st.AA i).ow⟩) a1
 have o1:=sz.1 _ (AW hi)
 have tp:=ht.2.1
 have hdef:step t st (.thr i n ws)={st with AA:=(less st.AA i n).map λx=>{x with ow:=GJ (Ip t st.AA i n ws) (AJ st.AA i).ow x.ow},hold:=GJ (Ip t st.AA i n ws) (AJ st.AA i).ow st.hold}:=rfl
 rw[hdef]
 generalize hX:Ip t st.AA i n ws=X at*
 obtain⟨o,S2,f1,f2,f3⟩:=OG (f:=λx=>{x with ow:=GJ X (AJ st.AA i).ow x.ow}) (body:=Lz (AB EK [eOp (o2 wIx) [eV 8,eC (.int 2)],eV 6,eV 7]) (eV 8) (eC (.int 2))) (C:=[Fk t.d,Fk (.ref s),Fk (AK.thr i n ws).d,Fk (.ref l),Fk (shD st.hold),Fk (.ref m),Fk (aD X),Fk (shD (AJ st.AA i).ow)]) (i8:=8) (o0:=none) hS1 rfl (by
  intro S' b x hx hb
  obtain⟨S2,e2,g2⟩:=QU (S:=S') (x:=X) (ss:=x.ow) (os:=(AJ st.AA i).ow) (j:=30+170*k) (i:=145+k) (Zi (n:=n) hi sz.1 x hx) o1 cz (by lia) (by rw[VJ (n:=n) hi h.own x hx];lia)
  have hb2:=g2.get hb (by simp)
  refine⟨S2,?_,g2⟩
  simp[An hb,CH,e2,AX hb2])
 obtain⟨S3,e3,g3⟩:=QU (S:=S2) (x:=X) (ss:=st.hold) (os:=(AJ st.AA i).ow) (j:=30+170*k) (i:=145+k) sz.2 o1 cz (by lia) (by rw[h.hold];lia)
 have f4:=(f2.TC g3)
 have rt:=f4.root
 refine⟨S3.set s (.lst [.ref l,shD (GJ X (AJ st.AA i).ow st.hold),.ref m]),?_,f4.hold _,?_⟩
 .have f1':=f1
  simp only[tU,tF]at f1'
  have rt':Et S3 s=Fk [.ref l,shD st.hold,.ref m]:=AX rt
  have r0:=AX hS.root
  have lo:=An hS.lo
  have xx:=An a2
  have c2:=AX a2
  have sq1:=Hw hS1.lo
  simp only[CH]at f1' sq1 c2 xx
  simp only[AK.d]at f1' cO⊢
  simp[FE,Jg,r0,cO,lo,a3,xx,c2,sq1,f1',e3,rt']
 .have q1:By (s::l::m::as) S (S.set a (CH ⟨(AJ st.AA i).k,(AJ st.AA i).n-n,(AJ st.AA i).ow⟩)):=.set (by simp[se a1])
  exact((q1.trans (f3.mono λn hn=>by simp[hn])).trans (g3.mono λ_ z=>(nomatch z))).trans (.set (by simp))
theorem WC(hS:SAt S s l m as st)(ht:JB t)(h:DP t k st)(hk:k<=16){p q:Nat}{x:Rat}(hc:Can t st (.Gq p q x)):∃S',FE [t.d,.ref s,(AK.Gq p q x).d] S=Fk (.non,S')/\SAt S' s l m as (step t st (.Gq p q x))/\By (s::l::m::as) S S':=by
 obtain⟨hpq,hp,hq,x1,x2,x3⟩:=hc
 have sz:=h.sz
 have hx:Sz 4 x:=by
  refine⟨?_,by lia⟩
  show x.num.natAbs<16
  lia
 have hdef:step t st (.Gq p q x)={st with AA:=st.AA.map λy=>{y with ow:=Fo p q x y.ow},hold:=Fo p q x st.hold}:=rfl
 rw[hdef]
 obtain⟨o,S2,f1,f2,f3⟩:=OG (f:=λy=>{y with ow:=Fo p q x y.ow}) (body:=Lz (AB FF [eOp (o2 wIx) [eV 8,eC (.int 2)],eV 2]) (eV 8) (eC (.int 2))) (C:=[Fk t.d,Fk (.ref s),Fk (AK.Gq p q x).d,Fk (.ref l),Fk (shD st.hold),Fk (.ref m),none,none]) (i8:=8) (o0:=none) hS rfl (by
  intro S' b y hy hb
  obtain⟨S2,e2,g2⟩:=Ug (S:=S') (p:=p) (q:=q) (x:=x) (ss:=y.ow) (j:=30+170*k) (i:=4) (sz.1 y hy) hx (by lia) (by rw[h.own y hy];exact hp) (by rw[h.own y hy];exact hq) hpq
  have hb2:=g2.get hb (by simp)
  refine⟨S2,?_,g2⟩
  simp[An hb,CH,e2,AX hb2])
 obtain⟨S3,e3,g3⟩:=Ug (S:=S2) (p:=p) (q:=q) (x:=x) (ss:=st.hold) (j:=30+170*k) (i:=4) sz.2 hx (by lia) (by rw[h.hold];exact hp) (by rw[h.hold];exact hq) hpq
 have f4:=(f2.TC g3)
 have rt:=f4.root
 refine⟨S3.set s (.lst [.ref l,shD (Fo p q x st.hold),.ref m]),?_,f4.hold _,?_⟩
 .have f1':=f1
  simp only[tU,tF]at f1'
  have rt':Et S3 s=Fk [.ref l,shD st.hold,.ref m]:=AX rt
  have r0:=AX hS.root
  have sq1:=Hw hS.lo
  simp only[AK.d]at f1' e3⊢
  simp[FE,Jg,r0,sq1,f1',e3,rt']
 .exact((f3.mono λn hn=>by simp[hn]).trans (g3.mono λ_ z=>(nomatch z))).trans (.set (by simp))
end
section
variable{S S':Sto}{s l m:Nat}{as:Gc Nat}{st:Stt}{t:Tr}{k:Nat}
theorem Pl{ls:Gc Ld}{l:Nat}{n:Int}:less ls l n=ls.set l ⟨(AJ ls l).k,(AJ ls l).n-n,(AJ ls l).ow⟩:=rfl
theorem Qo{P p:Nat}{cond:Int}{C:En}{dd:D}{f:Ev}(hP:P<=50)(hf:∀(i:Nat),f [Fk dd,Fk (.int i)] S=Fk (aD (if i=p then 1 else 0),S)):Bo [] (tNm 1) BK f (Ka 0 P) [] [Fk dd,none] S=Fk ((MA P p).map aD,S):=by
 have:=Bw (gs:=[]) (t:=tNm 1) (f:=f) (C:=[Fk dd]) (m:=1) (e:=λi:Nat=>D.int (0+(i:Int))) (g:=λi=>aD (if i=p then 1 else 0)) (S:=S) AZ (xs:=tL P) (acc:=[]) (os:=[none]) rfl (sL (show _<=50 by simp;lia) (AI (by decide))) (by
  intro i _ os ho
  obtain⟨o,rfl⟩:=Ke ho
  refine⟨[Fk (.int i)],rfl,by simp,hf i⟩)
 simp only[tU,tF]at this
 rw[MA,tW]
 exact this
inductive DoB(t:Tr)(S:Sto)(s l m:Nat)(as:Gc Nat)(st:Stt)(d:AK):Prop
 |mk (S':Sto) (as':Gc Nat) (e:EB [t.d,.ref s,d.d] S=Fk (.non,S')) (h:SAt S' s l m as' (step t st d)) (g:By (s::l::m::as) S S') (f:∀n∈as',n∈as\/S.length<=n)
theorem Wz(hS:SAt S s l m as st)(ht:JB t)(h:DP t k st)(hk:k<=16){p kd:Nat}{n:Int}(hc:Can t st (.DU p kd n)):DoB t S s l m as st (.DU p kd n):=by
 have tp:=ht.2.1
 have e:=Qo (S:=S) (P:=t.p) (p:=p) (cond:=0) (C:=[]) (dd:=(AK.DU p kd n).d) (f:=B0 [eOp (o1 TH) [eOp (o2 wEq) [eV 1,eOp (o2 wIx) [eV 0,eC (.int 1)]]],eC (.int 1)]) (by lia) (by
  intro i
  by_cases hi:i=p
  .subst hi;simp[AK.d];rfl
  .have:((i:Int)==(p:Int))=false:=by simp;lia
   simp[AK.d,this,hi];rfl)
 have rn:HI (t.p:Int)=true:=Cq (by lia) (by lia)
 have hz:as.length<sizeLine:=sI (show as.length<50 by rw[hS.len];have:=h.len;lia) (AI (by decide))
 refine⟨_,_,?_,hS.app ⟨kd,n,MA t.p p⟩,?_,?_⟩
 .have r0:=AX hS.root
  have c0:=AX hS.lo
  have c1:Et (S++[CH ⟨kd,n,MA t.p p⟩]) l=Fk (as.map D.ref):=AX (by rw[sH (Ai hS.lo)];exact hS.lo)
  simp only[CH]at c1⊢
  simp only[AK.d]at e⊢
  simp[EB,Ft,r0,Tr.d,rn,e,c0,shD]at c1⊢
  simp[c1,hz]
 .exact By.app.trans (.set (by simp))
 .intro n hn
  rcases sx.mp hn with w|w
  .exact .inl w
  .simp at w;exact .inr (by lia)
theorem X6(hS:SAt S s l m as st)(ht:JB t)(h:DP t k st)(hk:k<=16){i:Nat}{n:Int}(hc:Can t st (.DQ i n)):DoB t S s l m as st (.DQ i n):=by
 obtain⟨hi,h1,h2⟩:=hc
 obtain⟨a,a1,a2,a3⟩:=hS.at hi
 refine⟨_,as,?_,hS.Pd (y:=⟨(AJ st.AA i).k,(AJ st.AA i).n-n,(AJ st.AA i).ow⟩) a1,.set (by simp[se a1]),λn hn=>.inl hn⟩
 have r0:=AX hS.root
 have lo:=An hS.lo
 have xx:=An a2
 have c2:=AX a2
 simp only[CH]at c2 xx⊢
 simp[EB,Ft,AK.d,r0,lo,a3,xx,c2]
theorem dj(hS:SAt S s l m as st)(ht:JB t)(h:DP t k st)(hk:k<=16){i:Nat}{n:Int}{ws:Gc Int}(hc:Can t st (.thr i n ws)):DoB t S s l m as st (.thr i n ws):=by
 obtain⟨S',e,g1,g2⟩:=YF hS ht h hk hc
 refine⟨S',as,?_,g1,g2,λn hn=>.inl hn⟩
 have r0:=AX hS.root
 simp only[AK.d]at e⊢
 simp[EB,Ft,r0,e]
theorem cW(hS:SAt S s l m as st)(ht:JB t)(h:DP t k st)(hk:k<=16){p q:Nat}{x:Rat}(hc:Can t st (.Gq p q x)):DoB t S s l m as st (.Gq p q x):=by
 obtain⟨S',e,g1,g2⟩:=WC hS ht h hk hc
 refine⟨S',as,?_,g1,g2,λn hn=>.inl hn⟩
 have r0:=AX hS.root
 simp only[AK.d]at e⊢
 simp[EB,Ft,r0,e]
theorem bG(hS:SAt S s l m as st)(ht:JB t)(h:DP t k st)(hk:k<=16){i kd:Nat}{g n:Int}(hc:Can t st (.swap i g kd n)):DoB t S s l m as st (.swap i g kd n):=by
 obtain⟨hi,h1,h2,h3,h4,h5,h6⟩:=hc
 obtain⟨a,a1,a2,a3⟩:=hS.at hi
 have hS1:=hS.Pd (y:=⟨(AJ st.AA i).k,(AJ st.AA i).n-g,(AJ st.AA i).ow⟩) a1
 have hS2:=hS1.app ⟨kd,n,(AJ st.AA i).ow⟩
 have hz:as.length<sizeLine:=sI (show as.length<50 by rw[hS.len];have:=h.len;lia) (AI (by decide))
 have hz2:st.nums.length<=sizeLine:=sL (show _<=20 by have:=h.nm;lia) (AI (by decide))
 refine⟨_,_,?_,hS2,?_,?_⟩
 .have r0:=AX hS.root
  have lo:=An hS.lo
  have xx:=An a2
  have c2:=AX a2
  have lo1:=An hS1.lo
  have co1:=AX hS1.lo
  have x1:=An (sX (a:=CH ⟨(AJ st.AA i).k,(AJ st.AA i).n-g,(AJ st.AA i).ow⟩) (Ai a2))
  have c4:Et ((S.set a (CH ⟨(AJ st.AA i).k,(AJ st.AA i).n-g,(AJ st.AA i).ow⟩))++[CH ⟨kd,n,(AJ st.AA i).ow⟩]) l=Fk (as.map D.ref):=AX (by rw[sH (Ai hS1.lo)];exact hS1.lo)
  have nu:=hS2.nu
  have c5:=AX nu
  have st5:∀{T:Sto},T[m]?=Fk (.lst (st.nums.map D.int))->T.set m (.lst (st.nums.map D.int))=T:=λh=>set_same h
  have st6:=st5 nu
  simp only[CH]at c2 xx lo1 co1 x1 c4 c5 st6⊢
  have hz':(as.map D.ref).length<sizeLine:=by simpa using hz
  generalize (as.map D.ref)=refs at*
  simp[EB,Ft,AK.d,r0,lo,a3,xx,c2,lo1,x1,co1]at c4 c5 st6⊢
  simp[c4,hz',c5,hz2,st6]
 .exact((By.set (by simp[se a1])).trans .app).trans (.set (by simp))
 .intro n hn
  rcases sx.mp hn with w|w
  .exact .inl w
  .simp at w;exact .inr (by lia)
theorem X9(hS:SAt S s l m as st)(ht:JB t)(h:DP t k st)(hk:k<=16){i kd:Nat}{u g n:Int}(hc:Can t st (.Cd u i g kd n)):DoB t S s l m as st (.Cd u i g kd n):=by
 obtain⟨hi,h1,h2,h3,h4,h5,h6,h7,h8⟩:=hc
 obtain⟨a,a1,a2,a3⟩:=hS.at hi
 have hS1:=hS.Pd (y:=⟨(AJ st.AA i).k,(AJ st.AA i).n-g,(AJ st.AA i).ow⟩) a1
 have hS2:=hS1.app ⟨kd,n,(AJ st.AA i).ow⟩
 have hz:as.length<sizeLine:=sI (show as.length<50 by rw[hS.len];have:=h.len;lia) (AI (by decide))
 have hz2:st.nums.length+1<=sizeLine:=sL (show _<=20 by have:=h.nm;lia) (AI (by decide))
 refine⟨_,_,?_,hS2.nums (st.nums++[u]),?_,?_⟩
 .have r0:=AX hS.root
  have lo:=An hS.lo
  have xx:=An a2
  have c2:=AX a2
  have lo1:=An hS1.lo
  have co1:=AX hS1.lo
  have x1:=An (sX (a:=CH ⟨(AJ st.AA i).k,(AJ st.AA i).n-g,(AJ st.AA i).ow⟩) (Ai a2))
  have c4:Et ((S.set a (CH ⟨(AJ st.AA i).k,(AJ st.AA i).n-g,(AJ st.AA i).ow⟩))++[CH ⟨kd,n,(AJ st.AA i).ow⟩]) l=Fk (as.map D.ref):=AX (by rw[sH (Ai hS1.lo)];exact hS1.lo)
  have nu:=hS2.nu
  have c5:=AX nu
  simp only[CH]at c2 xx lo1 co1 x1 c4 c5⊢
  have hz':(as.map D.ref).length<sizeLine:=by simpa using hz
  generalize (as.map D.ref)=refs at*
  simp[EB,Ft,AK.d,r0,lo,a3,xx,c2,lo1,x1,co1]at c4 c5⊢
  simp[c4,hz',c5,hz2]
 .exact(((By.set (by simp[se a1])).trans .app).trans (.set (by simp))).trans (.set (by simp))
 .intro n hn
  rcases sx.mp hn with w|w
  .exact .inl w
  .simp at w;exact .inr (by lia)
theorem bc(hS:SAt S s l m as st)(ht:JB t)(h:DP t k st)(hk:k<=16){i j:Nat}(hc:Can t st (.F9 i j)):DoB t S s l m as st (.F9 i j):=by
 obtain⟨hij,hi,hj,h1,h2,h3⟩:=hc
 obtain⟨a,a1,a2,a3⟩:=hS.at hi
 obtain⟨b,b1,b2,b3⟩:=hS.at hj
 have sz:=h.sz
 have pi:=h.pcs _ (AW hi)
 have pj:=h.pcs _ (AW hj)
 obtain⟨S1,e1,g1⟩:=WB (S:=S) (x:=AJ st.AA i) (y:=AJ st.AA j) (j:=30+170*k) (i:=131+k) a2 b2 (sz.1 _ (AW hi)) (sz.1 _ (AW hj)) (EH pi.1 pi.2) (EH pj.1 pj.2) (by lia) (by lia) (by lia) (by rw[h.own _ (AW hi)];have:=ht.2.1;lia)
 have hS1:=hS.TC g1
 have hab:a≠b:=by
  rintro rfl
  exact hij ((xn (sO.mp a1).1 hS.ne.2.2.2.2.2.2).mp (a1.trans b1.symm))
 have hS2:=hS1.app ⟨(AJ st.AA i).k,(AJ st.AA i).n+(AJ st.AA j).n,Bt (AJ st.AA i).n (AJ st.AA j).n (AJ st.AA i).ow (AJ st.AA j).ow⟩
 have ai:i<as.length:=(sO.mp a1).1
 have bj:j<as.length:=(sO.mp b1).1
 have a1':(as++[S1.length])[i]?=Fk a:=by rw[sH ai];exact a1
 have b1':(as++[S1.length])[j]?=Fk b:=by rw[sH bj];exact b1
 have hS3:=hS2.Pd (y:=⟨(AJ st.AA i).k,0,(AJ st.AA i).ow⟩) a1'
 have hS4:=hS3.Pd (y:=⟨(AJ st.AA j).k,0,(AJ st.AA j).ow⟩) b1'
 have hz:as.length<sizeLine:=sI (show as.length<50 by rw[hS.len];have:=h.len;lia) (AI (by decide))
 have est:step t st (.F9 i j)={st with AA:=((st.AA++[Ld.mk (AJ st.AA i).k ((AJ st.AA i).n+(AJ st.AA j).n) (Bt (AJ st.AA i).n (AJ st.AA j).n (AJ st.AA i).ow (AJ st.AA j).ow)]).set i ⟨(AJ st.AA i).k,0,(AJ st.AA i).ow⟩).set j ⟨(AJ st.AA j).k,0,(AJ st.AA j).ow⟩}:=by
  have e0:AJ (less st.AA i (AJ st.AA i).n) j=AJ st.AA j:=by
   unfold AJ less
   rw[sG,sJ hij,<-sG]
  have e1:less st.AA i (AJ st.AA i).n=st.AA.set i ⟨(AJ st.AA i).k,0,(AJ st.AA i).ow⟩:=by
   unfold less
   rw[Int.sub_self]
  have e2:less (less st.AA i (AJ st.AA i).n) j (AJ st.AA j).n=(st.AA.set i ⟨(AJ st.AA i).k,0,(AJ st.AA i).ow⟩).set j ⟨(AJ st.AA j).k,0,(AJ st.AA j).ow⟩:=by
   rw[Pl (ls:=less st.AA i (AJ st.AA i).n),e0,Int.sub_self,e1]
  show{st with AA:=less (less st.AA i (AJ st.AA i).n) j (AJ st.AA j).n++_}=_
  rw[e2,AAO _ _ hi,AAO _ _ (by simpa using hj)]
 refine⟨_,_,?_,est▸hS4,?_,?_⟩
 .have r0:=AX hS.root
  have lo:=An hS.lo
  have c0:=AX hS.lo
  have xa:=An a2
  have xb:=An b2
  have c1:=AX hS1.lo
  have c4:Et (S1++[CH ⟨(AJ st.AA i).k,(AJ st.AA i).n+(AJ st.AA j).n,Bt (AJ st.AA i).n (AJ st.AA j).n (AJ st.AA i).ow (AJ st.AA j).ow⟩]) l=Fk (as.map D.ref):=AX (by rw[sH (Ai hS1.lo)];exact hS1.lo)
  have c5:=AX (hS2.ld i a (AJ st.AA i) a1' (by show(st.AA++_)[i]?=_;rw[sH hi];exact Cp hi))
  have c6:=AX (hS3.ld j b (AJ st.AA j) b1' (by show((st.AA++_).set i _)[j]?=_;rw[sJ hij,sH hj];exact Cp hj))
  simp only[CH]at xa xb c4 c5 c6⊢
  have hz':(as.map D.ref).length<sizeLine:=by simpa using hz
  generalize (as.map D.ref)=refs at*
  generalize Bt (AJ st.AA i).n (AJ st.AA j).n (AJ st.AA i).ow (AJ st.AA j).ow=pr at*
  simp[EB,Ft,AK.d,r0,lo,a3,b3,xa,xb,c0,e1]at c4 c5 c6⊢
  simp[c4,hz',c5,c6]
 .exact(((g1.mono λ_ z=>(nomatch z)).trans .app).trans (.set (by simp))).trans ((By.set (by simp[se a1])).trans (.set (by simp[se b1])))
 .intro n hn
  rcases sx.mp hn with w|w
  .exact .inl w
  .simp at w;subst w;exact .inr g1.len
theorem mE(hS:SAt S s l m as st)(ht:JB t)(h:DP t k st)(hk:k<=16){d:AK}(hc:Can t st d):DoB t S s l m as st d:=by
 cases d with
 |DU=>exact Wz hS ht h hk hc
 |F9=>exact bc hS ht h hk hc
 |swap=>exact bG hS ht h hk hc
 |Cd=>exact X9 hS ht h hk hc
 |DQ=>exact X6 hS ht h hk hc
 |thr=>exact dj hS ht h hk hc
 |Gq=>exact cW hS ht h hk hc
end
section
variable{st:Stt}{t:Tr}{k:Nat}
theorem Hj{a b:Nat}(h:a<=b):2^a<=2^b:=uC (by decide) h
theorem La{a b:Nat}(h:a<=b):(2:Int)^a<=2^b:=by
 have:=Hj h
 exact_mod_cast this
theorem HV{c:Int}(h:0<=c):((c.toNat:Nat):Rat)=(c:Rat):=by
 have:((c.toNat:Nat):Int)=c:=uM h
 have:(((c.toNat:Nat):Int):Rat)=(c:Rat):=by rw[this]
 exact this
theorem RB{B T k j:Nat}(hB:B<2^(30+170*k))(hT:T<2^j)(hj:j<=170):B*T<2^(30+170*(k+1)):=by
 have:=Dx hB hT
 exact sI this (Hj (by lia))
theorem TK{G B P p:Nat}(h:G<=B):∀r∈MA P p,Ok G B r:=by
 intro r hr
 obtain⟨i,_,rfl⟩:=uG.mp hr
 split
 .exact Ok.one h
 .exact Ok.zero
theorem OQ{G B:Nat}{n m:Int}{ss os:Gc Rat}(hn:0<n)(hm:0<m)(hs:∀r∈ss,Ok G B r)(ho:∀r∈os,Ok G B r):∀r∈Bt n m ss os,Ok (G*(n+m).toNat) (B*(n+m).toNat) r:=by
 intro r hr
 unfold Bt at hr
 rw[vt]at hr
 obtain⟨i,hi'⟩:=hr
 rw[yQ]at hi'
 obtain⟨x,y,hx,hy,rfl⟩:=hi'
 have:=Ok.mix (a:=n.toNat) (b:=m.toNat) (t:=(n+m).toNat) (hs x (se hx)) (ho y (se hy)) (by lia) (by lia)
 rwa [HV (by lia),HV (by lia),HV (by lia)]at this
theorem UM{G B p q:Nat}{x:Rat}{ss:Gc Rat}(hp:p<ss.length)(hq:q<ss.length)(x1:0<x.num)(x2:x.num<=x.den)(hs:∀r∈ss,Ok G B r):∀r∈Fo p q x ss,Ok (G*x.den) (2*B*x.den) r:=by
 have dp:=x.den_pos
 have hsp:=hs _ (getD_mem (d:=0) hp)
 have hsq:=hs _ (getD_mem (d:=0) hq)
 have xs:=D7 x
 have ex:(x.num:Rat)=((x.num.toNat:Nat):Rat):=(HV (by lia)).symm
 have nz:=IS x
 intro r hr
 unfold Fo at hr
 rcases vw hr with hr|hr
 .rcases vw hr with hr|hr
  .exact(hs r hr).up (by rw[zF];lia)
  .rw[hr]
   obtain⟨z,e,hz⟩:=Ok.mix (a:=x.den-x.num.toNat) (b:=x.num.toNat) (t:=x.den) hsp (Ok.zero (G:=G) (B:=B)) (by lia) dp
   refine⟨z,?_,sL hz (by rw[zF];lia)⟩
   rw[<-e]
   have e2:((x.den-x.num.toNat:Nat):Rat)=(x.den:Rat)-(x.num:Rat):=by
    have:(((x.den-x.num.toNat:Nat):Int):Rat)=((x.den-x.num:Int):Rat):=by
     congr 1;lia
    push_cast at this
    exact this
   rw[e2]
   generalize ss.getD p 0=sp at*
   congr 1
   grind
 .rw[hr]
  obtain⟨z,e1,hz⟩:=hsp
  obtain⟨y,e2,hy⟩:=hsq
  refine⟨y*x.den+z*x.num.toNat,?_,?_⟩
  .generalize ss.getD p 0=sp at*
   generalize ss.getD q 0=sq at*
   push_cast
   rw[<-ex,<-e1,<-e2]
   grind
  .have h1:y*x.den<=B*x.den:=uf _ hy
   have h2:z*x.num.toNat<=B*x.den:=yv hz (by lia)
   rw[zF];lia
theorem Gx{f:Rat->Rat->Rat}{a b:Gc Rat}{n:Nat}(h:a.length=n)(g:b.length=n):(xw f a b).length=n:=by rw[List.length_zipWith,h,g];lia
theorem D5{P:Ld->Prop}{i:Nat}{n:Int}(hi:i<st.AA.length)(h:∀x∈st.AA,P x)(g:P ⟨(AJ st.AA i).k,(AJ st.AA i).n-n,(AJ st.AA i).ow⟩):∀x∈less st.AA i n,P x:=by
 intro x hx
 rcases JH hx hi with h1|h1
 .exact h x h1
 .rw[h1];exact g
theorem Ht{P:Ld->Prop}{ls:Gc Ld}{y:Ld}(h:∀x∈ls,P x)(g:P y):∀x∈ls++[y],P x:=by
 intro x hx
 rcases sx.mp hx with w|w
 .exact h x w
 .simp at w;rw[w];exact g
structure LOk(t:Tr)(k G B:Nat)(x:Ld):Prop where
 kd:x.k<t.k
 n0:0<=x.n
 n1:x.n<2^(131+k)
 own:x.ow.length=t.p
 ok:∀r∈x.ow,Ok G B r
theorem LOk.up{G B T B':Nat}{x:Ld}(h:LOk t k G B x)(hT:B*T<=B'):LOk t (k+1) (G*T) B' x:=⟨h.kd,h.n0,yx h.n1 (La (by lia)),h.own,λr hr=>(h.ok r hr).up hT⟩
theorem LOk.up1{G B:Nat}{x:Ld}(h:LOk t k G B x):LOk t (k+1) G B x:=⟨h.kd,h.n0,yx h.n1 (La (by lia)),h.own,h.ok⟩
theorem LOk.less{G B:Nat}{x:Ld}{n:Int}(h:LOk t k G B x)(h0:0<=n)(h1:n<=x.n):LOk t k G B ⟨x.k,x.n-n,x.ow⟩:=⟨h.kd,show 0<=x.n-n by lia,show x.n-n<_ by have:=h.n1;lia,h.own,h.ok⟩
theorem DP.of{G B:Nat}(h1:st.AA.length<=4+k)(h2:∀x∈st.AA,LOk t k G B x)(h3:st.hold.length=t.p)(h4:st.nums.length<=k)(g0:0<G)(g1:G<=B)(g2:B<2^(30+170*k))(h5:∀r∈st.hold,Ok G B r):DP t k st:=⟨h1,λx hx=>(h2 x hx).kd,λx hx=>⟨(h2 x hx).n0,(h2 x hx).n1⟩,λx hx=>(h2 x hx).own,h3,h4,G,B,g0,g1,g2,λx hx=>(h2 x hx).ok,h5⟩
theorem bK{n:Int}(h:n<2^131):n<2^(131+k):=yx h (La (by lia))
theorem QN(ht:JB t)(h:DP t k st)(hk:k<=16){d:AK}(hc:Can t st d):DP t (k+1) (step t st d):=by
 obtain⟨G,B,g0,g1,g2,hl,hh⟩:=h.gb
 have L:∀x∈st.AA,LOk t k G B x:=λx hx=>⟨h.kind x hx,(h.pcs x hx).1,(h.pcs x hx).2,h.own x hx,hl x hx⟩
 have g2':B<2^(30+170*(k+1)):=sI g2 (Hj (by lia))
 have hlen:=h.len
 have hnm:=h.nm
 cases d with
 |DU p kd n=>
  obtain⟨h1,h2,h3,h4⟩:=hc
  refine DP.of (G:=G) (B:=B) (by simp[step];lia) (Ht (λx hx=>(L x hx).up1) ⟨h2,by show 0<=n;lia,bK h4,by simp[MA],TK g1⟩) h.hold (uc hnm) g0 g1 g2' hh
 |F9 i j=>
  obtain⟨hij,hi,hj,h1,h2,h3⟩:=hc
  have li:=L _ (AW hi)
  have lj:=L _ (AW hj)
  have tl:((AJ st.AA i).n+(AJ st.AA j).n).toNat<2^(132+k):=by
   have a:=li.n1;have b:=lj.n1
   have e:(2:Int)^(132+k)=2^(131+k)*2:=by rw[show 132+k=(131+k)+1 by lia,zh]
   have:(((AJ st.AA i).n+(AJ st.AA j).n).toNat:Int)<((2^(132+k):Nat):Int):=by
    rw[uM (by lia)]
    push_cast
    rw[e];lia
   exact_mod_cast this
  have t0:0<((AJ st.AA i).n+(AJ st.AA j).n).toNat:=by lia
  refine DP.of (G:=G*((AJ st.AA i).n+(AJ st.AA j).n).toNat) (B:=B*((AJ st.AA i).n+(AJ st.AA j).n).toNat) (by simp[step,BY];lia) (Ht ?_ ⟨li.kd,by show 0<=(AJ st.AA i).n+(AJ st.AA j).n;lia,?_,?_,OQ h1 h2 li.ok lj.ok⟩) h.hold (uc hnm) (yP g0 t0) (uf _ g1) (RB g2 tl (by lia)) (λr hr=>(hh r hr).up (sM _))
  .have e0:AJ (less st.AA i (AJ st.AA i).n) j=AJ st.AA j:=by
    unfold AJ less
    rw[sG,sJ hij,<-sG]
   have A:=D5 (P:=LOk t (k+1) (G*((AJ st.AA i).n+(AJ st.AA j).n).toNat) (B*((AJ st.AA i).n+(AJ st.AA j).n).toNat)) (n:=(AJ st.AA i).n) hi (λx hx=>(L x hx).up (sM _)) ((li.up (sM _)).less (by lia) (AAP _))
   have A2:=D5 (st:={st with AA:=less st.AA i (AJ st.AA i).n}) (i:=j) (n:=(AJ st.AA j).n) (by simpa[BY]using hj) A (by
    show LOk _ _ _ _ ⟨(AJ (less st.AA i (AJ st.AA i).n) j).k,(AJ (less st.AA i (AJ st.AA i).n) j).n-_,(AJ (less st.AA i (AJ st.AA i).n) j).ow⟩
    rw[e0]
    exact(lj.up (sM _)).less (by lia) (AAP _))
   exact A2
  .show(AJ st.AA i).n+(AJ st.AA j).n<2^(131+(k+1))
   have a:=li.n1;have b:=lj.n1
   rw[show 131+(k+1)=(131+k)+1 by lia,zh];lia
  .exact Gx li.own lj.own
 |swap i g kd n=>
  obtain⟨hi,h1,h2,h3,h4,h5,h6⟩:=hc
  have li:=L _ (AW hi)
  refine DP.of (G:=G) (B:=B) (by simp[step,BY];lia) (Ht (D5 hi (λx hx=>(L x hx).up1) (li.up1.less (by lia) h2)) ⟨h3,by show 0<=n;lia,bK h6,li.own,li.ok⟩) h.hold (uc hnm) g0 g1 g2' hh
 |Cd u i g kd n=>
  obtain⟨hi,h1,h2,h3,h4,h5,h6,h7⟩:=hc
  have li:=L _ (AW hi)
  refine DP.of (G:=G) (B:=B) (by simp[step,BY];lia) (Ht (D5 hi (λx hx=>(L x hx).up1) (li.up1.less (by lia) h2)) ⟨h3,by show 0<=n;lia,bK h6,li.own,li.ok⟩) h.hold (by simp[step];lia) g0 g1 g2' hh
 |DQ i n=>
  obtain⟨hi,h1,h2⟩:=hc
  have li:=L _ (AW hi)
  refine DP.of (G:=G) (B:=B) (by simp[step,BY];lia) (D5 hi (λx hx=>(L x hx).up1) (li.up1.less (by lia) h2)) h.hold (uc hnm) g0 g1 g2' hh
 |thr i n ws=>
  obtain⟨hi,h1,h2,h3,h4⟩:=hc
  have li:=L _ (AW hi)
  have W:=JT ht h (by lia) h3 h4
  have wl:(EI t st.AA ws).toNat<2^(145+k):=by
   have:((EI t st.AA ws).toNat:Int)<((2^(145+k):Nat):Int):=by
    rw[uM (by lia)];push_cast;exact W.2
   exact_mod_cast this
  have bo:=λ{ss:Gc Rat} (hs:∀r∈ss,Ok G B r)=>VX ht h (by lia) h3 h4 hi h1 h2 li.ok hs
  refine DP.of (G:=G*(EI t st.AA ws).toNat) (B:=B*(EI t st.AA ws).toNat) (by simp[step,BY];lia) ?_ (Gx h.hold li.own) (uc hnm) (yP g0 (by lia)) (uf _ g1) (RB g2 wl (by lia)) (bo hh)
  intro x hx
  obtain⟨y,hy,rfl⟩:=uG.mp hx
  have ly:=D5 (P:=LOk t k G B) hi L (li.less (n:=n) (by lia) h2) y hy
  exact⟨ly.kd,ly.n0,ly.up1.n1,Gx ly.own li.own,bo ly.ok⟩
 |Gq p q x=>
  obtain⟨h1,h2,h3,h4,h5,h6⟩:=hc
  have dp:=x.den_pos
  refine DP.of (G:=G*x.den) (B:=2*B*x.den) (by simp[step];lia) ?_ (by simp[step,Fo,h.hold]) (uc hnm) (yP g0 dp) (uf _ (by lia)) ?_ (UM (by rw[h.hold];exact h2) (by rw[h.hold];exact h3) h4 h5 hh)
  .intro y hy
   obtain⟨z,hz,rfl⟩:=uG.mp hy
   have lz:=L z hz
   exact⟨lz.kd,lz.n0,lz.up1.n1,by simp[Fo,lz.own],UM (by rw[lz.own];exact h2) (by rw[lz.own];exact h3) h4 h5 lz.ok⟩
  .have:=RB (B:=B) (T:=2*x.den) (j:=5) g2 (by lia) (by lia)
   rw[show 2*B*x.den=B*(2*x.den) by rw[<-zF,wN 2 B]]
   exact this
end
theorem NI{α:Type}{f:α->D}:∀{xs:Gc α},(∀x∈xs,(f x).lay=true)->D.RH (xs.map f)=true
 | [],_=>rfl
 |x::xs,h=>by
  show((f x).lay && D.RH (xs.map f))=true
  rw[h x sZ,NI λy hy=>h y (sQ _ hy)]
  rfl
theorem Xd{ds:Gc D}(h:D.RH ds=true):PV (.lst ds) (.lst [])=true:=by
 unfold PV
 show(D.RH ds && true && _)=true
 rw[h]
 simp only[Bool.true_and,um]
 exact sL (Nat.min_le_right _ _) (by decide)
noncomputable def Au(is:Gc Nat):Gc D:=is.map λ(i:Nat)=>D.int i
theorem LD{is:Gc Nat}:PV (.lst (Au is)) (.lst [])=true:=Xd (NI λ_ _=>rfl)
theorem YR{d:D}{ds:Gc D}:deq (.lst (d::ds)) (.lst [])=false:=rfl
theorem aX:deq (.lst []) (.lst [])=true:=rfl
theorem Nc{is:Gc Nat}:deq (.lst (Au is)) (.lst [])=is.isEmpty:=by
 cases is with
 |nil=>exact aX
 |cons i is=>exact YR
theorem GU{ds:Gc D}:JV 0 ds=(tL ds.length).map λ(i:Nat)=>D.tup [.int i,ds.getD i .non]:=by
 apply x5
 intro i
 rw[Hz,sP]
 by_cases h:i<ds.length
 .rw[sA h,xG h]
  simp[sA h]
 .rw[yA (by lia),yA (by simp;lia)]
  rfl
theorem JN{is:Gc Nat}:(Au is).length=is.length:=by simp[Au]
theorem Li{is:Gc Nat}{r:Int}(h0:0<=r)(h1:r<is.length):∃i∈is,atI (Au is) r=Fk (.int (i:Nat)):=by
 have h2:r.toNat<is.length:=by lia
 refine⟨is[r.toNat],vj h2,?_⟩
 have:=Y8 (xs:=Au is) h0 (by rw[JN];exact h1)
 rw[this]
 simp[Au]
theorem Ua{x K:Int}(h0:0<=x)(h1:x<2*K):x % K=if x<K then x else x-K:=by
 split
 .exact Int.emod_eq_of_lt h0 (by assumption)
 .have:x % K=(x-K) % K:=by rw[Int.sub_emod_right]
  rw[this]
  exact Int.emod_eq_of_lt (by lia) (by lia)
section
variable{S:Sto}{p s l m:Nat}{as:Gc Nat}{st:Stt}{t:Tr}{k:Nat}
noncomputable def CW(st:Stt):Gc Nat:=(tL st.AA.length).filter λi=>decide (0<(AJ st.AA i).n)
theorem Z3(hS:SAt S s l m as st)(hl:st.AA.length<=50):Bo [(l,as.map D.ref)] (tTp [tNm 0,tNm 1]) (eOp (o2 wGt) [eOp (o2 wIx) [eV 1,eC (.int 1)],eC (.int 0)]) (eV 0) (JV 0 (as.map D.ref)) [] [none,none] S=Fk (Au (CW st),S):=by
 have:=CA (gs:=[(l,as.map D.ref)]) (t:=tTp [tNm 0,tNm 1]) (c:=eOp (o2 wGt) [eOp (o2 wIx) [eV 1,eC (.int 1)],eC (.int 0)]) (f:=eV 0) (C:=[]) (m:=2) (e:=λi:Nat=>D.tup [.int i,(as.map D.ref).getD i .non]) (g:=λi:Nat=>D.int i) (b:=λi=>decide (0<(AJ st.AA i).n)) (S:=S) hS.guard (xs:=tL st.AA.length) (acc:=[]) (os:=[none,none]) rfl (sL (show _<=50 by simp;lia) (AI (by decide))) (by
  intro i hi os ho
  obtain⟨o1,o2,rfl⟩:=Ye ho
  obtain⟨a,a1,a2,a3⟩:=hS.at (wD.mp hi)
  have e:(as.map D.ref).getD i .non=.ref a:=by simp[a1]
  rw[e]
  refine⟨[Fk (.int i),Fk (.ref a)],rfl,by simp,?_,by simp⟩
  simp[An a2,CH])
 rw[GU,tq,hS.len]
 exact this
theorem Kr{i:Nat}(h:i∈CW st):i<st.AA.length/\0<(AJ st.AA i).n:=by
 unfold CW at h
 rw[xM]at h
 exact⟨wD.mp h.1,by simpa using h.2⟩
noncomputable def Ew(st:Stt)(j:Nat):Gc Nat:=(CW st).filter λi=> !(i==j) && ((AJ st.AA i).k==(AJ st.AA j).k)
theorem My:(CW st).length<=st.AA.length:=by
 unfold CW
 exact sL (vM _ _) (by simp)
theorem YJ{a b:Nat}:((a:Int)==(b:Int))=(a==b):=by
 by_cases h:a=b
 .subst h;simp
 .have:((a:Int)==(b:Int))=false:=by simp;lia
  rw[this];simp[h]
theorem Zh(hS:SAt S s l m as st)(hl:st.AA.length<=50){j:Nat}(hj:j∈CW st):Bo [] (tNm 2) (H0 (eOp (o2 wNe) [eV 2,eV 1]) (eOp (o2 wEq) [eOp (o2 wIx) [eOp (o2 wIx) [eV 0,eV 2],eC (.int 0)],eOp (o2 wIx) [eOp (o2 wIx) [eV 0,eV 1],eC (.int 0)]])) (eV 2) (Au (CW st)) [] [Fk (.ref l),Fk (.int j),none] S=Fk (Au (Ew st j),S):=by
 have fl:=My (st:=st)
 exact CA (gs:=[]) (t:=tNm 2) (f:=eV 2) (C:=[Fk (.ref l),Fk (.int j)]) (m:=1) (e:=λi:Nat=>D.int i) (g:=λi:Nat=>D.int i) (b:=λi=> !(i==j) && ((AJ st.AA i).k==(AJ st.AA j).k)) (S:=S) AZ (xs:=CW st) (acc:=[]) (os:=[none]) rfl (sL (show _<=50 by simp;lia) (AI (by decide))) (by
  intro i hi os ho
  obtain⟨o1,rfl⟩:=Ke ho
  obtain⟨a,a1,a2,a3⟩:=hS.at (Kr hi).1
  obtain⟨b,b1,b2,b3⟩:=hS.at (Kr hj).1
  refine⟨[Fk (.int i)],rfl,by simp,?_,by simp⟩
  by_cases e:i=j
  .subst e
   simp
  .have e':((i:Int)==(j:Int))=false:=by simp;lia
   have e2:(i==j)=false:=by simp[e]
   simp[e',e2,An hS.lo,a3,b3,An a2,An b2,CH,YJ])
theorem Wc{i j:Nat}(h:i∈Ew st j):i∈CW st/\i≠j/\(AJ st.AA i).k=(AJ st.AA j).k:=by
 unfold Ew at h
 rw[xM]at h
 simp at h
 exact⟨h.1,h.2.1,h.2.2⟩
noncomputable def FN(st:Stt):Gc Nat:=(tL 10).filter λi=> !(st.nums.any λu=>u==(i:Int))
theorem Qi{us:Gc Int}{i:Int}:inD (.int i) (us.map D.int)=us.any λu=>u==i:=by
 unfold inD
 rw[List.any_map]
 rfl
@[simp] theorem lT{b:Bool}{w:Wv}{r:List D}:wIn b w (.own r)=if(HN (fz w) && r.all HN)=true then some (.val (.bl (if b then !inD (fz w) r else inD (fz w) r)))else none:=nr rfl
@[simp] theorem lA{b:Bool}{w:Wv}{r:List D}:wIn b w (.val (.lst r))=if(HN (fz w) && r.all HN)=true then some (.val (.bl (if b then !inD (fz w) r else inD (fz w) r)))else none:=nr rfl
theorem Oz{us:Gc Int}:(us.map D.int).all HN=true:=by
 rw[List.all_map,List.all_eq_true]
 intro x _;rfl
@[simp] theorem ni{i:Int}:HN (.int i)=true:=nr rfl
theorem ay(hS:SAt S s l m as st):Bo [] (tNm 1) (eOp (o2 (wIn true)) [eV 1,eV 0]) (eV 1) (Ka 0 10) [] [Fk (.ref m),none] S=Fk (Au (FN st),S):=by
 exact CA (gs:=[]) (t:=tNm 1) (f:=eV 1) (C:=[Fk (.ref m)]) (m:=1) (e:=λi:Nat=>D.int (0+(i:Int))) (g:=λi:Nat=>D.int i) (b:=λi=> !(st.nums.any λu=>u==(i:Int))) (S:=S) AZ (xs:=tL 10) (acc:=[]) (os:=[none]) rfl (sL (show _<=50 by simp) (AI (by decide))) (by
  intro i hi os ho
  obtain⟨o1,rfl⟩:=Ke ho
  refine⟨[Fk (.int i)],rfl,by simp,?_,by simp⟩
  have nu:=An hS.nu
  have fi:=Oz (us:=st.nums)
  have ii:=Qi (us:=st.nums) (i:=(i:Int))
  generalize st.nums.map D.int=ud at*
  generalize (st.nums.any λu=>u==(i:Int))=bb at*
  simp[nu,fi,ii])
theorem Xq{i:Nat}(h:i∈FN st):(i:Int)∉st.nums/\i<=9:=by
 unfold FN at h
 rw[xM]at h
 have h1:=wD.mp h.1
 refine⟨?_,by lia⟩
 intro z
 have h2:=h.2
 have:(st.nums.any λu=>u==(i:Int))=true:=List.any_eq_true.mpr ⟨_,z,by simp⟩
 rw[this]at h2
 cases h2
theorem WZ:(FN st).length<=10:=by
 unfold FN
 exact sL (vM _ _) (by simp)
theorem YU{j:Nat}:(Ew st j).length<=st.AA.length:=by
 unfold Ew
 exact sL (vM _ _) My
end
section
variable{S:Sto}{p s l m:Nat}{as:Gc Nat}{st:Stt}{t:Tr}{k:Nat}
def Ud:Ex:=(AR (xIf (H0 (eOp (o2 wEq) [eV 7,eC (.int 7)]) (eOp (o2 wNe) [eV 12,Eu []])) (Aq (B0 [eC (.str "trade"),eOp (o2 wIx) [eV 12,AB AG [eV 0,eOp (o1 Ep) [eV 12]]],eV 8,eV 9,eV 11,AB BH [eV 0]])) Cv)
    (Aq (B0 [eC (.str "swap"),eV 8,eV 9,eV 11,AB BH [eV 0]])))
def VI:Ex:=(AR (xIf (eOp (o2 wEq) [eV 7,eC (.int 8)]) (Aq (B0 [eC (.str "spoil"),eV 8,eV 9])) Cv)
    (AR (xIf (H0 (eOp (o2 wEq) [eV 7,eC (.int 9)]) (eOp (o2 wGt) [eOp (o2 wIx) [eV 1,eC (.int 0)],eC (.int 1)])) (AR (A8 13 (AB AG [eV 0,eOp (o2 wIx) [eV 1,eC (.int 0)]]))
    (Aq (B0 [eC (.str "sell"),eV 13,eOp (o2 PU) [eOp (o2 Ct) [eOp (o2 Ct) [eV 13,eC (.int 1)],AB AG [eV 0,eOp (o2 Mm) [eOp (o2 wIx) [eV 1,eC (.int 0)],eC (.int 1)]]],eOp (o2 wIx) [eV 1,eC (.int 0)]],AB FV [eV 0]]))) Cv)
    (Aq (B0 [eC (.str "throw"),eV 8,eV 9,AB Dm [eV 0,eOp (o2 Ct) [eOp (o2 wIx) [eV 1,eC (.int 1)],eC (.int 1)]]]))))
def Oo:Ex:=(AR (xIf (H0 (eOp (o2 wLt) [eV 7,eC (.int 8)]) (eOp (o2 wGt) [eOp (o2 wIx) [eV 1,eC (.int 1)],eC (.int 1)])) (AR (A8 11 (eOp (o2 PU) [eOp (o2 Ct) [eOp (o2 Ct) [eOp (o2 wIx) [eOp (o2 wIx) [eV 3,eV 8],eC (.int 0)],eC (.int 1)],AB AG [eV 0,eOp (o2 Mm) [eOp (o2 wIx) [eV 1,eC (.int 1)],eC (.int 1)]]],eOp (o2 wIx) [eV 1,eC (.int 1)]]))
    (AR (A8 12 (Bg [5] 1 (L7 [eC (.int 10)]) (tNm 1) (eOp (o2 (wIn true)) [eV 1,eV 0]) (eV 1)))
    Ud)) Cv) VI)
def Vg:Ex:=(xIf (eOp (o2 wLt) [eV 7,eC (.int 5)]) (AR (A8 10 (Bg [3,8] 1 (Fq (eV 6)) (tNm 2) (H0 (eOp (o2 wNe) [eV 2,eV 1]) (eOp (o2 wEq) [eOp (o2 wIx) [eOp (o2 wIx) [eV 0,eV 2],eC (.int 0)],eOp (o2 wIx) [eOp (o2 wIx) [eV 0,eV 1],eC (.int 0)]])) (eV 2)))
    (xIf (eOp (o2 wNe) [eV 10,Eu []]) (Aq (B0 [eC (.str "pool"),eV 8,eOp (o2 wIx) [eV 10,AB AG [eV 0,eOp (o1 Ep) [eV 10]]]])) Cv)) Cv)
def Sm:AK->Prop
 | .Cd _ _ g _ n=>g<=2000/\n<2^130
 |_=>y8
def W3:Ex:=(AR (xIf (eOr (eOp (o2 wLt) [eV 7,eC (.int 2)]) (eOp (o2 wEq) [eV 6,Eu []])) (Aq (B0 [eC (.str "bring"),AB AG [eV 0,eOp (o2 wIx) [eV 1,eC (.int 0)]],AB AG [eV 0,eOp (o2 wIx) [eV 1,eC (.int 1)]],AB BH [eV 0]])) Cv)
    (AR (A8 8 (eOp (o2 wIx) [eV 6,AB AG [eV 0,eOp (o1 Ep) [eV 6]]]))
    (AR (A8 9 (eOp (o2 Ct) [eC (.int 1),AB AG [eV 0,eOp (o2 jB) [eOp (o2 wIx) [eOp (o2 wIx) [eV 3,eV 8],eC (.int 1)],eC (.int 2000)]]]))
    (AR Vg Oo))))
theorem X7:Mn=(AR (LC (tTp [tNm 3,tNm 4,tNm 5]) (eV 2)) (AR (A8 6 (Bg [] 2 (YI (eV 3)) (tTp [tNm 0,tNm 1]) (eOp (o2 wGt) [eOp (o2 wIx) [eV 1,eC (.int 1)],eC (.int 0)]) (eV 0))) (AR (A8 7 (AB AG [eV 0,eC (.int 12)])) W3))):=rfl
theorem XW(hp:Cu p S)(hS:SAt S s l m as st)(hps:p∉s::l::m::as)(ht:JB t)(h:DP t k st)(hk:k<=16):∃d S',EN [.ref p,t.d,.ref s] S=Fk (AK.d d,S')/\Pn p S S'/\Can t st d/\Sm d:=by
 obtain⟨t1,t2,t3,t4,t5,t6⟩:=ht
 have hlen:=h.len
 have st':∀{S':Sto},Pn p S S'->SAt S' s l m as st:=λg=>hS.same g.same (by simpa using hps)
 have r0:=AX hS.root
 have cf:=Z3 hS (by lia)
 have fl:=My (st:=st)
 have sq:=Hw hS.lo
 obtain⟨way,S1,e1,a1,b1,p1⟩:=Ak hp (n:=12) (by decide) (by decide)
 have okF:=LD (is:=CW st)
 have dqF:=Nc (is:=CW st)
 have pr0:EN [.ref p,t.d,.ref s] S=(W3 [Fk (.ref p),Fk t.d,Fk (.ref s),Fk (.ref l),Fk (shD st.hold),Fk (.ref m),Fk (.lst (Au (CW st))),Fk (.int way),none,none,none,none,none,none] S1).map λr=>(flD r.1,r.2.2):=by
  simp[EN,X7,r0,sq,cf,e1]
 by_cases hb:way<2\/(CW st).isEmpty=true
 .obtain⟨x2,S2,e2,a2,b2,p2⟩:=Ak p1.pen (n:=t.p) (by lia) (by lia)
  obtain⟨x3,S3,e3,a3,b3,p3⟩:=Ak p2.pen (n:=t.k) (by lia) (by lia)
  obtain⟨x4,S4,e4,p4,a4,b4⟩:=Le p3.pen
  obtain⟨x2,rfl⟩:=G7 a2
  obtain⟨x3,rfl⟩:=G7 a3
  refine⟨.DU x2 x3 x4,S4,?_,((p1.trans p2).trans p3).trans p4,⟨by lia,by lia,a4,b4⟩,trivial⟩
  rw[pr0]
  have ho:∀(x y:Ex),xIf (eOr (eOp (o2 wLt) [eV 7,eC (.int 2)]) (eOp (o2 wEq) [eV 6,Eu []])) x y [Fk (.ref p),Fk t.d,Fk (.ref s),Fk (.ref l),Fk (shD st.hold),Fk (.ref m),Fk (.lst (Au (CW st))),Fk (.int way),none,none,none,none,none,none] S1=x [Fk (.ref p),Fk t.d,Fk (.ref s),Fk (.ref l),Fk (shD st.hold),Fk (.ref m),Fk (.lst (Au (CW st))),Fk (.int way),none,none,none,none,none,none] S1:=by
   intro x y
   by_cases hw:way<2
   .simp[hw]
   .simp[hw,okF,dqF,hb.resolve_left hw]
  simp[W3,-V8,ho]
  simp[Tr.d,e2,e3,e4,AK.d]
 .have hw2:¬way<2:=λz=>hb (.inl z)
  have hf:(CW st).isEmpty=false:=by
   cases z:(CW st).isEmpty with
   |true=>exact absurd (.inr z) hb
   |false=>rfl
  have hfl:0<(CW st).length:=by
   cases z:CW st with
   |nil=>rw[z]at hf;cases hf
   |cons a b=>simp
  obtain⟨rl,S2,e2,a2,b2,p2⟩:=Ak p1.pen (n:=(CW st).length) (by lia) (by lia)
  obtain⟨i,mi,ei⟩:=Li a2 b2
  have fi:=Kr mi
  have hS1:=st' p1
  have hS2:=st' (p1.trans p2)
  obtain⟨a,x1,x2,x3⟩:=hS2.at fi.1
  have n1:=fi.2
  obtain⟨rs,S3,e3,a3,b3,p3⟩:=Ak p2.pen (n:=if 2000<(AJ st.AA i).n then 2000 else(AJ st.AA i).n) (by split<;>lia) (by split<;>lia)
  have hsome:1<=1+rs/\1+rs<=(AJ st.AA i).n:=by split at b3<;>lia
  have p23:=(p1.trans p2).trans p3
  have hS3:=st' p23
  have lo2:=An hS2.lo
  have lo3:=An hS3.lo
  have x2':=An x2
  have x4:S3[a]?=Fk (CH (AJ st.AA i)):=hS3.ld i a _ x1 (Cp fi.1)
  have x4':=An x4
  have kd:=h.kind _ (AW fi.1)
  have nl:=JN (is:=CW st)
  have cs:=Zh hS3 (by lia) mi
  have okS:=LD (is:=Ew st i)
  have dqS:=Nc (is:=Ew st i)
  have sl:=YU (st:=st) (j:=i)
  have nls:=JN (is:=Ew st i)
  have pre:EN [.ref p,t.d,.ref s] S=((Vg [Fk (.ref p),Fk t.d,Fk (.ref s),Fk (.ref l),Fk (shD st.hold),Fk (.ref m),Fk (.lst (Au (CW st))),Fk (.int way),Fk (.int i),Fk (.int (1+rs)),none,none,none,none] S3).bind (dD Oo)).map λr=>(flD r.1,r.2.2):=by
   rw[pr0]
   simp[W3,hw2,okF,dqF,hf,nl,e2,ei,lo2,x3,x2',e3]
  have tail:∀o10,(way<5->(Ew st i).isEmpty=true)->∃d S',(Oo [Fk (.ref p),Fk t.d,Fk (.ref s),Fk (.ref l),Fk (shD st.hold),Fk (.ref m),Fk (.lst (Au (CW st))),Fk (.int way),Fk (.int i),Fk (.int (1+rs)),o10,none,none,none] S3).map (λr=>(flD r.1,r.2.2))=Fk (AK.d d,S')/\Pn p S S'/\Can t st d/\Sm d:=by
   intro o10 _
   generalize hE:([Fk (.ref p),Fk t.d,Fk (.ref s),Fk (.ref l),Fk (shD st.hold),Fk (.ref m),Fk (.lst (Au (CW st))),Fk (.int way),Fk (.int i),Fk (.int (1+rs)),o10,none,none,none]:En)=E
   clear pre cs okS dqS
   by_cases hsw:way<8/\1<t.k
   .obtain⟨hw8,hk1⟩:=hsw
    have hk1':(1:Int)<t.k:=by lia
    obtain⟨rk,S4,e4,a4,b4,p4⟩:=Ak p3.pen (n:=(t.k:Int)-1) (by lia) (by lia)
    have hS4:=st' (p23.trans p4)
    have hmod:=Ua (x:=((AJ st.AA i).k:Int)+1+rk) (K:=t.k) (by lia) (by lia)
    obtain⟨kd2,ekd⟩:∃q:Nat,((AJ st.AA i).k+1+rk) % (t.k:Int)=(q:Int):=⟨_,(uM (vy _ (by lia))).symm⟩
    have hkd:kd2<t.k/\kd2≠(AJ st.AA i).k:=by
     rw[ekd]at hmod
     split at hmod<;>lia
    have kp:0<t.k:=by lia
    have cl:=ay hS4
    have okL:=LD (is:=FN st)
    have dqL:=Nc (is:=FN st)
    have ll:=WZ (st:=st)
    have nll:=JN (is:=FN st)
    have rt:HI 10=true:=Cq (by decide) (by decide)
    have mid:Oo E S3=(Ud [Fk (.ref p),Fk t.d,Fk (.ref s),Fk (.ref l),Fk (shD st.hold),Fk (.ref m),Fk (.lst (Au (CW st))),Fk (.int way),Fk (.int i),Fk (.int (1+rs)),o10,Fk (.int kd2),Fk (.lst (Au (FN st))),none] S4).bind (dD VI):=by
     subst hE
     simp[Oo,Tr.d,x3,hw8,hk1',lo3,x4',e4,kp,ekd,rt,cl]
    rw[mid]
    clear mid hE
    by_cases htr:way=7/\(FN st).isEmpty=false
    .obtain⟨hw7,hle⟩:=htr
     have hll:0<(FN st).length:=by
      cases z:FN st with
      |nil=>rw[z]at hle;cases hle
      |cons a b=>simp
     obtain⟨ru,S5,e5,a5,b5,p5⟩:=Ak p4.pen (n:=(FN st).length) (by lia) (by lia)
     obtain⟨u,mu,eu⟩:=Li a5 b5
     obtain⟨x6,S6,e6,p6,a6,b6⟩:=MR p5.pen
     have fu:=Xq mu
     refine⟨.Cd u i (1+rs) kd2 x6,S6,?_,((p23.trans p4).trans p5).trans p6,⟨fi.1,hsome.1,hsome.2,hkd.1,hkd.2,a6,Int.lt_trans b6 (by decide),fu.1,by lia,by lia⟩,by split at b3<;>lia,b6⟩
     subst hw7
     simp[Ud,okL,dqL,hle,nll,e5,eu,e6,AK.d]
    .obtain⟨x6,S6,e6,p6,a6,b6⟩:=Le p4.pen
     refine⟨.swap i (1+rs) kd2 x6,S6,?_,(p23.trans p4).trans p6,⟨fi.1,hsome.1,hsome.2,hkd.1,hkd.2,a6,b6⟩,trivial⟩
     by_cases h7:way=7
     .subst h7
      have hle:(FN st).isEmpty=true:=by
       cases z:(FN st).isEmpty with
       |true=>rfl
       |false=>exact absurd ⟨rfl,z⟩ htr
      simp[Ud,okL,dqL,hle,e6,AK.d]
     .have h7':(way==7)=false:=by simpa using h7
      simp[Ud,h7',e6,AK.d]
   .have sw:Oo E S3=VI E S3:=by
     subst hE
     by_cases w8:way<8
     .have hk1:¬(1:Int)<t.k:=by lia
      simp[Oo,Tr.d,w8,hk1]
     .simp[Oo,w8]
    rw[sw]
    clear sw
    by_cases h8:way=8
    .subst h8
     refine⟨.DQ i (1+rs),S3,?_,p23,⟨fi.1,hsome.1,hsome.2⟩,trivial⟩
     subst hE
     rfl
    .have h8':(way==8)=false:=by simpa using h8
     by_cases h9:way=9/\1<t.p
     .obtain⟨h9,hP⟩:=h9
      subst h9
      have hP':(1:Int)<t.p:=by lia
      obtain⟨rp,S4,e4,a4,b4,p4⟩:=Ak p3.pen (n:=t.p) (by lia) (by lia)
      obtain⟨rq,S5,e5,a5,b5,p5⟩:=Ak p4.pen (n:=(t.p:Int)-1) (by lia) (by lia)
      obtain⟨sh,S6,e6,p6,a6,b6,c6⟩:=Xx p5.pen
      have hmod:=Ua (x:=rp+1+rq) (K:=t.p) (by lia) (by lia)
      obtain⟨q,eq⟩:∃q:Nat,(rp+1+rq) % (t.p:Int)=(q:Int):=⟨_,(uM (vy _ (by lia))).symm⟩
      obtain⟨rp,rfl⟩:=G7 a4
      have hq:q<t.p/\q≠rp:=by
       rw[eq]at hmod
       split at hmod<;>lia
      have pp:0<t.p:=by lia
      refine⟨.Gq rp q sh,S6,?_,((p23.trans p4).trans p5).trans p6,⟨λz=>hq.2 z.symm,by lia,hq.1,a6,b6,c6⟩,trivial⟩
      subst hE
      simp[VI,Tr.d,hP',e4,e5,pp,eq,e6,AK.d]
     .have s9:∀(x y:Ex) (T:Sto),xIf (H0 (eOp (o2 wEq) [eV 7,eC (.int 9)]) (eOp (o2 wGt) [eOp (o2 wIx) [eV 1,eC (.int 0)],eC (.int 1)])) x y E T=y E T:=by
       intro x y T
       subst hE
       by_cases z:way=9
       .have hP:¬(1:Int)<t.p:=by have:¬1<t.p:=λw=>h9 ⟨z,w⟩;lia
        subst z
        simp[Tr.d,hP]
       .have z':(way==9)=false:=by simpa using z
        simp[z']
      obtain⟨ws,S4,e4,p4,a4,b4⟩:=VW p3.pen (n:=t.k+1) (by lia)
      have e4':Dm [.ref p,.int ((t.k:Int)+1)] S3=Fk (.tup (ws.map .int),S4):=e4
      refine⟨.thr i (1+rs) ws,S4,?_,p23.trans p4,⟨fi.1,hsome.1,hsome.2,a4,b4⟩,trivial⟩
      have s8:∀(x y:Ex) (T:Sto),xIf (eOp (o2 wEq) [eV 7,eC (.int 8)]) x y E T=y E T:=by
       intro x y T
       subst hE
       simp[h8']
      simp[VI,-V8,s8,s9]
      subst hE
      simp[Tr.d,e4',AK.d]
  by_cases hpool:way<5/\(Ew st i).isEmpty=false
  .obtain⟨hw5,hse⟩:=hpool
   have hsl:0<(Ew st i).length:=by
    cases z:Ew st i with
    |nil=>rw[z]at hse;cases hse
    |cons a b=>simp
   obtain⟨rj,S4,e4,a4,b4,p4⟩:=Ak p3.pen (n:=(Ew st i).length) (by lia) (by lia)
   obtain⟨j,mj,ej⟩:=Li a4 b4
   have fj:=Wc mj
   have fj':=Kr fj.1
   refine⟨.F9 i j,S4,?_,p23.trans p4,⟨λz=>fj.2.1 z.symm,fi.1,fj'.1,n1,fj'.2,fj.2.2.symm⟩,trivial⟩
   rw[pre]
   simp[Vg,hw5,cs,okS,dqS,hse,nls,e4,ej,AK.d]
  .by_cases w5:way<5
   .have hse:(Ew st i).isEmpty=true:=by
     cases z:(Ew st i).isEmpty with
     |true=>rfl
     |false=>exact absurd ⟨w5,z⟩ hpool
    obtain⟨d,S',e,pn,hc⟩:=tail (Fk (.lst (Au (Ew st i)))) (λ_=>hse)
    refine⟨d,S',?_,pn,hc⟩
    rw[pre,<-e]
    simp[Vg,w5,cs,okS,dqS,hse]
   .obtain⟨d,S',e,pn,hc⟩:=tail none (λz=>absurd z w5)
    refine⟨d,S',?_,pn,hc⟩
    rw[pre,<-e]
    simp[Vg,w5]
end
noncomputable def runs(t:Tr)(st:Stt)(ds:Gc AK):Stt:=ds.foldl (step t) st
def JX(t:Tr):Stt->Gc AK->Prop
 |_,[]=>y8
 |st,d::ds=>Can t st d/\JX t (step t st d) ds
theorem Mb{t:Tr}{d:AK}:∀{ds:Gc AK} {st:Stt},JX t st ds->Can t (runs t st ds) d->JX t st (ds++[d])
 | [],st,_,h=>⟨h,trivial⟩
 |x::ds,st,h,g=>⟨h.1,Mb h.2 g⟩
theorem Gh{t:Tr}{ds:Gc AK}{st:Stt}{i:Nat}{d:AK}(h:JX t st ds)(g:ds[i]?=Fk d):Can t (runs t st (ds.take i)) d:=by
 induction ds generalizing st i with
 |nil=>simp at g
 |cons x ds ih=>
  cases i with
  |zero=>simp at g;subst g;exact h.1
  |succ i=>simp at g;exact ih h.2 g
theorem OF{t:Tr}{st:Stt}{ds:Gc AK}{d:AK}:runs t st (ds++[d])=step t (runs t st ds) d:=by simp[runs]
theorem FQ{t:Tr}{st:Stt}{ds:Gc AK}{i:Nat}{d:AK}(h:ds[i]?=Fk d):runs t st (ds.take (i+1))=step t (runs t st (ds.take i)) d:=by
 rw[AAD,h]
 exact OF
theorem Ni{t:Tr}(ht:JB t):∀{ds:Gc AK} {st:Stt} {k:Nat},DP t k st->JX t st ds->k+ds.length<=17->DP t (k+ds.length) (runs t st ds)
 | [],st,k,h,_,_=>h
 |d::ds,st,k,h,g,hl=>by
  have:=Ni ht (ds:=ds) (QN ht h (by simp at hl;lia) g.1) g.2 (by simp at hl;lia)
  rw[show k+(d::ds).length=k+1+ds.length by simp;lia]
  exact this
theorem Mh{t:Tr}:∀{ds:Gc AK} {st:Stt} {i:Nat},JX t st ds->JX t st (ds.take i)
 | [],st,i,h=>by simp;exact trivial
 |d::ds,st,0,h=>trivial
 |d::ds,st,i+1,h=>⟨h.1,Mh h.2⟩
noncomputable def st0(t:Tr)(ls:Gc Ld):Stt:=⟨ls,t.ho,[]⟩
structure A4(t:Tr)(ls:Gc Ld)(ds:Gc AK):Prop where
 tr:JB t
 inv:DP t 0 (st0 t ls)
 good:JX t (st0 t ls) ds
 len:ds.length<=16
theorem A4.at{t:Tr}{ls:Gc Ld}{ds:Gc AK}(h:A4 t ls ds)(i:Nat):DP t (ds.take i).length (runs t (st0 t ls) (ds.take i)):=by
 have:=Ni h.tr (ds:=ds.take i) h.inv (Mh h.good) (by have:=h.len;simp;lia)
 rwa [zc]at this
noncomputable def AL(t:Tr)(ls:Gc Ld)(ds:Gc AK):D:=.tup [t.d,.tup (ls.map Ld.d),.tup (ds.map AK.d)]
theorem T8{t:Tr}{ls:Gc Ld}(h:G4 t ls)(hl:ls.length<=4)(h1:t.ho.length=t.p){g:Nat}(g0:0<g)(g1:g<=32)(g2:∀r∈t.ho,Ok g g r):DP t 0 (st0 t ls):=by
 obtain⟨ha,G,G0,G1,G2⟩:=h
 have hG:G<=32^4:=sL G1 (uC (by decide) hl)
 have hB:G*g<2^30:=by
  have:=yv hG g1
  lia
 refine DP.of (G:=G*g) (B:=G*g) (by simpa[st0]using hl) ?_ h1 (sM _) (yP G0 g0) (sM _) hB ?_
 .intro x hx
  have:=ha x hx
  exact⟨this.1,by lia,bK this.2.2.1,this.2.2.2.1,λr hr=>(G2 x hx r hr).up (sM _)⟩
 .intro r hr
  have:=(g2 r hr).up (t:=G) (B':=G*g) (by rw[wN];exact sM _)
  rwa [wN g G]at this
noncomputable def JS:AK->tV
 | .thr .. =>true
 |_=>false
section
variable{S:Sto}{p:Nat}
theorem XT(d:AK)(E:En)(h:E=[Fk d.d]):eOp (o2 wEq) [eOp (o2 wIx) [eV 0,eC (.int 0)],eC (.str "throw")] E S=Fk (.bl (JS d),S):=by
 subst h
 cases d<;>simp[AK.d,JS]
theorem pz{q:Nat}{ds:Gc AK}(hq:S[q]?=Fk (.lst (ds.map AK.d)))(hl:ds.length<=50):Bo [(q,ds.map AK.d)] (tNm 0) (eOp (o2 wEq) [eOp (o2 wIx) [eV 0,eC (.int 0)],eC (.str "throw")]) (eV 0) (ds.map AK.d) [] [none] S=Fk ((ds.filter JS).map AK.d,S):=
 CA (gs:=[(q,ds.map AK.d)]) (t:=tNm 0) (f:=eV 0) (C:=[]) (m:=1) (e:=AK.d) (g:=AK.d) (b:=JS) (S:=S) (λg hg=>by rw[tJ.mp hg];exact AX hq) (xs:=ds) (acc:=[]) (os:=[none]) rfl (sL (show _<=50 by simp;lia) (AI (by decide))) (by
  intro d _ os ho
  obtain⟨o1,rfl⟩:=Ke ho
  exact⟨[Fk d.d],rfl,by simp,XT d _ rfl,by simp⟩)
theorem Wb{M:Nat}(hM:M<=16)(h:Cu p S):∃t ls ds S',Dp [.ref p,.int M] S=Fk (AL t ls ds,S')/\(A4 t ls ds/\ds.length<=M/\(∀d∈ds,Sm d)/\pL t)/\((∀l∈ls,l.ow.sum=1)/\t.ho.sum=1)/\Cu p S'/\∀n c,S[n]?=Fk c->n≠p->S'[n]?=Fk c:=by
 obtain⟨t,S1,e1,p1,ht,⟨hh,hhr⟩,g,g0,g1,g2⟩:=WA h
 obtain⟨ls,S2,e2,p2,hf,hl⟩:=XO p1.pen ht
 have hi:=T8 hf hl hh.1 g0 g1 g2
 obtain⟨s,l,m,as,S3,e3,hS,sm,hn⟩:=X4 (S:=S2) (t:=t) (ls:=ls) (x:=.tup []) (by lia)
 have lp:=p2.pen.lt
 have l02:S.length<=S2.length:=sL p1.same.len p2.same.len
 have pen3:Cu p S3:=by
  obtain⟨ds,e,hp⟩:=p2.pen
  exact⟨ds,sm.get e (by simp),hp⟩
 have hq:(S3++[Cl.lst []])[S3.length]?=Fk (.lst []):=sV
 obtain⟨rn,S4,e4,a4,b4,p4⟩:=Ak (pen3.app [Cl.lst []]) (n:=(M:Int)+1) (by lia) (by lia)
 have lt3:=hS.lts
 have pn:p∉s::l::m::as:=λz=>by have:=hn p z;lia
 have qn:S3.length∉s::l::m::as:=λz=>by have:=lt3 _ z;lia
 have hpq:S3.length≠p:=by have:=pen3.lt;lia
 have hS4:SAt S4 s l m as (st0 t ls):=(hS.TC (.app)).same p4.same (by simpa using pn)
 have hq4:S4[S3.length]?=Fk (.lst []):=p4.get hq hpq
 obtain⟨rn,rfl⟩:=G7 a4
 have rk:HI (rn:Int)=true:=Cq (by lia) (by lia)
 have lqS:S.length<=S3.length:=sL l02 sm.len
 generalize hQ:S3.length=q at*
 obtain⟨E',S',ef,ds,as',o6,o7,rfl,f1,f2,f3,f4,f5,f6,f7,f8,f9,f10⟩:=EV (gs:=[]) (t:=tNm 6) (b:=AR (A8 7 (AB EN [eV 0,eV 2,eV 4]))
  (xIf (eOr (eOp (o2 wNe) [eOp (o2 wIx) [eV 7,eC (.int 0)],eC (.str "throw")]) (eOp (o2 wLt) [eOp (o1 Ep) [Bg [] 1 (Fq (eV 5)) (tNm 0) (eOp (o2 wEq) [eOp (o2 wIx) [eV 0,eC (.int 0)],eC (.str "throw")]) (eV 0)],eC (.int 3)])) (AR (Ac (AB EB [eV 2,eV 4,eV 7]))
  (Ac (Fi Fp (eV 5) [eV 7]))) Cv))
  (I:=λrs E S'=>∃(ds:Gc AK) (as':Gc Nat) (o6 o7:sD D),E=[Fk (.ref p),Fk (.int M),Fk t.d,Fk (.tup (ls.map Ld.d)),Fk (.ref s),Fk (.ref q),o6,o7]/\S'[q]?=Fk (.lst (ds.map AK.d))/\Cu p S'/\SAt S' s l m as' (runs t (st0 t ls) ds)/\JX t (st0 t ls) ds/\ds.length+rs.length<=M/\p∉s::l::m::as'/\q∉s::l::m::as'/\(∀n∈s::l::m::as',S.length<=n)/\(∀n c,S[n]?=Fk c->n≠p->S'[n]?=Fk c)/\∀d∈ds,Sm d)
  (λ_ _ _ _=>AZ) (ds:=Ka 0 rn) (E:=[Fk (.ref p),Fk (.int M),Fk t.d,Fk (.tup (ls.map Ld.d)),Fk (.ref s),Fk (.ref q),none,none]) (S:=S4)
  ⟨[],as,none,none,rfl,hq4,p4.pen,hS4,trivial,by rw[Fz];simp;lia,pn,qn,λn z=>sL l02 (hn n z),λn c e ne=>p4.get (By.get (A:=[]) .app (sm.get (p2.get (p1.get e ne) ne) (by simp)) (by simp)) ne,λ_ z=>nomatch z⟩ (by
    rintro dd rs E T ⟨ds,as',o6,o7,rfl,i1,i2,i3,i4,i5,i6,i7,i8,i9,i10⟩
    simp only[tY]at i5
    have inv:=Ni ht hi i4 (by lia)
    rw[zc]at inv
    obtain⟨d,T1,d1,d2,d3,d4⟩:=XW i2 i3 i6 ht inv (by lia)
    have lS:S.length<=T1.length:=by have:=i8 s sZ;have:=Ai i3.root;have:=d2.same.len;lia
    have j3:=i3.same d2.same (by simpa using i6)
    have j1:T1[q]?=Fk (.lst (ds.map AK.d)):=d2.get i1 hpq
    have tc:=pz j1 (by lia)
    have w1:∀(c:Ev),eOr (eOp (o2 wNe) [eOp (o2 wIx) [eV 7,eC (.int 0)],eC (.str "throw")]) c [Fk (.ref p),Fk (.int M),Fk t.d,Fk (.tup (ls.map Ld.d)),Fk (.ref s),Fk (.ref q),Fk dd,Fk d.d] T1=if JS d=true then c [Fk (.ref p),Fk (.int M),Fk t.d,Fk (.tup (ls.map Ld.d)),Fk (.ref s),Fk (.ref q),Fk dd,Fk d.d] T1 else Fk (.bl true,T1):=by
     intro c
     cases d<;>simp[AK.d,JS]
    by_cases hb:JS d=false\/(ds.filter JS).length<3
    .obtain⟨T2,as2,k1,k2,k3,k4⟩:=mE j3 ht inv (by lia) d3
     have lt:=j3.lts
     have q2:T2[q]?=Fk (.lst (ds.map AK.d)):=k3.get j1 i7
     have hz:ds.length<sizeLine:=sI (show ds.length<50 by lia) (AI (by decide))
     refine⟨_,[Fk (.ref p),Fk (.int M),Fk t.d,Fk (.tup (ls.map Ld.d)),Fk (.ref s),Fk (.ref q),Fk dd,Fk d.d],T2.set q (.lst ((ds++[d]).map AK.d)),by simp;rfl,?_,ds++[d],as2,Fk dd,Fk d.d,rfl,sX (Ai q2),?_,?_,Mb i4 d3,by simp;lia,?_,?_,?_,?_,λx hx=>(sx.mp hx).elim (i10 x) λz=>by rw[tJ.mp z];exact d4⟩
     .have kk:=AX q2
      have sq:=Hw j1
      have hz':(ds.map AK.d).length<sizeLine:=by simpa using hz
      have hfin:(ds++[d]).map AK.d=ds.map AK.d++[d.d]:=by simp
      rw[hfin]
      generalize hDD:ds.map AK.d=DD at*
      cases ht':JS d with
      |false=>
       simp[d1,-P4,w1,ht',k1,kk,hz']
      |true=>
       have h3:((ds.filter JS).length:Int)<3:=by
        have:=hb.resolve_left (by rw[ht'];simp)
        lia
       simp[d1,-P4,w1,ht',sq,tc,h3,k1,kk,hz']
     .obtain⟨pd,pe,ph⟩:=d2.pen
      exact⟨pd,by rw[sJ hpq];exact k3.get pe i6,ph⟩
     .rw[OF]
      exact k2.same (A:=[q]) (.set (by simp)) (by
       intro n hn z
       simp at hn;subst hn
       simp only[sN]at z i7
       rcases z with z|z|z|z
       .exact i7 (.inl z)
       .exact i7 (.inr (.inl z))
       .exact i7 (.inr (.inr (.inl z)))
       .rcases k4 _ z with w|w
        .exact i7 (.inr (.inr (.inr w)))
        .have:=Ai j1;lia)
     .intro z
      simp only[sN]at z i6
      rcases z with z|z|z|z
      .exact i6 (.inl z)
      .exact i6 (.inr (.inl z))
      .exact i6 (.inr (.inr (.inl z)))
      .rcases k4 _ z with w|w
       .exact i6 (.inr (.inr (.inr w)))
       .have:=d2.pen.lt;lia
     .intro z
      simp only[sN]at z i7
      rcases z with z|z|z|z
      .exact i7 (.inl z)
      .exact i7 (.inr (.inl z))
      .exact i7 (.inr (.inr (.inl z)))
      .rcases k4 _ z with w|w
       .exact i7 (.inr (.inr (.inr w)))
       .have:=Ai j1;lia
     .intro n z
      simp only[sN]at z i8
      rcases z with z|z|z|z
      .exact i8 n (.inl z)
      .exact i8 n (.inr (.inl z))
      .exact i8 n (.inr (.inr (.inl z)))
      .rcases k4 _ z with w|w
       .exact i8 n (.inr (.inr (.inr w)))
       .exact sL lS w
     .intro n c e ne
      have ln:n<S.length:=Ai e
      rw[sJ (λz=>by have:=lqS;lia)]
      exact k3.get (d2.get (i9 n c e ne) ne) λz=>by have:=i8 n z;lia
    .have ht':JS d=true:=by
      cases z:JS d with
      |true=>rfl
      |false=>exact absurd (.inl z) hb
     have h3:¬((ds.filter JS).length:Int)<3:=by
      have:¬(ds.filter JS).length<3:=λz=>hb (.inr z)
      lia
     refine⟨_,[Fk (.ref p),Fk (.int M),Fk t.d,Fk (.tup (ls.map Ld.d)),Fk (.ref s),Fk (.ref q),Fk dd,Fk d.d],T1,by simp;rfl,?_,ds,as',Fk dd,Fk d.d,rfl,j1,d2.pen,j3,i4,by lia,i6,i7,i8,λn c e ne=>d2.get (i9 n c e ne) ne,i10⟩
     have sq:=Hw j1
     generalize hDD:ds.map AK.d=DD at*
     simp[d1,-P4,w1,ht',sq,tc,h3])
 refine⟨t,ls,ds,S',?_,⟨⟨ht,hi,f4,by simp at f5;lia⟩,by simpa using f5,f10,hhr⟩,⟨λx hx=>(hf.1 x hx).2.2.2.2,hh.2⟩,f2,f9⟩
 have df:=An f1
 simp[Dp,Ml,e1,e2,e3,hQ,e4,rk,ef,df,AL]
theorem Wh{M:Nat}(hM:M<=16)(h:Cu p S):∃t ls ds S',Dp [.ref p,.int M] S=Fk (AL t ls ds,S')/\(A4 t ls ds/\ds.length<=M/\∀d∈ds,Sm d)/\((∀l∈ls,l.ow.sum=1)/\t.ho.sum=1)/\Cu p S'/\∀n c,S[n]?=Fk c->n≠p->S'[n]?=Fk c:=
 let⟨t,ls,ds,S',a,b,c⟩:=Wb hM h
 ⟨t,ls,ds,S',a,⟨b.1,b.2.1,b.2.2.1⟩,c⟩
theorem X1{M:Nat}(hM:M<=16)(h:Cu p S):∃t ls ds S',Dp [.ref p,.int M] S=Fk (AL t ls ds,S')/\(A4 t ls ds/\ds.length<=M)/\((∀l∈ls,l.ow.sum=1)/\t.ho.sum=1)/\Cu p S'/\∀n c,S[n]?=Fk c->n≠p->S'[n]?=Fk c:=by
 obtain⟨t,ls,ds,S',a,b,c⟩:=Wh hM h
 exact⟨t,ls,ds,S',a,⟨b.1,b.2.1⟩,c⟩
end
section
variable{S:Sto}{s l m:Nat}{as:Gc Nat}{st:Stt}
theorem Tq{rs:Gc Rat}:D.tup (rs.map aD)=shD rs:=rfl
end
theorem QC{n m d:Nat}(h:n<=m):HT.sIx m d (Fk (n:Int))=n:=by
 unfold HT.sIx
 have:¬((n:Int)<0):=by lia
 simp[this]
 lia
theorem E8{α:Type}{ds:Gc α}{n:Nat}(h:n<=ds.length):Kc ds none (Fk (n:Int))=ds.take n:=by
 unfold Kc
 rw[QC h]
 simp[HT.sIx]
theorem XJ{α:Type}{ds:Gc α}{n:Nat}(h:n<=ds.length):Kc ds (Fk (n:Int)) none=ds.drop n:=by
 unfold Kc
 rw[QC h]
 simp[HT.sIx]
 exact ve (by simp)
noncomputable def hD(x:Ld):D:=.tup [.int x.k,.int x.n]
noncomputable def Ah(ls:Gc Ld):D:=.lst (ls.map hD)
noncomputable def Je(ls:Gc Ld):D:=.lst (ls.map λx=>shD x.ow)
section
variable{S:Sto}{ls:Gc Ld}{i j:Nat}{n:Int}
@[simp] theorem lN:dr S (Ah ls)=.val (Ah ls):=nr rfl
@[simp] theorem oV:dr S (Je ls)=.val (Je ls):=nr rfl
@[simp] theorem iz:asS (.val (Ah ls))=some (ls.map hD):=nr rfl
@[simp] theorem jd:asS (.val (Je ls))=some (ls.map λx=>shD x.ow):=nr rfl
theorem DM(hi:i<ls.length):atI (ls.map hD) (i:Int)=Fk (hD (AJ ls i)):=Bq (by rw[sP,Cp hi];rfl)
theorem GK(hi:i<ls.length):atI (ls.map λx=>shD x.ow) (i:Int)=Fk (shD (AJ ls i).ow):=Bq (by rw[sP,Cp hi];rfl)
@[simp] theorem qB{x:Ld}:dr S (hD x)=.val (.tup [.int x.k,.int x.n]):=nr rfl
@[simp] theorem oq{ts:List Tf}{x:Ld}{E:En}:tTp ts (hD x) E S=tMs ts [.int x.k,.int x.n] E S:=nr rfl
theorem Wu{lo hi:sD Int}:wSl lo hi (.val (Ah ls))=Fk (.own (Kc (ls.map hD) lo hi)):=nr rfl
theorem FG(hi:i<ls.length)(hl:ls.length<=60):Bc [Ah ls,.int i,.int n] S=Fk (Ah (less ls i n),S):=by
 have c1:=E8 (ds:=ls.map hD) (n:=i) (by simp;lia)
 have c2:Kc (ls.map hD) (Fk ((i:Int)+1)) none=(ls.map hD).drop (i+1):=by
  have:=XJ (ds:=ls.map hD) (n:=i+1) (by simp;lia)
  simpa using this
 have ef:Ah (less ls i n)=.lst ((ls.map hD).take i++[.tup [.int (AJ ls i).k,.int ((AJ ls i).n-n)]]++(ls.map hD).drop (i+1)):=by
  rw[Pl,Ah,vf,List.set_eq_take_append_cons_drop,tK (by simpa using hi)]
  simp[hD]
 have z1:(List.take i (ls.map hD)).length+1<=sizeLine:=sL (show _<=100 by simp;lia) (AI (by decide))
 have z2:(List.take i (ls.map hD)++[D.tup [.int (AJ ls i).k,.int ((AJ ls i).n-n)]]).length+(List.drop (i+1) (ls.map hD)).length<=sizeLine:=sL (show _<=100 by simp;lia) (AI (by decide))
 rw[ef]
 have ah:=DM hi
 have ws:=λ{lo hi:sD Int}=>Wu (ls:=ls) (lo:=lo) (hi:=hi)
 generalize List.take i (ls.map hD)=A at*
 generalize List.drop (i+1) (ls.map hD)=B at*
 simp only[uN,tY,vA]at z2
 simp[Bc,HE,ah,ws,c1,c2,z1,z2]
end
section
variable{S:Sto}{st:Stt}{t:Tr}{k:Nat}
@[simp] theorem Em{ls:List Ld}{r:List D}:Ct (.val (Ah ls)) (.val (.lst r))=if(ls.map hD).length+r.length<=sizeLine then some (.own (ls.map hD++r))else none:=nr rfl
theorem Ks{ls:Gc Ld}{y:Ld}:D.lst (ls.map hD++[.tup [.int y.k,.int y.n]])=Ah (ls++[y]):=by simp[Ah,hD]
theorem FX(h:DP t k st)(hk:k<=17){d:AK}(hc:Can t st d):AS [Ah st.AA,d.d] S=Fk (Ah (step t st d).AA,S):=by
 have hlen:=h.len
 have hz:(st.AA.map hD).length+1<=sizeLine:=sL (show _<=100 by simp;lia) (AI (by decide))
 have hz2:∀{i:Nat} {n:Int},((less st.AA i n).map hD).length+1<=sizeLine:=λ{i n}=>sL (show _<=100 by simp[BY];lia) (AI (by decide))
 cases d with
 |DU p kd n=>
  have e:=Ks (ls:=st.AA) (y:=⟨kd,n,MA t.p p⟩)
  show _=Fk (Ah (st.AA++[⟨kd,n,MA t.p p⟩]),S)
  rw[<-e]
  have wA:=Em (ls:=st.AA) (r:=[.tup [.int kd,.int n]])
  rw[tK (by simpa using hz)]at wA
  simp[AS,BU,AK.d,-Em,wA]
 |F9 i j=>
  obtain⟨hij,hi,hj,h1,h2,h3⟩:=hc
  have e0:AJ (less st.AA i (AJ st.AA i).n) j=AJ st.AA j:=by
   unfold AJ less
   rw[sG,sJ hij,<-sG]
  have w1:=FG (S:=S) (n:=(AJ st.AA i).n) hi (by lia)
  have w2:=FG (S:=S) (ls:=less st.AA i (AJ st.AA i).n) (i:=j) (n:=(AJ st.AA j).n) (by rw[BY];exact hj) (by rw[BY];lia)
  have z3:((less (less st.AA i (AJ st.AA i).n) j (AJ st.AA j).n).map hD).length+1<=sizeLine:=sL (show _<=100 by simp[BY];lia) (AI (by decide))
  have e:=Ks (ls:=less (less st.AA i (AJ st.AA i).n) j (AJ st.AA j).n) (y:=⟨(AJ st.AA i).k,(AJ st.AA i).n+(AJ st.AA j).n,Bt (AJ st.AA i).n (AJ st.AA j).n (AJ st.AA i).ow (AJ st.AA j).ow⟩)
  show _=Fk (Ah (less (less st.AA i (AJ st.AA i).n) j (AJ st.AA j).n++[_]),S)
  rw[<-e]
  have a1:=DM hi
  have a2:=DM hj
  have wA:=Em (ls:=less (less st.AA i (AJ st.AA i).n) j (AJ st.AA j).n) (r:=[.tup [.int (AJ st.AA i).k,.int ((AJ st.AA i).n+(AJ st.AA j).n)]])
  rw[tK (by simpa using z3)]at wA
  generalize (less (less st.AA i (AJ st.AA i).n) j (AJ st.AA j).n).map hD=A at*
  simp[AS,BU,AK.d,a1,a2,w1,w2,-Em,wA]
 |swap i g kd n=>
  obtain⟨hi,h1,h2,h3,h4,h5,h6⟩:=hc
  have w1:=FG (S:=S) (n:=g) hi (by lia)
  have e:=Ks (ls:=less st.AA i g) (y:=⟨kd,n,(AJ st.AA i).ow⟩)
  show _=Fk (Ah (less st.AA i g++[⟨kd,n,(AJ st.AA i).ow⟩]),S)
  rw[<-e]
  have wA:=Em (ls:=less st.AA i g) (r:=[.tup [.int kd,.int n]])
  rw[tK (by simpa using hz2)]at wA
  simp[AS,BU,AK.d,w1,-Em,wA]
 |Cd u i g kd n=>
  obtain⟨hi,h1,h2,h3,h4,h5,h6,h7⟩:=hc
  have w1:=FG (S:=S) (n:=g) hi (by lia)
  have e:=Ks (ls:=less st.AA i g) (y:=⟨kd,n,(AJ st.AA i).ow⟩)
  show _=Fk (Ah (less st.AA i g++[⟨kd,n,(AJ st.AA i).ow⟩]),S)
  rw[<-e]
  have wA:=Em (ls:=less st.AA i g) (r:=[.tup [.int kd,.int n]])
  rw[tK (by simpa using hz2)]at wA
  simp[AS,BU,AK.d,w1,-Em,wA]
 |DQ i n=>
  obtain⟨hi,h1,h2⟩:=hc
  have w1:=FG (S:=S) (n:=n) hi (by lia)
  show _=Fk (Ah (less st.AA i n),S)
  simp[AS,BU,AK.d,w1]
 |thr i n ws=>
  obtain⟨hi,h1,h2,h3,h4⟩:=hc
  have w1:=FG (S:=S) (n:=n) hi (by lia)
  have e:Ah (step t st (.thr i n ws)).AA=Ah (less st.AA i n):=by
   show D.lst (((less st.AA i n).map _).map hD)=_
   rw[tW];rfl
  rw[e]
  simp[AS,BU,AK.d,w1]
 |Gq p q x=>
  have e:Ah (step t st (.Gq p q x)).AA=Ah st.AA:=by
   show D.lst ((st.AA.map _).map hD)=_
   rw[tW];rfl
  rw[e]
  simp[AS,BU,AK.d]
noncomputable def HF:AK->sD Int
 | .Cd u .. =>Fk u
 |_=>none
theorem LH{ls:Gc Ld}:∀{ds:Gc AK},(runs t (st0 t ls) ds).nums=ds.filterMap HF:=by
 intro ds
 have:∀(ds:Gc AK) (st:Stt),(runs t st ds).nums=st.nums++ds.filterMap HF:=by
  intro ds
  induction ds with
  |nil=>intro st;simp[runs]
  |cons d ds ih=>
   intro st
   show(runs t (step t st d) ds).nums=_
   rw[ih]
   cases d<;>simp[step,HF,uK]
 rw[this];rfl
theorem KZ:∀{ds:Gc AK} {acc:Gc D} {o:sD D},acc.length+ds.length<=100->Bo [] (tNm 0) (eOp (o2 wEq) [eOp (o2 wIx) [eV 0,eC (.int 0)],eC (.str "trade")]) (eOp (o2 wIx) [eV 0,eC (.int 1)]) (ds.map AK.d) acc [o] S=Fk (acc++(ds.filterMap HF).map D.int,S)
 | [],acc,o,h=>by rw[vB,Ej AZ];simp
 |d::ds,acc,o,h=>by
  have hz:acc.length<sizeLine:=sI (show acc.length<101 by simp at h;lia) (AI (by decide))
  have ht:tNm 0 d.d [o] S=Fk [Fk d.d]:=by simp
  rw[su]
  cases d with
  |Cd u i g kd n=>
   rw[HR AZ hz ht (S1:=S) (by simp[AK.d])]
   have:eOp (o2 wIx) [eV 0,eC (.int 1)] [Fk (AK.Cd u i g kd n).d] S=Fk (.int u,S):=by simp[AK.d]
   rw[this,Be,KZ (by simp at h ⊢; lia)]
   simp[HF,uK]
  |DU=>rw[Io AZ hz ht (S1:=S) (by simp[AK.d]),KZ (by simp at h ⊢; lia)];simp[HF,uK]
  |F9=>rw[Io AZ hz ht (S1:=S) (by simp[AK.d]),KZ (by simp at h ⊢; lia)];simp[HF,uK]
  |swap=>rw[Io AZ hz ht (S1:=S) (by simp[AK.d]),KZ (by simp at h ⊢; lia)];simp[HF,uK]
  |DQ=>rw[Io AZ hz ht (S1:=S) (by simp[AK.d]),KZ (by simp at h ⊢; lia)];simp[HF,uK]
  |thr=>rw[Io AZ hz ht (S1:=S) (by simp[AK.d]),KZ (by simp at h ⊢; lia)];simp[HF,uK]
  |Gq=>rw[Io AZ hz ht (S1:=S) (by simp[AK.d]),KZ (by simp at h ⊢; lia)];simp[HF,uK]
end
section
variable{S:Sto}{st:Stt}{t:Tr}{k:Nat}
theorem Ws{ss os:Gc Rat}:Ly (ss.map aD) (os.map aD)=(ss.zip os).map λz=>D.tup [aD z.1,aD z.2]:=by
 unfold Ly
 rw[List.zip_map,tW]
 rfl
noncomputable def cY(w m:Int)(ss os:Gc Rat):Gc Rat:=xw (λs o=>(s*w+o*m) / (w+m)) ss os
theorem C6{w m:Int}{ss os:Gc Rat}{j n:Nat}(hs:∀r∈ss,Sz j r)(ho:∀r∈os,Sz j r)(hw:w.natAbs<2^n)(hm:m.natAbs<2^n)(h:0<w+m)(hj:2*j+n+1<=7990)(hl:ss.length<=50):Ce [shD ss,.int w,shD os,.int m] S=Fk (shD (cY w m ss os),S):=by
 have e:=Bw (gs:=[]) (t:=tTp [tNm 2,tNm 3]) (f:=AB Hk [eV 2,eV 0,eV 3,eV 1]) (C:=[Fk (.int w),Fk (.int m)]) (m:=2) (e:=λz:Rat×Rat=>D.tup [aD z.1,aD z.2]) (g:=λz=>aD ((z.1*w+z.2*m) / (w+m))) (S:=S) AZ (xs:=ss.zip os) (acc:=[]) (os:=[none,none]) rfl (sL (show _<=50 by simp;lia) (AI (by decide))) (by
  intro z hz os' ho'
  obtain⟨q1,q2,rfl⟩:=Ye ho'
  have hm2:=vK (a:=z.1) (b:=z.2) hz
  have l:=gv (S:=S) (hs _ hm2.1) (ho _ hm2.2) hw hm h (by lia)
  refine⟨[Fk (aD z.1),Fk (aD z.2)],rfl,by simp,?_⟩
  simp[l])
 rw[<-Ws]at e
 have em:(ss.zip os).map (λz=>aD ((z.1*w+z.2*m) / (w+m)))=(cY w m ss os).map aD:=by
  unfold cY
  rw[<-List.map_uncurry_zip_eq_zipWith,tW]
  rfl
 rw[em]at e
 simp only[tU,tF]at e
 simp[Ce,HB,e,Tq]
theorem GY{P p:Nat}(hP:P<=50):BN [.int P,.int p] S=Fk (shD (MA P p),S):=by
 have e:=Qo (S:=S) (P:=P) (p:=p) (cond:=0) (C:=[]) (dd:=.int p) (f:=eIf (eOp (o2 wEq) [eV 1,eV 0]) (eC Xn) (eC Fc)) hP (by
  intro i
  by_cases hi:i=p
  .subst hi;simp;rfl
  .have:((i:Int)==(p:Int))=false:=by simp;lia
   simp[this,hi];rfl)
 have rn:HI (P:Int)=true:=Cq (by lia) (by lia)
 simp[BN,IL,rn,e,Tq]
theorem Gu{n m:Int}{ss os:Gc Rat}:cY n m ss os=Bt n m ss os:=by
 unfold cY Bt
 congr 1
 funext s o
 push_cast
 rfl
theorem Lp{n m:Int}{ss os:Gc Rat}:Bt n m ss os=Bt m n os ss:=by
 unfold Bt
 rw[List.zipWith_comm]
 congr 1
 funext o s
 push_cast
 grind
@[simp] theorem Ve{a b:Int}:L8 [a,b]=if a<=b then [a,b]else [b,a]:=by
  unfold L8
  simp[List.mergeSort,AAw,List.merge]
@[simp] theorem bp{a b:Int}:Na (.val (.lst [.int a,.int b]))=some (.own ((if a<=b then [a,b]else [b,a]).map D.int)):=by
  have:Na (.val (.lst [.int a,.int b]))=Fk (.own ((L8 [a,b]).map D.int)):=rfl
  rw[this,Ve]
@[simp] theorem kO{a b c d e:D}:atI [a,b,c,d,e] (-4)=some b:=nr rfl
@[simp] theorem jO{a b c d e f:D}:atI [a,b,c,d,e,f] (-4)=some c:=nr rfl
theorem T7{i j:Nat}(ht:JB t)(h:DP t k st)(hk:k<=17)(hc:Can t st (.F9 i j)):Aa [Ah st.AA,Je st.AA,(AK.F9 i j).d] S=Fk (shD (Bt (AJ st.AA i).n (AJ st.AA j).n (AJ st.AA i).ow (AJ st.AA j).ow),S):=by
 obtain⟨hij,hi,hj,h1,h2,h3⟩:=hc
 have sz:=h.sz
 have pi:=h.pcs _ (AW hi)
 have pj:=h.pcs _ (AW hj)
 have ti:=h.own _ (AW hi)
 have tj:=h.own _ (AW hj)
 have zi:=sz.1 _ (AW hi)
 have zj:=sz.1 _ (AW hj)
 have hp:t.p<=10:=by have:=ht.2.1;lia
 .by_cases hle:i<=j
  .have hle':(i:Int)<=j:=by lia
   have e:=C6 (S:=S) (j:=30+170*k) (n:=131+k) zi zj (EH pi.1 pi.2) (EH pj.1 pj.2) (by lia) (by lia) (by lia)
   rw[Gu]at e
   have a1:=DM hi
   have a2:=DM hj
   have b1:=GK hi
   have b2:=GK hj
   have mf:Ab [(AK.F9 i j).d] S=Fk (.lst [.int i,.int j],S):=by
    simp[Ab,Az,AK.d,hle,hle']
   simp only[AK.d]at mf⊢
   simp[Aa,BF,mf,a1,a2,b1,b2,e]
  .have hle':¬(i:Int)<=j:=by lia
   have e:=C6 (S:=S) (j:=30+170*k) (n:=131+k) zj zi (EH pj.1 pj.2) (EH pi.1 pi.2) (by lia) (by lia) (by lia)
   rw[Gu,Lp]at e
   have a1:=DM hi
   have a2:=DM hj
   have b1:=GK hi
   have b2:=GK hj
   have mf:Ab [(AK.F9 i j).d] S=Fk (.lst [.int j,.int i],S):=by
    simp[Ab,Az,AK.d,hle,hle']
   simp only[AK.d]at mf⊢
   simp[Aa,BF,mf,a1,a2,b1,b2,e]
theorem Vy{i kd:Nat}{g n:Int}(hi:i<st.AA.length):Aa [Ah st.AA,Je st.AA,(AK.swap i g kd n).d] S=Fk (shD (AJ st.AA i).ow,S):=by
 have b1:=GK hi
 simp[Aa,BF,Ab,Az,AK.d,b1]
theorem Ri{i kd:Nat}{u g n:Int}(hi:i<st.AA.length):Aa [Ah st.AA,Je st.AA,(AK.Cd u i g kd n).d] S=Fk (shD (AJ st.AA i).ow,S):=by
 have b1:=GK hi
 simp[Aa,BF,Ab,Az,AK.d,b1]
theorem W7{ws:Gc Int}(h:DP t k st)(hk:k<=17)(hl:ws.length=t.k+1)(hw:∀w∈ws,1<=w/\w<=99):Dc [t.d,Ah st.AA,.tup (ws.map D.int)] S=Fk (.int (EI t st.AA ws),S):=by
 have hlen:=h.len
 have e:=Bw (gs:=[]) (t:=tTp [tNm 1,tNm 2]) (f:=eOp (o2 Bx) [eV 2,eOp (o2 wIx) [eV 0,eV 1]]) (C:=[Fk (.tup (ws.map D.int))]) (m:=2) (e:=hD) (g:=λx=>D.int (x.n*ws.getD x.k 0)) (S:=S) AZ (xs:=st.AA) (acc:=[]) (os:=[none,none]) rfl (sL (show _<=50 by simp;lia) (AI (by decide))) (by
  intro x hx os ho
  obtain⟨q1,q2,rfl⟩:=Ye ho
  have hkk:=h.kind _ hx
  have w1:=QW (ws:=ws) (i:=x.k) (by lia)
  have w2:=LJ hw (i:=x.k) (by lia)
  have m1:Dz x.n (ws.getD x.k 0)=true:=mulR (by lia) (by lia)
  generalize ws.getD x.k 0=wz at*
  refine⟨[Fk (.int x.k),Fk (.int x.n)],rfl,by simp,?_⟩
  simp[w1,m1])
 simp only[tU,tF]at e
 have es:IJ (st.AA.map λx=>D.int (x.n*ws.getD x.k 0))=Fk (st.AA.map λx=>x.n*ws.getD x.k 0):=by
  have:=DV (st.AA.map λx=>x.n*ws.getD x.k 0)
  rwa [tW]at this
 have w2:=Mu hl
 have w4:=LJ hw (i:=t.k) (by lia)
 have m2:Dz (t.b:Int) (ws.getD t.k 0)=true:=mulR (by lia) (by lia)
 have e2:EI t st.AA ws=(st.AA.map λx=>x.n*ws.getD x.k 0).sum+t.b*ws.getD t.k 0:=rfl
 rw[e2]
 have sq:sqD S (Ah st.AA)=Fk (st.AA.map hD,[]):=rfl
 generalize (st.AA.map λx=>x.n*ws.getD x.k 0)=es' at*
 generalize (st.AA.map λx=>D.int (x.n*ws.getD x.k 0))=es2 at*
 generalize ws.getD t.k 0=wb at*
 simp[Dc,HG,Tr.d,sq,e,es,w2,m2]
theorem Za{i:Nat}{n:Int}{ws:Gc Int}(ht:JB t)(h:DP t k st)(hk:k<=17)(hc:Can t st (.thr i n ws)):EE [t.d,Ah st.AA,(AK.thr i n ws).d] S=Fk (aD (Ip t st.AA i n ws),S):=by
 obtain⟨hi,h1,h2,hl,hw⟩:=hc
 have a:=JT ht h (by lia) hl hw
 have w1:=QW (ws:=ws) (i:=(AJ st.AA i).k) (by have:=h.kind _ (AW hi);lia)
 have w3:=LJ hw (i:=(AJ st.AA i).k) (by have:=h.kind _ (AW hi);lia)
 have m1:Dz n (ws.getD (AJ st.AA i).k 0)=true:=mulR (by lia) (by lia)
 have l1:=V2 (S:=S) (t:=n*ws.getD (AJ st.AA i).k 0) a.1 (DR (EH (by lia) a.2) (by lia))
 have wo:=W7 (S:=S) h hk hl hw
 have ah:=DM hi
 rw[Kf hi]
 generalize aD (((n*ws.getD (AJ st.AA i).k 0:Int):Rat) / (EI t st.AA ws:Rat))=R at*
 generalize ws.getD (AJ st.AA i).k 0=wa at*
 simp[EE,Hh,AK.d,ah,w1,m1,wo,l1]
theorem TM{X:Rat}{ss os:Gc Rat}:cY ((X.den:Int)-X.num) X.num ss os=GJ X os ss:=by
 unfold cY GJ
 congr 1
 funext s o
 have h1:=D7 X
 have h2:=IS X
 push_cast
 have e:((X.den:Rat)-(X.num:Rat)+(X.num:Rat))=(X.den:Rat):=by grind
 rw[e]
 grind
theorem VG{i:Nat}{n:Int}{ws:Gc Int}{ss:Gc Rat}(ht:JB t)(h:DP t k st)(hk:k<=17)(hc:Can t st (.thr i n ws))(hs:∀r∈ss,Sz (30+170*k) r)(hl:ss.length<=50):DB [t.d,Ah st.AA,Je st.AA,(AK.thr i n ws).d,shD ss] S=Fk (shD (GJ (Ip t st.AA i n ws) (AJ st.AA i).ow ss),S):=by
 have pt:=Za (S:=S) ht h hk hc
 obtain⟨hi,h1,h2,hl',hw⟩:=hc
 have cz:=US ht h (by lia) hl' hw hi h1 h2
 have b1:=GK hi
 generalize Ip t st.AA i n ws=X at*
 have d0:=den_pos X
 have c2:=cz.2
 have e:=C6 (S:=S) (w:=(X.den:Int)-X.num) (m:=X.num) (j:=30+170*k) (n:=146+k) hs (h.sz.1 _ (AW hi)) (by
  have c1:=cz.1
  have:2^(146+k)=2^(145+k)*2:=by rw[show 146+k=(145+k)+1 by lia,ze]
  generalize 2^(145+k)=P at*
  lia) (ZR cz.1 (by lia)) (by lia) (by lia) hl
 rw[TM]at e
 generalize GJ X (AJ st.AA i).ow ss=rs at*
 simp only[aD,AK.d]at pt⊢
 simp[DB,GR,pt,b1,e]
theorem U9{p q:Nat}{x:Rat}{ss:Gc Rat}{j i:Nat}(hs:∀r∈ss,Sz j r)(hx:Sz i x)(hj:2*j+i<=7900)(hp:p<ss.length)(hq:q<ss.length)(hpq:p≠q):∃S',D0 [(AK.Gq p q x).d,shD ss] S=Fk (shD (Fo p q x ss),S')/\By [] S S':=by
 have sp:=hs _ (getD_mem (d:=0) hp)
 have sq:=hs _ (getD_mem (d:=0) hq)
 have l1:∀S,FL [aD (ss.getD p 0),aD x] S=Fk (aD (ss.getD p 0*x),S):=λS=>ZN sp hx (by lia)
 have s1:=MN sp hx
 have l2:∀S,JG [aD (ss.getD p 0),aD (ss.getD p 0*x)] S=Fk (aD (ss.getD p 0-ss.getD p 0*x),S):=λS=>mK sp s1 (by lia)
 have l3:∀S,Gv [aD (ss.getD q 0),aD (ss.getD p 0*x)] S=Fk (aD (ss.getD q 0+ss.getD p 0*x),S):=λS=>ff sq s1 (by lia)
 have a1:=Ta hp
 have a2:=Ta hq
 have i1:=Yx hp
 have i2:ixN (((ss.map aD).set p (aD (ss.getD p 0-ss.getD p 0*x))).length) (q:Int)=Fk q:=K2 (by simpa using hq)
 refine⟨S++[.lst ((Fo p q x ss).map aD)],?_,.app⟩
 simp only[vb,tq]at i1 i2
 have em:(Fo p q x ss).map aD=((ss.map aD).set p (aD (ss.getD p 0-ss.getD p 0*x))).set q (aD (ss.getD q 0+ss.getD p 0*x)):=by rw[Fo,vf,vf]
 unfold shD
 rw[em]
 generalize aD (ss.getD p 0-ss.getD p 0*x)=d1 at*
 generalize aD (ss.getD q 0+ss.getD p 0*x)=d2 at*
 generalize aD (ss.getD p 0*x)=d3 at*
 generalize aD (ss.getD p 0)=d4 at*
 generalize aD (ss.getD q 0)=d5 at*
 simp[D0,HY,AK.d,a1,a2,l1,l2,l3,i1,i2]
end
theorem Yg{gs:Gd}{t:Tf}{b:Ex}{I:Gc D->En->Sto->Prop}{R:D->Sto->Prop}(hg:∀ds E S,I ds E S->gOk gs S):∀{ds:Gc D} {E:En} {S:Sto},I ds E S->(∀d ds E S,I (d::ds) E S->∃E1,t d E S=Fk E1/\((∃E2 S2,b E1 S=Fk (.nx,E2,S2)/\I ds E2 S2)\/∃w E2 S2,b E1 S=Fk (.ret w,E2,S2)/\R w S2))->(∃E' S',Lx gs t b ds E S=Fk (.nx,E',S')/\I [] E' S')\/∃w E' S',Lx gs t b ds E S=Fk (.ret w,E',S')/\R w S'
 | [],E,S,hI,h=>.inl ⟨E,S,Ko (hg _ _ _ hI),hI⟩
 |d::ds,E,S,hI,h=>by
  obtain⟨E1,e1,⟨E2,S2,e2,I2⟩|⟨w,E2,S2,e2,r⟩⟩:=h d ds E S hI
  .rcases Yg hg I2 h with⟨E',S',e3,I3⟩|⟨w,E',S',e3,r⟩
   .exact .inl ⟨E',S',by rw[FD (hg _ _ _ hI),e1];simp[e2,e3],I3⟩
   .exact .inr ⟨w,E',S',by rw[FD (hg _ _ _ hI),e1];simp[e2,e3],r⟩
  .exact .inr ⟨w,E2,S2,by rw[FD (hg _ _ _ hI),e1];simp[e2],r⟩
def Wf(t:Tr):AK->Prop
 | .DU p k n=>p<t.p/\k<t.k/\1<=n/\n<2^131
 | .F9 a b=>a≠b
 | .swap _ g k n=>1<=g/\k<t.k/\1<=n/\n<2^131
 | .Cd u _ g k n=>1<=g/\k<t.k/\1<=n/\n<2^131/\0<=u/\u<=9
 | .DQ _ n=>1<=n
 | .thr _ n ws=>1<=n/\ws.length=t.k+1/\∀w∈ws,1<=w/\w<=99
 | .Gq p q x=>p≠q/\p<t.p/\q<t.p/\0<x.num/\x.num<=x.den/\x.den<=12
noncomputable def thB(st:Stt)(l:Nat)(n:Int):tV:=decide (l<st.AA.length) && decide (n<=(AJ st.AA l).n)
noncomputable def swB(st:Stt)(l:Nat)(g:Int)(k:Nat):tV:=thB st l g && !((AJ st.AA l).k==k)
noncomputable def PJ(st:Stt):AK->tV
 | .DU .. =>true
 | .F9 a b=>thB st a 1 && (thB st b 1 && ((AJ st.AA a).k==(AJ st.AA b).k))
 | .swap l g k _=>swB st l g k
 | .Cd u l g k _=> !(st.nums.any λx=>x==u) && swB st l g k
 | .DQ l n=>thB st l n
 | .thr l n _=>thB st l n
 | .Gq .. =>true
section
variable{S:Sto}{t:Tr}{st:Stt}
theorem nO{us:Gc Int}{u:Int}:(us.any λx=>x==u)=false↔u∉us:=by
 rw[List.any_eq_false]
 constructor
 .intro h z
  exact h u z (by simp)
 .intro h x hx z
  have:x=u:=by simpa using z
  exact h (this▸hx)
theorem Sy{d:AK}(h:Can t st d):Wf t d/\PJ st d=true:=by
 cases d with
 |DU p k n=>exact⟨h,rfl⟩
 |F9 a b=>
  obtain⟨h1,h2,h3,h4,h5,h6⟩:=h
  refine⟨h1,?_⟩
  simp only[PJ,thB,sU,um,vc]
  exact⟨⟨h2,by lia⟩,⟨h3,by lia⟩,h6⟩
 |swap l g k n=>
  obtain⟨h1,h2,h3,h4,h5,h6,h7⟩:=h
  refine⟨⟨h2,h4,h6,h7⟩,?_⟩
  simp only[PJ,swB,thB,sU,um,xr,xD,ne_eq]
  exact⟨⟨h1,h3⟩,λz=>h5 z.symm⟩
 |Cd u l g k n=>
  obtain⟨h1,h2,h3,h4,h5,h6,h7,h8,h9,h10⟩:=h
  refine⟨⟨h2,h4,h6,h7,h9,h10⟩,?_⟩
  simp only[PJ,swB,thB,sU,um,xr,xD,ne_eq]
  exact⟨nO.mpr h8,⟨h1,h3⟩,λz=>h5 z.symm⟩
 |DQ l n=>
  obtain⟨h1,h2,h3⟩:=h
  refine⟨h2,?_⟩
  simp only[PJ,thB,sU,um]
  exact⟨h1,h3⟩
 |thr l n ws=>
  obtain⟨h1,h2,h3,h4⟩:=h
  refine⟨⟨h2,h4⟩,?_⟩
  simp only[PJ,thB,sU,um]
  exact⟨h1,h3⟩
 |Gq p q x=>exact⟨h,rfl⟩
theorem NM{l:Nat}(h:l<st.AA.length):atI (st.AA.map hD) (l:Int)=Fk (hD (AJ st.AA l)):=Bq (by rw[sP,Cp h];rfl)
theorem Kz{l:Nat}{n:Int}:Bh [Ah st.AA,.int l,.int n] S=Fk (.bl (thB st l n),S):=by
 by_cases h:l<st.AA.length
 .have a:=NM h
  have h':(l:Int)<(st.AA.length:Int):=by lia
  have e:thB st l n=decide (n<=(AJ st.AA l).n):=by simp[thB,h]
  rw[e]
  simp[Bh,GC,Ah,h',a,hD]
 .have h':¬(l:Int)<(st.AA.length:Int):=by lia
  have e:thB st l n=false:=by simp[thB,h]
  rw[e]
  simp[Bh,GC,Ah,h']
theorem Ub{l:Nat}{n:Int}(h:thB st l n=true):l<st.AA.length:=by
 simp only[thB,sU,um]at h
 exact h.1
theorem Uw{a b:Nat}:((a:Int)==(b:Int))=(a==b):=by
 rw[yX,vc,vc]
 exact Int.ofNat_inj
theorem Q8{l k:Nat}{g:Int}:Dk [Ah st.AA,.int l,.int g,.int k] S=Fk (.bl (swB st l g k),S):=by
 have e:=Kz (S:=S) (st:=st) (l:=l) (n:=g)
 unfold swB
 cases h:thB st l g with
 |false=>
  rw[h]at e
  generalize Ah st.AA=HD at*
  simp[Dk,Hq,e]
 |true=>
  rw[h]at e
  have a:=NM (Ub h)
  simp only[Ah]at e⊢
  have nb:=Uw (a:=(AJ st.AA l).k) (b:=k)
  generalize st.AA.map hD=HL at*
  simp[Dk,Hq,e,a,hD,nb]
theorem XA{a b:Nat}:Dy [Ah st.AA,.int a,.int b] S=Fk (.bl (thB st a 1 && (thB st b 1 && ((AJ st.AA a).k==(AJ st.AA b).k))),S):=by
 have e1:=Kz (S:=S) (st:=st) (l:=a) (n:=1)
 have e2:=Kz (S:=S) (st:=st) (l:=b) (n:=1)
 cases h:thB st a 1 with
 |false=>
  rw[h]at e1
  generalize Ah st.AA=HD at*
  simp[Dy,F1,e1]
 |true=>
  rw[h]at e1
  cases h2:thB st b 1 with
  |false=>
   rw[h2]at e2
   generalize Ah st.AA=HD at*
   simp[Dy,F1,e1,e2]
  |true=>
   rw[h2]at e2
   have a1:=NM (Ub h)
   have a2:=NM (Ub h2)
   have nb:=Uw (a:=(AJ st.AA a).k) (b:=(AJ st.AA b).k)
   simp only[Ah]at e1 e2⊢
   generalize st.AA.map hD=HL at*
   simp[Dy,F1,e1,e2,a1,a2,hD,nb]
theorem cG{ds:Gc AK}{d:AK}(hd:ds.length<=50)(hn:st.nums=ds.filterMap HF):Bn [Ah st.AA,.tup (ds.map AK.d),d.d] S=Fk (.bl (PJ st d),S):=by
 cases d with
 |DU p kd n=>simp[Bn,Du,AK.d,PJ]
 |F9 i j=>
  have e:=XA (S:=S) (st:=st) (a:=i) (b:=j)
  simp[Bn,Du,AK.d,e,PJ]
 |swap i g kd n=>
  have e:=Q8 (S:=S) (st:=st) (l:=i) (g:=g) (k:=kd)
  simp[Bn,Du,AK.d,e,PJ]
 |Cd u i g kd n=>
  have e:=Q8 (S:=S) (st:=st) (l:=i) (g:=g) (k:=kd)
  have tc:=KZ (S:=S) (ds:=ds) (acc:=[]) (o:=none) (by simp;lia)
  rw[<-hn]at tc
  have fi:=Oz (us:=st.nums)
  have ii:=Qi (us:=st.nums) (i:=u)
  have cb:PJ st (.Cd u i g kd n)=(!(st.nums.any λx=>x==u) && swB st i g kd):=rfl
  rw[cb]
  generalize st.nums.map D.int=ud at*
  generalize (st.nums.any λx=>x==u)=q at*
  rw[tF]at tc
  cases q<;>simp[Bn,Du,AK.d,tc,fi,ii,e]
 |DQ i n=>
  have e:=Kz (S:=S) (st:=st) (l:=i) (n:=n)
  simp[Bn,Du,AK.d,e,PJ]
 |thr i n ws=>
  have e:=Kz (S:=S) (st:=st) (l:=i) (n:=n)
  simp[Bn,Du,AK.d,e,PJ]
 |Gq p q x=>simp[Bn,Du,AK.d,PJ]
end
theorem PF{α:Type}{gs:Gd}{t:Tf}{f:Ev}{C:En}{m:Nat}{e g:α->D}(hg:∀S,gOk gs S):∀{xs:Gc α} {acc:Gc D} {os:En} {S:Sto},os.length=m->acc.length+xs.length<=sizeLine->(∀x∈xs,∀os S,os.length=m->∃us S',us.length=m/\t (e x) (C++os) S=Fk (C++us)/\f (C++us) S=Fk (g x,S')/\By [] S S')->∃S',Bo gs t BK f (xs.map e) acc (C++os) S=Fk (acc++xs.map g,S')/\By [] S S'
 | [],acc,os,S,ho,hz,h=>⟨S,by rw[vB,Ej (hg S)];simp,.refl⟩
 |x::xs,acc,os,S,ho,hz,h=>by
  obtain⟨us,S1,hu,e1,e2,s1⟩:=h x sZ os S ho
  obtain⟨S2,e3,s2⟩:=PF hg (xs:=xs) (acc:=acc++[g x]) (os:=us) (S:=S1) hu (by simp at hz ⊢; lia) λx' hx=>h x' (sQ _ hx)
  refine⟨S2,?_,s1.trans s2⟩
  rw[su,HR (hg S) (by simp at hz;lia) e1 GN,e2,Be,e3]
  simp
section
variable{S:Sto}{st:Stt}{t:Tr}{k:Nat}
noncomputable def shB(t:Tr)(st:Stt):AK->Gc Rat->Gc Rat
 | .thr i n ws,ss=>GJ (Ip t st.AA i n ws) (AJ st.AA i).ow ss
 | .Gq p q x,ss=>Fo p q x ss
 |_,ss=>ss
theorem PL{d:AK}{ss:Gc Rat}(ht:JB t)(h:DP t k st)(hk:k<=17)(hc:Can t st d)(hs:∀r∈ss,Sz (30+170*k) r)(hl:ss.length=t.p):∃S',Ag [t.d,Ah st.AA,Je st.AA,d.d,shD ss] S=Fk (shD (shB t st d ss),S')/\By [] S S':=by
 have tp:=ht.2.1
 cases d with
 |thr i n ws=>
  have e:=VG (S:=S) ht h hk hc hs (by lia)
  refine⟨S,?_,.refl⟩
  simp only[AK.d]at e⊢
  simp[Ag,BD,e,shB]
 |Gq p q x=>
  obtain⟨hpq,hp,hq,x1,x2,x3⟩:=hc
  have hx:Sz 4 x:=by
   refine⟨?_,by lia⟩
   show x.num.natAbs<16
   lia
  obtain⟨S',e,sm⟩:=U9 (S:=S) (p:=p) (q:=q) hs hx (by lia) (by lia) (by lia) hpq
  refine⟨S',?_,sm⟩
  simp only[AK.d]at e⊢
  simp[Ag,BD,e,shB]
 |DU p kd n=>exact⟨S,by simp[Ag,BD,AK.d,shB],.refl⟩
 |F9 i j=>exact⟨S,by simp[Ag,BD,AK.d,shB],.refl⟩
 |swap i g kd n=>exact⟨S,by simp[Ag,BD,AK.d,shB],.refl⟩
 |Cd u i g kd n=>exact⟨S,by simp[Ag,BD,AK.d,shB],.refl⟩
 |DQ i n=>exact⟨S,by simp[Ag,BD,AK.d,shB],.refl⟩
theorem U7{d:AK}:(step t st d).hold=shB t st d st.hold:=by cases d<;>rfl
theorem J6{i:Nat}{n:Int}{ls:Gc Ld}(hi:i<ls.length){β:Type}(f:Gc Rat->β):(less ls i n).map (λx=>f x.ow)=ls.map λx=>f x.ow:=by
 rw[Pl,vf]
 have:(ls.map λx=>f x.ow)[i]?=Fk (f (AJ ls i).ow):=by rw[sP,Cp hi];rfl
 apply x5
 intro j
 by_cases e:i=j
 .subst e;rw[sX (by simpa using hi),this]
 .rw[sJ e]
@[simp] theorem oC{ls:List Ld}:sqD S (Je ls)=some (ls.map λx=>shD x.ow,[]):=nr rfl
theorem Vx{d:AK}(ht:JB t)(h:DP t k st)(hk:k<=17)(hc:Can t st d):∃S',Al [t.d,Ah st.AA,Je st.AA,d.d] S=Fk (Je (step t st d).AA,S')/\By [] S S':=by
 have hlen:=h.len
 have sz:=h.sz
 have tp:=ht.2.1
 obtain⟨S',e,sm⟩:=PF (gs:=[]) (t:=tNm 4) (f:=AB Ag [eV 0,eV 1,eV 2,eV 3,eV 4]) (C:=[Fk t.d,Fk (Ah st.AA),Fk (Je st.AA),Fk d.d]) (m:=1) (e:=λx:Ld=>shD x.ow) (g:=λx=>shD (shB t st d x.ow)) (λ_=>AZ) (xs:=st.AA) (acc:=[]) (os:=[none]) (S:=S) rfl (sL (show _<=50 by simp;lia) (AI (by decide))) (by
  intro x hx os S0 ho
  obtain⟨q1,rfl⟩:=Ke ho
  obtain⟨S1,e1,s1⟩:=PL (S:=S0) (d:=d) (ss:=x.ow) ht h hk hc (sz.1 x hx) (h.own x hx)
  refine⟨[Fk (shD x.ow)],S1,rfl,by simp,?_,s1⟩
  simp[e1])
 simp only[tU,tF]at e
 refine⟨S',?_,sm⟩
 have hz:(st.AA.map λx=>shD (shB t st d x.ow)).length+1<=sizeLine:=sL (show _<=100 by simp;lia) (AI (by decide))
 cases d with
 |DU p kd n=>
  have a1:=GY (S:=S') (P:=t.p) (p:=p) (by lia)
  have ef:Je (step t st (.DU p kd n)).AA=.lst ((st.AA.map λx=>shD (shB t st (.DU p kd n) x.ow))++[shD (MA t.p p)]):=by simp[Je,step,shB]
  rw[ef]
  generalize (st.AA.map λx=>shD (shB t st (.DU p kd n) x.ow))=A at*
  simp only[AK.d,Tr.d]at e⊢
  simp[Al,BC,e,a1,hz]
 |F9 i j=>
  have a1:=T7 (S:=S') ht h hk hc
  obtain⟨hij,hi,hj,h1,h2,h3⟩:=hc
  have e0:AJ (less st.AA i (AJ st.AA i).n) j=AJ st.AA j:=by
   unfold AJ less
   rw[sG,sJ hij,<-sG]
  have ef:Je (step t st (.F9 i j)).AA=.lst ((st.AA.map λx=>shD (shB t st (.F9 i j) x.ow))++[shD (Bt (AJ st.AA i).n (AJ st.AA j).n (AJ st.AA i).ow (AJ st.AA j).ow)]):=by
   show D.lst ((less (less st.AA i (AJ st.AA i).n) j (AJ st.AA j).n++[_]).map λx:Ld=>shD x.ow)=_
   rw[uA,J6 (by rw[BY];exact hj),J6 hi]
   rfl
  rw[ef]
  generalize (st.AA.map λx=>shD (shB t st (.F9 i j) x.ow))=A at*
  simp only[AK.d]at e a1⊢
  simp[Al,BC,e,a1,hz]
 |swap i g kd n=>
  have hi:=hc.1
  have a1:=Vy (S:=S') (st:=st) (i:=i) (kd:=kd) (g:=g) (n:=n) hi
  have ef:Je (step t st (.swap i g kd n)).AA=.lst ((st.AA.map λx=>shD (shB t st (.swap i g kd n) x.ow))++[shD (AJ st.AA i).ow]):=by
   show D.lst ((less st.AA i g++[_]).map λx:Ld=>shD x.ow)=_
   rw[uA,J6 hi]
   rfl
  rw[ef]
  generalize (st.AA.map λx=>shD (shB t st (.swap i g kd n) x.ow))=A at*
  simp only[AK.d]at e a1⊢
  simp[Al,BC,e,a1,hz]
 |Cd u i g kd n=>
  have hi:=hc.1
  have a1:=Ri (S:=S') (st:=st) (i:=i) (kd:=kd) (u:=u) (g:=g) (n:=n) hi
  have ef:Je (step t st (.Cd u i g kd n)).AA=.lst ((st.AA.map λx=>shD (shB t st (.Cd u i g kd n) x.ow))++[shD (AJ st.AA i).ow]):=by
   show D.lst ((less st.AA i g++[_]).map λx:Ld=>shD x.ow)=_
   rw[uA,J6 hi]
   rfl
  rw[ef]
  generalize (st.AA.map λx=>shD (shB t st (.Cd u i g kd n) x.ow))=A at*
  simp only[AK.d]at e a1⊢
  simp[Al,BC,e,a1,hz]
 |DQ i n=>
  have ef:Je (step t st (.DQ i n)).AA=.lst (st.AA.map λx=>shD (shB t st (.DQ i n) x.ow)):=by
   show D.lst ((less st.AA i n).map λx:Ld=>shD x.ow)=_
   rw[J6 hc.1]
   rfl
  rw[ef]
  generalize (st.AA.map λx=>shD (shB t st (.DQ i n) x.ow))=A at*
  simp only[AK.d]at e⊢
  simp[Al,BC,e]
 |thr i n ws=>
  have ef:Je (step t st (.thr i n ws)).AA=.lst (st.AA.map λx=>shD (shB t st (.thr i n ws) x.ow)):=by
   show D.lst (((less st.AA i n).map _).map λx:Ld=>shD x.ow)=_
   rw[tW]
   exact congrArg D.lst (J6 hc.1 (λo=>shD (GJ (Ip t st.AA i n ws) (AJ st.AA i).ow o)))
  rw[ef]
  generalize (st.AA.map λx=>shD (shB t st (.thr i n ws) x.ow))=A at*
  simp only[AK.d]at e⊢
  simp[Al,BC,e]
 |Gq p q x=>
  have ef:Je (step t st (.Gq p q x)).AA=.lst (st.AA.map λy=>shD (shB t st (.Gq p q x) y.ow)):=by
   show D.lst ((st.AA.map _).map λy:Ld=>shD y.ow)=_
   rw[tW]
   rfl
  rw[ef]
  generalize (st.AA.map λy=>shD (shB t st (.Gq p q x) y.ow))=A at*
  simp only[AK.d]at e⊢
  simp[Al,BC,e]
@[simp] theorem nR{ls:List Ld}:sqD S (Ah ls)=some (ls.map hD,[]):=nr rfl
theorem ET{ls:Gc Ld}{x y:D}(hl:ls.length<=50):A1 [.tup [x,.tup (ls.map Ld.d),y]] S=Fk (Ah ls,S):=by
 have e:=Bw (gs:=[]) (t:=tNm 0) (f:=B0 [eOp (o2 wIx) [eV 0,eC (.int 0)],eOp (o2 wIx) [eV 0,eC (.int 1)]]) (C:=[]) (m:=1) (e:=Ld.d) (g:=hD) (S:=S) AZ (xs:=ls) (acc:=[]) (os:=[none]) rfl (sL (show _<=50 by simp;lia) (AI (by decide))) (by
  intro x hx os ho
  obtain⟨q1,rfl⟩:=Ke ho
  refine⟨[Fk x.d],rfl,by simp,?_⟩
  simp[Ld.d,hD])
 simp only[tF]at e
 simp[A1,GV,e,Ah]
theorem VL{ls:Gc Ld}(hl:ls.length<=50):Bo [] (tNm 0) BK (eOp (o2 wIx) [eV 0,eC (.int 2)]) (ls.map Ld.d) [] [none] S=Fk (ls.map λx=>shD x.ow,S):=
 Bw (gs:=[]) (t:=tNm 0) (f:=eOp (o2 wIx) [eV 0,eC (.int 2)]) (C:=[]) (m:=1) (e:=Ld.d) (g:=λx=>shD x.ow) (S:=S) AZ (xs:=ls) (acc:=[]) (os:=[none]) rfl (sL (show _<=50 by simp;lia) (AI (by decide))) (by
  intro x hx os ho
  obtain⟨q1,rfl⟩:=Ke ho
  refine⟨[Fk x.d],rfl,by simp,?_⟩
  simp[Ld.d])
theorem Nm{ls:Gc Ld}{ds:Gc AK}{n:Nat}(h:A4 t ls ds)(hn:n<=ds.length):∃S',Dv [AL t ls ds,.int n] S=Fk (.tup [Ah (runs t (st0 t ls) (ds.take n)).AA,Je (runs t (st0 t ls) (ds.take n)).AA,shD (runs t (st0 t ls) (ds.take n)).hold],S')/\By [] S S':=by
 have hl0:ls.length<=4:=h.inv.len
 have ct:Kc (ds.map AK.d) none (Fk (n:Int))=(ds.take n).map AK.d:=by rw[E8 (by simpa using hn),wY]
 obtain⟨E',S',ef,i,o,f1,f2,rfl,f3⟩:=EV (gs:=[]) (t:=tNm 8) (b:=AR (A8 7 (AB Ag [eV 2,eV 5,eV 6,eV 8,eV 7]))
  (AR (A8 6 (AB Al [eV 2,eV 5,eV 6,eV 8]))
  (A8 5 (AB AS [eV 5,eV 8]))))
  (I:=λrs E S'=>∃(i:Nat) (o:sD D),rs=((ds.take n).drop i).map AK.d/\i<=n/\E=[Fk (AL t ls ds),Fk (.int n),Fk t.d,Fk (.tup (ls.map Ld.d)),Fk (.tup (ds.map AK.d)),Fk (Ah (runs t (st0 t ls) (ds.take i)).AA),Fk (Je (runs t (st0 t ls) (ds.take i)).AA),Fk (shD (runs t (st0 t ls) (ds.take i)).hold),o]/\By [] S S')
  (λ_ _ _ _=>AZ) (ds:=(ds.take n).map AK.d) (E:=[Fk (AL t ls ds),Fk (.int n),Fk t.d,Fk (.tup (ls.map Ld.d)),Fk (.tup (ds.map AK.d)),Fk (Ah ls),Fk (Je ls),Fk (shD t.ho),none]) (S:=S)
  ⟨0,none,by simp,ux _,by simp[runs,st0],.refl⟩ (by
    rintro dd rs E T ⟨i,o,i1,i2,rfl,i3⟩
    have hlt:i<(ds.take n).length:=by
     rcases vI i (ds.take n).length with w|w
     .exact w
     .rw[uH w]at i1;cases i1
    rw[tS hlt,su]at i1
    injection i1 with z1 z2
    subst z1 z2
    have hlt':i<ds.length:=by simp at hlt;lia
    have hin:i<n:=by simp at hlt;lia
    have hg:(ds.take n)[i]=ds[i]:=y7
    rw[hg]
    have inv:=h.at i
    have il:(ds.take i).length<=16:=by have:=h.len;simp;lia
    have can:=Gh h.good (sA hlt')
    obtain⟨T1,e1,s1⟩:=PL (S:=T) h.tr inv (by lia) can inv.sz.2 inv.hold
    obtain⟨T2,e2,s2⟩:=Vx (S:=T1) h.tr inv (by lia) can
    have e3:=FX (S:=T2) inv (by lia) can
    have rt:=FQ (t:=t) (st:=st0 t ls) (sA hlt')
    refine⟨_,[Fk (AL t ls ds),Fk (.int n),Fk t.d,Fk (.tup (ls.map Ld.d)),Fk (.tup (ds.map AK.d)),Fk (Ah (runs t (st0 t ls) (ds.take (i+1))).AA),Fk (Je (runs t (st0 t ls) (ds.take (i+1))).AA),Fk (shD (runs t (st0 t ls) (ds.take (i+1))).hold),Fk ds[i].d],T2,by simp;rfl,?_,i+1,Fk ds[i].d,rfl,hin,rfl,(i3.trans s1).trans s2⟩
    rw[rt]
    rw[<-U7]at e1
    simp[e1,e2,e3])
 have hz:i=n:=by
  have:=congrArg vz f1
  simp at this
  lia
 subst hz
 refine⟨S',?_,f3⟩
 have fh:=ET (S:=S) (ls:=ls) (x:=t.d) (y:=.tup (ds.map AK.d)) (by lia)
 have fo:=VL (S:=S) (ls:=ls) (by lia)
 have fo':D.lst (ls.map λx=>shD x.ow)=Je ls:=rfl
 have th:atI [D.int t.p,D.int t.k,D.int t.b,shD t.ho,D.int t.h,D.int t.l] 3=Fk (shD t.ho):=by simp
 simp only[AL]at ef⊢
 have td:wIx (.val t.d) (.val (.int 3))=Fk (.val (shD t.ho)):=by simp[Tr.d]
 have dt:dr S t.d=.val t.d:=rfl
 rw[wY]at ef ct
 simp[Dv,KA,fh,fo,fo',-U4,td,dt,ct,ef]
theorem IT{ls:Gc Ld}{ds:Gc AK}(h:A4 t ls ds):A5 [AL t ls ds] S=Fk (.non,S):=by
 have hl0:ls.length<=4:=h.inv.len
 have hd:=h.len
 obtain⟨E',S',ef,i,o1,o2,f1,f2,rfl,rfl⟩:=EV (gs:=[]) (t:=tTp [tNm 3,tNm 4]) (b:=AR (xIf (Jx (AB Bn [eV 1,eOp (KY false true) [eV 2,eV 3],eV 4])) (Aq (eV 3)) Cv)
  (A8 1 (AB AS [eV 1,eV 4])))
  (I:=λrs E S'=>∃(i:Nat) (o1 o2:sD D),rs=(JV 0 (ds.map AK.d)).drop i/\i<=ds.length/\E=[Fk (AL t ls ds),Fk (Ah (runs t (st0 t ls) (ds.take i)).AA),Fk (.tup (ds.map AK.d)),o1,o2]/\S'=S)
  (λ_ _ _ _=>AZ) (ds:=JV 0 (ds.map AK.d)) (E:=[Fk (AL t ls ds),Fk (Ah ls),Fk (.tup (ds.map AK.d)),none,none]) (S:=S)
  ⟨0,none,none,by simp,ux _,by simp[runs,st0],rfl⟩ (by
    rintro dd rs E T ⟨i,o1,o2,i1,i2,rfl,rfl⟩
    have el:(JV 0 (ds.map AK.d)).length=ds.length:=by rw[GU];simp
    have hlt:i<ds.length:=by
     rcases vI i ds.length with w|w
     .exact w
     .rw[uH (by lia)]at i1;cases i1
    rw[tS (by lia)]at i1
    injection i1 with z1 z2
    have hd1:dd=.tup [.int i,ds[i].d]:=by
     have:=Hz (ds:=ds.map AK.d) (k:=0) (i:=i)
     rw[sA (by lia),<-z1,sP,sA hlt]at this
     simpa using this
    subst z2
    subst hd1
    have inv:=h.at i
    have il:(ds.take i).length<=16:=by simp;lia
    have can:=Gh h.good (sA hlt)
    have cd:=cG (S:=T) (st:=runs t (st0 t ls) (ds.take i)) (ds:=ds.take i) (d:=ds[i]) (by lia) LH
    rw[(Sy can).2]at cd
    have e3:=FX (S:=T) inv (by lia) can
    have rt:=FQ (t:=t) (st:=st0 t ls) (sA hlt)
    have ct:=E8 (ds:=ds.map AK.d) (n:=i) (by simp;lia)
    rw[wY]at cd
    refine⟨_,[Fk (AL t ls ds),Fk (Ah (runs t (st0 t ls) (ds.take (i+1))).AA),Fk (.tup (ds.map AK.d)),Fk (.int i),Fk ds[i].d],T,by simp;rfl,?_,i+1,Fk (.int i),Fk ds[i].d,rfl,hlt,rfl,rfl⟩
    rw[rt]
    simp[ct,cd,e3])
 have fh:=ET (S:=S') (ls:=ls) (x:=t.d) (y:=.tup (ds.map AK.d)) (by lia)
 simp only[AL]at ef⊢
 simp[A5,C3,fh,ef]
theorem Cw{ls:Gc Ld}{ds:Gc AK}(h:A4 t ls ds):AH [AL t ls ds] S=Fk (.non,S):=by
 have e:=IT (S:=S) h
 simp[AH,DC,e,isN]
theorem GI{ls:Gc Ld}{ds:Gc AK}{n:Nat}(hn:n<=ds.length):AM [AL t ls ds,.int n] S=Fk (.non,S):=by
 have h1:(n:Int)<=ds.length:=by lia
 have k1:St.Kd.int.isA "int"=true:=by decide
 have k2:St.Kd.int.isA "bool"=false:=by decide
 simp[k1,k2,AM,DO,A3,DA,Dj,Fg,CV,Eh,AL,kdW,h1]
theorem Wi{ls:Gc Ld}{ds:Gc AK}{n:Nat}(h:A4 t ls ds)(hn:n<=ds.length):∃q S',C5 [AL t ls ds,.int n] S=Fk (.ref q,S')/\S'[q]?=Fk (.lst ((runs t (st0 t ls) (ds.take n)).AA.map Ld.d))/\By [] S S'/\S.length<=q:=by
 obtain⟨S1,e1,s1⟩:=Nm (S:=S) h hn
 have r1:=Cw (S:=S) h
 have r2:=GI (S:=S) (t:=t) (ls:=ls) hn
 have inv:=(h.at n).len
 have hd:=h.len
 have il:(ds.take n).length<=16:=by simp;lia
 generalize runs t (st0 t ls) (ds.take n)=st at*
 have ez:Ly (st.AA.map hD) (st.AA.map λx=>shD x.ow)=st.AA.map λx=>.tup [hD x,shD x.ow]:=by
  unfold Ly
  rw[List.zip_map',tW]
  rfl
 have ec:=Bw (gs:=[]) (t:=tTp [tTp [tNm 1,tNm 2],tNm 0]) (f:=B0 [eV 1,eV 2,eV 0]) (C:=[]) (m:=3) (e:=λx:Ld=>D.tup [hD x,shD x.ow]) (g:=Ld.d) (S:=S1) AZ (xs:=st.AA) (acc:=[]) (os:=[none,none,none]) rfl (sL (show _<=50 by simp;lia) (AI (by decide))) (by
  intro x hx os ho
  obtain⟨q1,q2,q3,rfl⟩:=jL ho
  refine⟨[Fk (shD x.ow),Fk (.int x.k),Fk (.int x.n)],rfl,by simp,?_⟩
  simp[Ld.d])
 rw[<-ez]at ec
 simp only[tF]at ec
 refine⟨S1.length,S1++[.lst (st.AA.map Ld.d)],?_,sV,s1.trans .app,s1.len⟩
 simp[C5,KJ,r1,r2,e1,ec]
theorem R4{ls:Gc Ld}{ds:Gc AK}{n:Nat}(h:A4 t ls ds)(hn:n<=ds.length):∃S',Bk [AL t ls ds,.int n] S=Fk (shD (runs t (st0 t ls) (ds.take n)).hold,S')/\By [] S S':=by
 obtain⟨S1,e1,s1⟩:=Nm (S:=S) h hn
 have r1:=Cw (S:=S) h
 have r2:=GI (S:=S) (t:=t) (ls:=ls) hn
 refine⟨S1,?_,s1⟩
 simp[Bk,IM,r1,r2,e1]
end
theorem pI{n:Nat}:∀{ds:Gc D},(∀d∈ds,d.py.depth<=n)->zr (D.pys ds)<=n
 | [],_=>by simp[D.pys,zr]
 |d::ds,h=>by
  have h1:=h d sZ
  have h2:=pI λe he=>h e (sQ _ he)
  simp only[D.pys,zr]
  lia
theorem ko{n:Nat}{ds:Gc D}(h:∀d∈ds,d.py.depth<=n):(D.lst ds).py.depth<=n+1:=by
 have:=pI h
 simp only[D.py,PyData.depth]
 lia
theorem TY{d:D}(h:d.lay=true)(g:d.py.depth<=60):PV d d=true:=by
 unfold PV
 rw[h]
 simp only[Bool.true_and,um]
 lia
theorem Xu{d:D}(h:d.lay=true):deq d d=true:=PySem.SeqAt.eqv_refl _ (Jm h)
section
variable{S:Sto}
theorem aM{ns:Gc Int}{k:Nat}:∃c,CZ [.scr ns,.int k] S=Fk (.int c,S):=by
 by_cases h:k<ns.length
 .have h':(k:Int)<ns.length:=by lia
  refine⟨ns[k],?_⟩
  have e:atI (ns.map D.int) (k:Int)=Fk (.int ns[k]):=Bq (by rw[sP,sA h];rfl)
  simp[CZ,Gn,h,h',e]
 .have h':¬(k:Int)<ns.length:=by lia
  exact⟨0,by simp[CZ,Gn,h,h']⟩
end
section
variable{E:En}{S:Sto}{f g k o:Ev}{d:D}{es:Gc (Key×D)}
@[simp] theorem lC:evP [] E S=some ([],S):=nr rfl
@[simp] theorem kL{r:List (Ev×Ev)}:evP ((k,f)::r) E S=(k E S).bind λa=>(jQ a.1).bind λkk=>(f E a.2).bind λb=>(evP r E b.2).map λq=>((kk,b.1)::q.1,q.2):=nr rfl
@[simp] theorem kA{x:Str}:jQ (.str x)=some (.inr x):=nr rfl
@[simp] theorem eW{cf:Bool}{fs:List (Ev×Ev)}:VS cf fs E S=(evP fs E S).map λr=>XZ cf (MX [] r.1) r.2:=nr rfl
@[simp] theorem pK:XZ false es S=(.dct es,S):=nr rfl
end
inductive Th:D->Prop
 |non:Th .non
 |bl (b:tV):Th (.bl b)
 |int (i:Int):Th (.int i)
 |str (x:Str) (h:vP x=true):Th (.str x)
 |tup {ds:Gc D} (h:∀d∈ds,Th d) (l:ds.length<=1000):Th (.tup ds)
 |lst {ds:Gc D} (h:∀d∈ds,Th d) (l:ds.length<=1000):Th (.lst ds)
 |dct (kvs:Gc (Key×D)):Th (.dct kvs)
section
variable{S:Sto}{p:Nat}
@[simp] theorem oo:kdW (.val .non)=some .non:=nr rfl
@[simp] theorem qe{b:Bool}:kdW (.val (.bl b))=some .bl:=nr rfl
@[simp] theorem pD{i:Int}:kdW (.val (.int i))=some .int:=nr rfl
@[simp] theorem oK{x:Str}:kdW (.val (.str x))=some .str:=nr rfl
@[simp] theorem oJ{ds:List D}:kdW (.val (.tup ds))=some .tup:=nr rfl
@[simp] theorem oW{ds:List D}:kdW (.val (.lst ds))=some .lst:=nr rfl
@[simp] theorem ny{ds:List (Key×D)}:kdW (.val (.dct ds))=some .dct:=nr rfl
theorem SO{n:Nat}:Ay (n+1)=AY (Af 4 (Ij (Ay n))):=rfl
noncomputable def consts:Gc D:=[.non,.bl true,.bl false,.int 0,.int 1,.int (-1),.int 9,.int (10^39),.str "",.str "a",.tup [],.lst []]
theorem U0:∀x∈consts,Th x:=by
 intro x hx
 simp only[consts,sN,si,uX]at hx
 rcases hx with rfl|rfl|rfl|rfl|rfl|rfl|rfl|rfl|rfl|rfl|rfl|rfl
 .exact .non
 .exact .bl _
 .exact .bl _
 .exact .int _
 .exact .int _
 .exact .int _
 .exact .int _
 .exact .int _
 .exact .str _ (by decide+kernel)
 .exact .str _ (by decide+kernel)
 .exact .tup (λd hd=>by cases hd) (by decide)
 .exact .lst (λd hd=>by cases hd) (by decide)
def UE:Ev:=(Eu [eC .non,eC (.bl true),eC (.bl false),eC (.int 0),eC (.int 1),eOp (o1 N0) [eC (.int 1)],eC (.int 9),eOp (o2 aQ) [eC (.int 10),eC (.int 39)],eC (.str ""),eC (.str "a"),B0 [],Eu []])
theorem Vz{E:En}:UE E S=Fk (.lst consts,S):=by
 have n1:N0 (.val (.int 1))=Fk (.val (.int (-1))):=rfl
 have p1:aQ (.val (.int 10)) (.val (.int 39))=Fk (.val (.int (10^39))):=by with_unfolding_all rfl
 have sz:(12:Nat)<=sizeLine:=AI (by decide)
 simp[UE,n1,p1,consts,sz]
theorem Kh:∀{n d:Nat},d<n->∀{S:Sto},Cu p S->∃X S',Ay n [.ref p,.int d] S=Fk (X,S')/\Th X/\Pn p S S'
 |0,d,h,_,_=>absurd h (by lia)
 |n+1,d,h,S,hp=>by
  obtain⟨way,S1,e1,w0,w1,p1⟩:=Ak hp (n:=12) (by decide) (by decide)
  rw[SO]
  have eb:Ij (Ay n)=(AR (A8 2 (AB AG [eV 0,eC (.int 12)]))
  (AR (xIf (eOr (eOp (o2 wLt) [eV 2,eC (.int 8)]) (eOp (o2 wEq) [eV 1,eC (.int 0)])) (Aq (eOp (o2 wIx) [UE,AB AG [eV 0,eC (.int 12)]])) Cv)
  (AR (A8 3 (Bg [0,1] 1 (L7 [AB AG [eV 0,eC (.int 4)]]) (tNm 2) BK (AB (Ay n) [eV 0,eOp (o2 Mm) [eV 1,eC (.int 1)]])))
  (AR (xIf (eOp (o2 wEq) [eV 2,eC (.int 8)]) (Aq (eV 3)) Cv)
  (AR (xIf (eOp (o2 wEq) [eV 2,eC (.int 9)]) (Aq (fL [((eC (.str "a")),(eV 3))])) Cv)
  (Aq (eOp (o1 DK) [eV 3]))))))):=rfl
  rw[eb]
  by_cases c:way<8\/d=0
  .obtain⟨r,S2,e2,r0,r1,p2⟩:=Ak p1.pen (n:=12) (by decide) (by decide)
   obtain⟨x,ax,hx⟩:=pick (xs:=consts) r0 (by simpa[consts]using r1)
   refine⟨x,S2,?_,U0 x hx,p1.trans p2⟩
   have k:=λE=>Vz (S:=S1) (E:=E)
   rcases Decidable.em (way<8)with c1|c1
   .simp[e1,c1,k,e2,ax]
   .have c2:d=0:=c.resolve_left c1
    subst c2
    simp[e1,c1,k,e2,ax]
  .have c1:¬way<8:=λz=>c (.inl z)
   have c2:¬d=0:=λz=>c (.inr z)
   obtain⟨r,S2,e2,r0,r1,p2⟩:=Ak p1.pen (n:=4) (by decide) (by decide)
   obtain⟨k,rfl⟩:=G7 r0
   have rk:HI (k:Int)=true:=Cq (by lia) (by lia)
   obtain⟨ys,S3,e3,i3,l3,r3⟩:=Kg (gs:=[]) (t:=tNm 2) (f:=AB (Ay n) [eV 0,eOp (o2 Mm) [eV 1,eC (.int 1)]]) (C:=[Fk (.ref p),Fk (.int d)]) (m:=1) (I:=λT=>Pn p S2 T) (R:=λ_ y=>Th y) (λ_ _=>AZ) (ds:=Ka 0 k) (acc:=[]) (os:=[none]) (S:=S2) rfl (.refl p2.pen) (AI (by simp[Fz];lia)) (by
    intro dd hd os T ho hI
    match os,ho with
    | [a],_=>
    obtain⟨X,T',ex,hX,hP⟩:=Kh (n:=n) (d:=d-1) (by lia) hI.pen
    refine⟨[Fk dd],X,T',rfl,by simp,?_,hI.trans hP,hX⟩
    have ec:(d:Int)-1=((d-1:Nat):Int):=by lia
    simp[ec,ex])
   have th:=IH r3
   have ly:ys.length<=1000:=by rw[l3,Fz];lia
   have pn:=(p1.trans p2).trans i3
   simp only[tF,tU]at e3
   have c2':((d:Int)==0)=false:=by simpa using c2
   have tn:(k:Int).toNat=k:=by lia
   by_cases w8:way=8
   .subst w8
    refine⟨.lst ys,S3,?_,.lst th ly,pn⟩
    simp[e1,c2',e2,rk,MS,e3,tn]
   .have w8':(way==8)=false:=by simpa using w8
    by_cases w9:way=9
    .subst w9
     refine⟨.dct (MX [] [(.inr "a",.lst ys)]),S3,?_,.dct _,pn⟩
     simp[e1,c2',e2,rk,MS,e3,tn]
    .have w9':(way==9)=false:=by simpa using w9
     refine⟨.tup ys,S3,?_,.tup th ly,pn⟩
     simp[e1,c1,c2',e2,rk,MS,e3,tn,w8',w9']
end
section
variable{E:En}{S:Sto}{r r1 r2:Rx}{f:Ex}{k:Ev}{R:Rf}{fs:Gc Ev}{x:Str}
noncomputable def nxR(r2:Rx)(q:Fl×En×Sto):sD (Tg×En×Sto):=match q.1 with
 | .nx=>r2 q.2.1 q.2.2
 | .ret _=>none
theorem OB:nxR r2 (.nx,E,S)=r2 E S:=nr rfl
theorem E7:IW r f r2 E S=(r E S).or ((f E S).bind (nxR r2)):=by
 unfold IW
 cases r E S with
 |some z=>exact nr rfl
 |none=>exact nr rfl
theorem P6:rNo E S=none:=nr rfl
noncomputable def ifR(r1 r2:Rx)(E:En)(q:D×Sto):sD (Tg×En×Sto):=match q.1 with
 | .bl true=>r1 E q.2
 | .bl false=>r2 E q.2
 |_=>none
theorem Ww:ifR r1 r2 E (.bl true,S)=r1 E S:=nr rfl
theorem gI:ifR r1 r2 E (.bl false,S)=r2 E S:=nr rfl
theorem J1:rIf k r1 r2 E S=(k E S).bind (ifR r1 r2 E):=nr rfl
theorem Ek:BB R fs E S=(evs fs E S).bind λq=>(R q.1 q.2).map λz=>(z.1,E,z.2):=nr rfl
theorem IF:OU x fs E S=(evs fs E S).map λq=>(⟨x,none⟩,E,q.2):=nr rfl
theorem Pz:Pk x k E S=(k E S).bind (ja x E):=nr rfl
theorem WJ{N:Nat}{ds:Gc D}:AY (Fm N r) ds S=(r (ds.map Fk++sS (N-ds.length) none) S).map λq=>(q.1,q.2.2):=by
 rw[Kx];rfl
theorem IB:Lb E S=none:=nr rfl
theorem YD{n:Int}(h:n.natAbs.log2<1920):ja x E (.int n,S)=Fk (⟨x,Fk n⟩,E,S):=by
 show(if _ then _ else _)=_
 rw[tK h]
end
structure Up(t:Tr)(ls:Gc Ld)(ds:Gc AK)(i:Nat):Prop where
 tr:JB t
 inv:DP t 0 (st0 t ls)
 len:ds.length<=16
 le:i<=ds.length
 good:JX t (st0 t ls) (ds.take i)
 bad:∀d,ds[i]?=Fk d->PJ (runs t (st0 t ls) (ds.take i)) d=false
noncomputable def cm(ds:Gc AK)(i:Nat):D:=if i<ds.length then .int i else .non
section
variable{S:Sto}{t:Tr}{ls:Gc Ld}{ds:Gc AK}{i j:Nat}
theorem Up.bk(h:Up t ls ds i):A4 t ls (ds.take i):=⟨h.tr,h.inv,h.good,by have:=h.len;simp;lia⟩
theorem Up.at(h:Up t ls ds i)(hj:j<=i):DP t j (runs t (st0 t ls) (ds.take j)):=by
 have:=h.bk.at j
 rw[List.take_take,yY hj,yC,yY (by have:=h.le;lia)]at this
 exact this
theorem Up.can(h:Up t ls ds i)(hj:j<i){d:AK}(hd:ds[j]?=Fk d):Can t (runs t (st0 t ls) (ds.take j)) d:=by
 have:=Gh (i:=j) (d:=d) h.good (by rw[y9 hj];exact hd)
 rwa [List.take_take,yY (xX hj)]at this
theorem Up.cb(h:Up t ls ds i)(hj:j<=i){d:AK}(hd:ds[j]?=Fk d):PJ (runs t (st0 t ls) (ds.take j)) d=decide (j<i):=by
 rcases vI j i with w|w
 .rw[(Sy (h.can w hd)).2];simp[w]
 .have e:j=i:=by lia
  subst e
  rw[h.bad d hd];simp
theorem lF(h:Up t ls ds i):A5 [AL t ls ds] S=Fk (cm ds i,S):=by
 have hl0:ls.length<=4:=h.inv.len
 have hd:=h.len
 have hi:=h.le
 have el:(JV 0 (ds.map AK.d)).length=ds.length:=by rw[GU];simp
 have fo:=Yg (gs:=[]) (t:=tTp [tNm 3,tNm 4]) (b:=AR (xIf (Jx (AB Bn [eV 1,eOp (KY false true) [eV 2,eV 3],eV 4])) (Aq (eV 3)) Cv)
  (A8 1 (AB AS [eV 1,eV 4])))
  (I:=λrs E S'=>∃(j:Nat) (o1 o2:sD D),rs=(JV 0 (ds.map AK.d)).drop j/\j<=i/\E=[Fk (AL t ls ds),Fk (Ah (runs t (st0 t ls) (ds.take j)).AA),Fk (.tup (ds.map AK.d)),o1,o2]/\S'=S)
  (R:=λw S'=>w=.int i/\i<ds.length/\S'=S)
  (λ_ _ _ _=>AZ) (ds:=JV 0 (ds.map AK.d)) (E:=[Fk (AL t ls ds),Fk (Ah ls),Fk (.tup (ds.map AK.d)),none,none]) (S:=S)
  ⟨0,none,none,by simp,ux _,by simp[runs,st0],rfl⟩ (by
    rintro dd rs E T ⟨j,o1,o2,i1,i2,rfl,rfl⟩
    have hlt:j<ds.length:=by
     rcases vI j ds.length with w|w
     .exact w
     .rw[uH (by lia)]at i1;cases i1
    rw[tS (by lia)]at i1
    injection i1 with z1 z2
    have hd1:dd=.tup [.int j,ds[j].d]:=by
     have:=Hz (ds:=ds.map AK.d) (k:=0) (i:=j)
     rw[sA (by lia),<-z1,sP,sA hlt]at this
     simpa using this
    subst z2
    subst hd1
    have inv:=h.at i2
    have cd:=cG (S:=T) (st:=runs t (st0 t ls) (ds.take j)) (ds:=ds.take j) (d:=ds[j]) (by simp;lia) LH
    rw[h.cb i2 (sA hlt)]at cd
    have ct:=E8 (ds:=ds.map AK.d) (n:=j) (by simp;lia)
    rw[wY]at cd
    refine⟨_,by simp;rfl,?_⟩
    rcases vI j i with w|w
    .have can:=h.can w (sA hlt)
     have e3:=FX (S:=T) inv (by lia) can
     have rt:=FQ (t:=t) (st:=st0 t ls) (sA hlt)
     refine .inl ⟨[Fk (AL t ls ds),Fk (Ah (runs t (st0 t ls) (ds.take (j+1))).AA),Fk (.tup (ds.map AK.d)),Fk (.int j),Fk ds[j].d],T,?_,j+1,Fk (.int j),Fk ds[j].d,rfl,w,rfl,rfl⟩
     rw[rt]
     simp[ct,cd,e3,w]
    .have e:j=i:=by lia
     subst e
     refine .inr ⟨.int j,[Fk (AL t ls ds),Fk (Ah (runs t (st0 t ls) (ds.take j)).AA),Fk (.tup (ds.map AK.d)),Fk (.int j),Fk ds[j].d],T,?_,rfl,hlt,rfl⟩
     simp[ct,cd])
 have fh:=ET (S:=S) (ls:=ls) (x:=t.d) (y:=.tup (ds.map AK.d)) (by lia)
 rcases fo with⟨E',S',ef,j,o1,o2,f1,f2,rfl,rfl⟩|⟨w,E',S',ef,rfl,f1,rfl⟩
 .have hz:=congrArg vz f1
  rw[yD,el]at hz
  simp at hz
  have e:cm ds i=.non:=by unfold cm;rw[tN (by lia)]
  rw[e]
  simp only[AL]at ef⊢
  simp[A5,C3,fh,ef]
 .have e:cm ds i=.int i:=by unfold cm;rw[tK f1]
  rw[e]
  simp only[AL]at ef⊢
  simp[A5,C3,fh,ef]
theorem Nl(h:A4 t ls ds):AH [AL t ls ds] S=Fk (.non,S)/\AQ [AL t ls ds] S=none:=by
 have e:=IT (S:=S) h
 constructor
 .exact Cw h
 .simp[AQ,EU,WJ,E7,P6,OB,J1,e,isN,gI]
theorem YG(h:Up t ls ds i)(c:i<ds.length):AH [AL t ls ds] S=none/\AQ [AL t ls ds] S=Fk (⟨"NotDone",Fk (i:Int)⟩,S):=by
 have e:=lF (S:=S) h
 have ed:cm ds i=.int i:=by unfold cm;rw[tK c]
 rw[ed]at e
 have lg:(i:Int).natAbs.log2<1920:=by
  by_cases z:i=0
  .subst z;decide
  .rw[Nat.log2_lt (by lia)]
   have hd:=h.len
   exact sI (show(i:Int).natAbs<2^10 by lia) (uC (by decide) (by decide))
 constructor
 .simp[AH,DC,e,isN,IB]
 .simp[AQ,EU,WJ,E7,P6,OB,J1,Pz,e,isN,Ww,YD lg]
end
section
variable{S:Sto}{d:D}
theorem fO{oa ob oc:Ev}{E:En}{i j:Int}{S1:Sto}(e1:evs [oa,ob] E S=Fk ([.int i,.int j],S1))(h:¬i<=j):Pm oa ob oc E S=Fk (.bl false,S1):=by
 unfold Pm
 rw[e1]
 simp[h]
theorem gG{oa ob oc:Ev}{E:En}{i j k:Int}{S1 S2:Sto}(e1:evs [oa,ob] E S=Fk ([.int i,.int j],S1))(h:i<=j)(e2:oc E S1=Fk (.int k,S2)):Pm oa ob oc E S=Fk (.bl (decide (j<k)),S2):=by
 unfold Pm
 rw[e1]
 simp[h,e2]
noncomputable def inW(lo hi:Int):D->tV
 | .int i=>decide (lo<=i) && decide (i<=hi)
 |_=>false
noncomputable def thI:D->tV
 | .int _=>true
 |_=>false
noncomputable def thF(lo:Int):D->tV
 | .int i=>decide (lo<=i)
 |_=>false
theorem YO(h:Th d):CV [d] S=Fk ((.bl (thI d)),S):=by
 cases h<;>simp[CV,Eh,St.Kd.isA,thI]
theorem Z2(h:Th d)(lo:Int):Dj [d,.int lo] S=Fk ((.bl (thF lo d)),S):=by
 have w:=YO (S:=S) h
 cases h<;>simp[Dj,Fg,w,thI,thF]
theorem JD(h:Th d)(lo hi:Int):A3 [d,.int lo,.int hi] S=Fk ((.bl (inW lo hi d)),S):=by
 have w:=Z2 (S:=S) h lo
 cases h with
 |int i=>by_cases c:lo<=i<;>simp[A3,DA,w,thF,inW,c]
 |_=>simp[A3,DA,w,thF,inW]
theorem Pt(h:Th d)(n:Int):CL [d,.int n] S=Fk ((.bl (inW 0 (n-1) d)),S):=by
 cases h with
 |int i=>
  by_cases c:0<=i
  .have e:=gG (S:=S) (oa:=eI 0) (ob:=eV 0) (oc:=eV 1) (E:=[Fk (.int i),Fk (.int n)]) (i:=0) (j:=i) (k:=n) (S1:=S) (S2:=S) (by simp) c (by simp)
   have z:decide (i<n)=decide (i<=n-1):=by rw[decide_eq_decide];lia
   rw[z]at e
   simp[CL,ID,St.Kd.isA,e,inW,c]
  .have e:=fO (S:=S) (oa:=eI 0) (ob:=eV 0) (oc:=eV 1) (E:=[Fk (.int i),Fk (.int n)]) (i:=0) (j:=i) (S1:=S) (by simp) c
   simp[CL,ID,St.Kd.isA,e,inW,c]
 |_=>simp[CL,ID,St.Kd.isA,inW]
theorem Nh{n:Nat}{hi:Int}(h:inW 0 hi d=true):∃k:Nat,d=.int k/\(k:Int)<=hi:=by
 cases d with
 |int i=>
  simp only[inW,sU,um]at h
  obtain⟨k,rfl⟩:=Int.eq_ofNat_of_zero_le h.1
  exact⟨k,rfl,h.2⟩
 |_=>cases h
end
abbrev hd4:Tg->Ex:=Am
structure Jc(F:Fn)(R:Rf)(ds:Gc D)(S:Sto)(w:ug):Prop where
 h:(w="none" /\∃d S',F ds S=Fk (d,S')/\By [] S S')\/(F ds S=none/\∃y,R ds S=Fk (y,S)/\hd4 y [none] S=Fk (.ret (.str w),[none],S))
section
variable{S:Sto}{t:Tr}{ls:Gc Ld}{ds:Gc AK}{i:Nat}{X:D}
theorem aU{o:sD Int}:hd4 ⟨"NotDone",o⟩ [none] S=Fk (.ret (.str "done"),[none],S):=by simp[hd4,Am,gOr]
theorem gf:hd4 ⟨"NoNumber",none⟩ [none] S=Fk (.ret (.str "number"),[none],S):=by
 have e:((("NoNumber":Str))==("NotDone":Str))=false:=by decide+kernel
 simp[hd4,Am,gOr,e]
theorem gJ:hd4 ⟨"NoPartner",none⟩ [none] S=Fk (.ret (.str "partner"),[none],S):=by
 have e:((("NoPartner":Str))==("NotDone":Str))=false:=by decide+kernel
 have e1:((("NoPartner":Str))==("NoNumber":Str))=false:=by decide+kernel
 simp[hd4,Am,gOr,e,e1]
theorem lU:hd4 ⟨"NoLoad",none⟩ [none] S=Fk (.ret (.str "load"),[none],S):=by
 have e:((("NoLoad":Str))==("NotDone":Str))=false:=by decide+kernel
 have e1:((("NoLoad":Str))==("NoNumber":Str))=false:=by decide+kernel
 have e2:((("NoLoad":Str))==("NoPartner":Str))=false:=by decide+kernel
 simp[hd4,Am,gOr,e,e1,e2]
theorem Nq{x:Str}{GX:Gc Nat}{F:Fn}{R:Rf}{fs:Gc Ev}{E:En}{as:Gc D}{w:ug}(hT:S.any (Fj x)=true)(ha:evs fs (Nz GX E) S=Fk (as,S))(h:Jc F R as S w):∃S',HK x GX (AB F fs) (BB R fs) (.str "none") hd4 E S=Fk (.str w,S')/\By [] S S':=by
 unfold HK
 rw[tK hT]
 have ec:AB F fs (Nz GX E) S=F as S:=by simp[ha]
 rw[ec]
 rcases h.h with⟨rfl,d,S',e,sm⟩|⟨e,y,e1,e2⟩
 .exact⟨S',by rw[e],sm⟩
 .refine⟨S,?_,.refl⟩
  rw[e]
  dsimp only
  rw[Ek,ha]
  show((R as S).map λz=>(z.1,Nz GX E,z.2)).bind _=_
  rw[e1]
  show(hd4 y [none] S).bind _=_
  rw[e2]
  rfl
theorem C0{N N':Nat}{rest:Ex}{rr:Rx}{as:Gc D}(h:Up t ls ds i)(c:i<ds.length):Jc (AY (Af N (AR (Ac (AB AH [eV 0])) rest))) (AY (Fm N' (IW (BB AQ [eV 0]) (Ac (AB AH [eV 0])) rr))) (AL t ls ds::as) S "done":=by
 obtain⟨e1,e2⟩:=YG (S:=S) h c
 generalize AL t ls ds=bk at*
 refine⟨.inr ⟨?_,⟨"NotDone",Fk i⟩,?_,aU⟩⟩
 .simp[e1]
 .rw[WJ,E7,Ek]
  simp[e2]
theorem Oj{N N':Nat}{rest:Ex}{rr:Rx}{as:Gc D}(h:A4 t ls ds)(hX:Th X)(w:inW 0 ds.length X=false):Jc (AY (Af N (AR (Ac (AB AH [eV 0])) (AR (Ac (AB AM [eV 0,eV 1])) rest)))) (AY (Fm N' (IW (BB AQ [eV 0]) (Ac (AB AH [eV 0])) (IW (BB Ae [eV 0,eV 1]) (Ac (AB AM [eV 0,eV 1])) rr)))) (AL t ls ds::X::as) S "number":=by
 obtain⟨e1,e2⟩:=Nl (S:=S) h
 have e:=JD (S:=S) hX 0 ds.length
 rw[w]at e
 have f1:AM [AL t ls ds,X] S=none:=by
  simp[AM,DO,AL,e,IB]
 have f2:Ae [AL t ls ds,X] S=Fk (⟨"NoNumber",none⟩,S):=by
  simp[Ae,DN,WJ,J1,IF,AL,e,Ww]
 generalize AL t ls ds=bk at*
 refine⟨.inr ⟨?_,⟨"NoNumber",none⟩,?_,gf⟩⟩
 .simp[e1,f1]
 .rw[WJ,E7,Ek]
  simp[e1,e2,OB,E7,Ek,f2]
end
theorem Ok.add{G B C:Nat}{r q:Rat}(h:Ok G B r)(g:Ok G C q):Ok G (B+C) (r+q):=by
 obtain⟨z,e1,h1⟩:=h
 obtain⟨y,e2,h2⟩:=g
 refine⟨z+y,?_,Nat.add_le_add h1 h2⟩
 push_cast
 rw[<-e1,<-e2]
 grind
theorem Ok.mono{G B C:Nat}{r:Rat}(h:Ok G B r)(g:B<=C):Ok G C r:=by
 obtain⟨z,e,hz⟩:=h
 exact⟨z,e,sL hz g⟩
theorem Ok.oP{G B N:Nat}{r:Rat}{n:Int}(h:Ok G B r)(h0:0<=n)(h1:n<=N):Ok G (B*N) ((n:Rat)*r):=by
 obtain⟨z,e,hz⟩:=h
 refine⟨z*n.toNat,?_,yv hz (by lia)⟩
 push_cast
 rw[HV h0,<-e]
 grind
theorem Ok.int{G:Nat}{n:Int}{N:Nat}(h0:0<=n)(h1:n<=N):Ok G (G*N) (n:Rat):=by
 have:=(Ok.one (G:=G) (B:=G) (sM _)).oP (N:=N) h0 h1
 have e:(n:Rat)*1=(n:Rat):=by grind
 rwa [e]at this
theorem bL:aD 0=.tup [.int 0,.int 1]:=rfl
noncomputable def ownAt(x:Ld)(p:Nat):Rat:=x.ow.getD p 0
noncomputable def kindS(ls:Gc Ld)(p kd:Nat):Rat:=((ls.filter λx=>x.k==kd).map λx=>(x.n:Rat)*ownAt x p).sum
noncomputable def B7(k:Nat)(ls:Gc Ld)(p:Nat):Gc Rat:=(tL k).map (kindS ls p)
theorem SR{ls:Gc Ld}{x:Ld}{p kd:Nat}:kindS (ls++[x]) p kd=if x.k=kd then kindS ls p kd+(x.n:Rat)*ownAt x p else kindS ls p kd:=by
 unfold kindS
 rw[List.filter_append,uA,xQ]
 by_cases h:x.k=kd
 .simp[h];grind
 .simp[h];grind
theorem Rj{ls:Gc Ld}{x:Ld}{p kd:Nat}:kindS (x::ls) p kd=(if x.k=kd then(x.n:Rat)*ownAt x p else 0)+kindS ls p kd:=by
 unfold kindS
 rw[w6]
 by_cases h:x.k=kd
 .simp[h]
 .simp[h];grind
theorem Pu{k:Nat}{ls:Gc Ld}{x:Ld}{p:Nat}:B7 k (ls++[x]) p=(B7 k ls p).set x.k (kindS ls p x.k+(x.n:Rat)*ownAt x p):=by
 unfold B7
 apply yH
 .simp
 .intro i h1 h2
  rw[List.getElem_set]
  simp only[zP,AAs,SR]
  by_cases h:x.k=i
  .subst h;simp
  .simp[h]
structure Bd(ls:Gc Ld)(G B N K:Nat):Prop where
 g0:0<G
 gK:G<2^K
 hK:2*K<=7000
 own:∀l∈ls,∀r∈l.ow,Ok G B r
 pcs:∀l∈ls,0<=l.n/\l.n<=N
 hB:B<2^K
 hN:N<2^K
 hb:200*(B*N)<2^K
 len:ls.length<=30
section
variable{S:Sto}{ls:Gc Ld}{G B N K:Nat}
theorem Bd.at(h:Bd ls G B N K){x:Ld}(hx:x∈ls)(p:Nat):Ok G B (ownAt x p):=by
 unfold ownAt
 rw[sG]
 cases e:x.ow[p]? with
 |none=>exact Ok.zero
 |some r=>exact h.own x hx r (se e)
theorem Bd.mul(h:Bd ls G B N K){x:Ld}(hx:x∈ls)(p:Nat):Ok G (B*N) ((x.n:Rat)*ownAt x p):=(h.at hx p).oP (h.pcs x hx).1 (h.pcs x hx).2
theorem QZ{G C:Nat}{p kd:Nat}:∀{ls:Gc Ld},(∀l∈ls,Ok G C ((l.n:Rat)*ownAt l p))->Ok G (ls.length*C) (kindS ls p kd)
 | [],_=>Ok.zero
 |x::ls,h=>by
  rw[Rj]
  have ih:=QZ (kd:=kd) (ls:=ls) λl hl=>h l (sQ _ hl)
  have h1:Ok G C (if x.k=kd then(x.n:Rat)*ownAt x p else 0):=by
   split
   .exact h x sZ
   .exact Ok.zero
  have:=h1.add ih
  rw[tY,Nat.succ_mul,zY]
  exact this
theorem Bd.kind(h:Bd ls G B N K){p kd:Nat}:Ok G (30*(B*N)) (kindS ls p kd):=(QZ λl hl=>h.mul hl p).mono (uf _ h.len)
theorem Bd.take(h:Bd ls G B N K)(i:Nat):Bd (ls.take i) G B N K:=⟨h.g0,h.gK,h.hK,λl hl=>h.own l (AAQ hl),λl hl=>h.pcs l (AAQ hl),h.hB,h.hN,h.hb,by have:=h.len;simp;lia⟩
theorem Bd.nSz(h:Bd ls G B N K){x:Ld}(hx:x∈ls):Sz K (x.n:Rat):=by
 have o:=Ok.int (G:=1) (h.pcs x hx).1 (h.pcs x hx).2
 refine o.sz (by decide) ?_ (by rw[Nat.one_mul];exact h.hN)
 have:=h.gK;have:=h.g0;lia
theorem Px{n:Nat}:Ka 0 (n:Int).toNat=(tL n).map λ(i:Nat)=>D.int i:=by simp[Ka]
theorem SE{k p:Nat}:(B7 k [] p).map aD=sS k (.tup [.int 0,.int 1]):=by
 apply yH
 .simp[B7]
 .intro i h1 h2
  simp[B7,kindS,bL]
end
theorem O4{α:Type}{gs:Gd}{t:Tf}{f:Ev}{C:En}{m:Nat}{e g:α->D}{S0:Sto}(hg:∀S,By [] S0 S->gOk gs S):∀{xs:Gc α} {acc:Gc D} {os:En} {S:Sto},os.length=m->By [] S0 S->acc.length+xs.length<=sizeLine->(∀x∈xs,∀os S,os.length=m->By [] S0 S->∃us S',us.length=m/\t (e x) (C++os) S=Fk (C++us)/\f (C++us) S=Fk (g x,S')/\By [] S0 S')->∃S',Bo gs t BK f (xs.map e) acc (C++os) S=Fk (acc++xs.map g,S')/\By [] S0 S'
 | [],acc,os,S,ho,hS,hz,h=>⟨S,by rw[vB,Ej (hg S hS)];simp,hS⟩
 |x::xs,acc,os,S,ho,hS,hz,h=>by
  obtain⟨us,S1,hu,e1,e2,s1⟩:=h x sZ os S ho hS
  obtain⟨S2,e3,s2⟩:=O4 hg (acc:=acc++[g x]) hu s1 (by simp at hz ⊢; lia) λx' hx=>h x' (sQ _ hx)
  refine⟨S2,?_,s2⟩
  rw[su,HR (hg S hS) (by simp at hz;lia) e1 GN,e2,Be,e3]
  simp
theorem DP.bd{t:Tr}{k:Nat}{s:Stt}(h:DP t k s)(hk:k<=16):∃G B N K,Bd s.AA G B N K:=by
 obtain⟨G,B,g0,gb,b,h1,h2⟩:=h.gb
 have hB:B<2^2750:=sI b (uC (by decide) (by lia))
 have hB':B<2^3000:=sI hB (uC (by decide) (by decide))
 have hN:(2^147:Nat)<2^148:=Nat.pow_lt_pow_right (by decide) (by decide)
 refine⟨G,B,2^147,3000,g0,uT gb hB',by decide,h1,λl hl=>?_,hB',sI hN (uC (by decide) (by decide)),?_,by have:=h.len;lia⟩
 .have:=h.pcs l hl
  refine⟨this.1,?_⟩
  have e:(2:Int)^(131+k)<=((2^147:Nat):Int):=by
   have:(2:Nat)^(131+k)<=2^147:=uC (by decide) (by lia)
   exact_mod_cast this
  lia
 .have:=Dx (show 200<2^8 by decide) (Dx hB hN)
  exact sI this (uC (by decide) (by decide))
section
variable{S:Sto}{t:Tr}{ls:Gc Ld}{ds:Gc AK}{n:Nat}
theorem iY{x:Ld}{p:Nat}(h:p<x.ow.length):atI (x.ow.map aD) (p:Int)=Fk (aD (ownAt x p)):=Bq (by
 rw[sP,sA h]
 simp[ownAt,sG,sA h])
theorem ke{ls:Gc Ld}{p:Nat}{T:Sto}(h:∀l∈ls,p<l.ow.length)(hl:ls.length<=30):Bo [] (tNm 1) BK (eOp (o2 wIx) [eV 1,eV 0]) (ls.map λx=>shD x.ow) [] [Fk (.int p),none] T=Fk (ls.map (λx=>aD (ownAt x p)),T):=
 Bw (gs:=[]) (t:=tNm 1) (f:=eOp (o2 wIx) [eV 1,eV 0]) (C:=[Fk (.int p)]) (m:=1) (e:=λx:Ld=>shD x.ow) (g:=λx=>aD (ownAt x p)) (S:=T) AZ (xs:=ls) (acc:=[]) (os:=[none]) rfl (sL (show _<=50 by simp;lia) (AI (by decide))) (by
  intro x hx os ho
  obtain⟨o1,rfl⟩:=Ke ho
  have a:=iY (h x hx)
  refine⟨[Fk (shD x.ow)],rfl,by simp,?_⟩
  simp[shD,a])
end
def cu(ls:Gc Ld):Prop:=∀l∈ls,l.ow.sum=1
theorem Pr{a b:Rat}:∀{ss os:Gc Rat},ss.length=os.length->(xw (λs o=>s*a+o*b) ss os).sum=ss.sum*a+os.sum*b
 | [],[],_=>by simp;grind
 |s::ss,o::os,h=>by
  rw[zf,uS,uS,uS,Pr (by simpa using h)]
  grind
theorem UJ{x:Rat}{os ss:Gc Rat}(h:ss.length=os.length)(h1:ss.sum=1)(h2:os.sum=1):(GJ x os ss).sum=1:=by
 unfold GJ
 rw[Pr h,h1,h2]
 grind
theorem SW{n m:Int}{ss os:Gc Rat}(h:ss.length=os.length)(h1:ss.sum=1)(h2:os.sum=1)(h0:0<n+m):(Bt n m ss os).sum=1:=by
 have hc:((n+m:Int):Rat)≠0:=by
  intro z
  have:=vY.mp z
  lia
 have e:(λ(s o:Rat)=>(s*n+o*m) / ((n+m:Int):Rat))=λs o=>s*((n:Rat) / ((n+m:Int):Rat))+o*((m:Rat) / ((n+m:Int):Rat)):=by
  funext s o
  grind
 unfold Bt
 rw[e,Pr h,h1,h2]
 push_cast at hc⊢
 grind
theorem Pf{v:Rat}:∀{l:Gc Rat} {i:Nat},i<l.length->(l.set i v).sum=l.sum-l.getD i 0+v
 |a::l,0,_=>by
  rw[AAv,uS,uS]
  simp
  grind
 |a::l,i+1,h=>by
  rw[List.set_cons_succ,uS,uS,Pf (by simpa using h)]
  simp
  grind
theorem XH{p q:Nat}{x:Rat}{ss:Gc Rat}(hpq:p≠q)(hp:p<ss.length)(hq:q<ss.length):(Fo p q x ss).sum=ss.sum:=by
 unfold Fo
 rw[Pf (by simpa using hq),Pf hp]
 have:(ss.set p (ss.getD p 0-ss.getD p 0*x)).getD q 0=ss.getD q 0:=by
  rw[sG,sJ hpq,<-sG]
 rw[this]
 grind
theorem Pw{i:Nat}:∀{n:Nat},(MA n i).sum=if i<n then 1 else 0
 |0=>by simp[MA]
 |n+1=>by
  have ih:=Pw (i:=i) (n:=n)
  unfold MA at ih⊢
  rw[List.range_succ,uA,xQ,ih]
  by_cases h:n=i
  .subst h;simp;grind
  .have:i<n+1↔i<n:=by lia
   simp[h,this]
   grind
section
variable{t:Tr}{k:Nat}{st:Stt}{d:AK}
theorem GG{ls:Gc Ld}(h:cu ls){l:Nat}{n:Int}(hl:l<ls.length):cu (less ls l n):=λx hx=>by
 rcases JH hx hl with hx|rfl
 .exact h x hx
 .exact(h (AJ ls l) (AW hl):)
theorem Jd{ls:Gc Ld}(h:cu ls){y:Ld}(hy:y.ow.sum=1):cu (ls++[y]):=λx hx=>by
 rcases sx.mp hx with hx|hx
 .exact h x hx
 .rw[tJ.mp hx];exact hy
theorem WE(h:DP t k st)(hc:Can t st d)(ho:cu st.AA):cu (step t st d).AA:=by
 cases d with
 |DU p kd n=>
  refine Jd ho ?_
  rw[Pw,tK hc.1]
 |F9 i j=>
  obtain⟨hij,hi,hj,h1,h2,h3⟩:=hc
  refine Jd (GG (GG ho hi) (by rw[BY];exact hj)) ?_
  exact SW (by rw[h.own _ (AW hi),h.own _ (AW hj)]) (ho _ (AW hi)) (ho _ (AW hj)) (by lia)
 |swap i g kd n=>exact Jd (GG ho hc.1) (ho (AJ st.AA i) (AW hc.1):)
 |Cd u i g kd n=>exact Jd (GG ho hc.1) (ho (AJ st.AA i) (AW hc.1):)
 |DQ i n=>exact GG ho hc.1
 |thr i n ws=>
  intro x hx
  obtain⟨y,hy,rfl⟩:=uG.mp hx
  have hl:=hc.1
  have ly:y.ow.length=t.p:=by
   rcases JH hy hl with hy|rfl
   .exact h.own y hy
   .exact(h.own (AJ st.AA i) (AW hl):)
  exact UJ (by rw[ly,h.own _ (AW hl)]) (GG ho hl y hy) (ho _ (AW hl))
 |Gq p q x=>
  intro y hy
  obtain⟨z,hz,rfl⟩:=uG.mp hy
  obtain⟨h1,h2,h3,_⟩:=hc
  have:=h.own z hz
  show(Fo p q x z.ow).sum=1
  rw[XH h1 (by lia) (by lia)]
  exact ho z hz
end
noncomputable def VH(ls:Gc Ld)(kd:Nat):Int:=((ls.filter λx=>x.k==kd).map λx=>x.n).sum
noncomputable def HM:AK->tV
 | .DU .. =>true
 | .F9 .. =>true
 | .swap .. =>true
 | .Cd .. =>true
 |_=>false
noncomputable def tO(t:Tr)(M:Nat):Tr:={t with p:=M}
noncomputable def Lu(i:Nat):AK->sD AK
 | .DU _ k n=>Fk (.DU i k n)
 | .F9 a b=>Fk (.F9 a b)
 | .swap l g k n=>Fk (.swap l g k n)
 | .Cd _ l g k n=>Fk (.swap l g k n)
 | .DQ l n=>Fk (.DQ l n)
 | .thr l n _=>Fk (.DQ l n)
 | .Gq _ _ _=>none
noncomputable def FY(t:Tr)(M:Nat)(s:Stt)(d:AK):Stt:=match Lu s.AA.length d with
 |some d'=>step (tO t M) s d'
 |none=>s
noncomputable def Xy(t:Tr)(M:Nat)(s:Stt)(ds:Gc AK):Stt:=ds.foldl (FY t M) s
noncomputable def WT(M:Nat)(ls:Gc Ld):Stt:=⟨(tL ls.length).map λi=>⟨(AJ ls i).k,(AJ ls i).n,MA M i⟩,sS M 0,[]⟩
noncomputable def kn(x:Ld):Nat×Int:=(x.k,x.n)
def Hd(s o:Stt):Prop:=s.AA.map kn=o.AA.map kn
section
variable{t:Tr}{M k:Nat}{s o:Stt}{d:AK}
theorem Hd.len(h:Hd s o):s.AA.length=o.AA.length:=by have:=congrArg vz h;simpa using this
theorem Hd.at(h:Hd s o){i:Nat}(hi:i<s.AA.length):(AJ s.AA i).k=(AJ o.AA i).k/\(AJ s.AA i).n=(AJ o.AA i).n:=by
 have hj:i<o.AA.length:=by rw[<-h.len];exact hi
 have e:=congrArg (λl=>l[i]?) h
 simp only[sP,Cp hi,Cp hj,Option.map_some]at e
 injection e with e
 exact⟨congrArg Prod.fst e,congrArg Prod.snd e⟩
theorem Hd.held(h:Hd s o):Ah s.AA=Ah o.AA:=by
 have e:∀ls:Gc Ld,ls.map hD=(ls.map kn).map λz=>D.tup [.int z.1,.int z.2]:=λls=>by rw[tW];rfl
 unfold Ah
 rw[e,e,h]
theorem TF{ls:Gc Ld}{i:Nat}{n:Int}:(less ls i n).map kn=(ls.map kn).set i ((AJ ls i).k,(AJ ls i).n-n):=by
 unfold less
 rw[vf]
 rfl
theorem J3{ls os:Gc Ld}{i:Nat}{n:Int}(h:ls.map kn=os.map kn)(hk:(AJ ls i).k=(AJ os i).k)(hn:(AJ ls i).n=(AJ os i).n):(less ls i n).map kn=(less os i n).map kn:=by
 rw[TF,TF,h,hk,hn]
theorem Hy{ls:Gc Ld}{i j:Nat}{n:Int}(h:i≠j):AJ (less ls i n) j=AJ ls j:=by
 unfold AJ less
 rw[sG,sJ h,<-sG]
theorem Mx{ls os:Gc Ld}{x y:Ld}(h:ls.map kn=os.map kn)(e:kn x=kn y):(ls++[x]).map kn=(os++[y]).map kn:=by
 rw[uA,uA,h];simp[e]
theorem Hd.step(h:Hd s o)(hc:Can t s d):Hd (Mi.step t s d) (FY t M o d):=by
 cases d with
 |DU p kd n=>exact Mx h rfl
 |F9 i j=>
  obtain⟨hij,hi,hj,h1,h2,h3⟩:=hc
  have ai:=h.at hi
  have aj:=h.at hj
  refine Mx ?_ (by show((AJ s.AA i).k,(AJ s.AA i).n+(AJ s.AA j).n)=((AJ o.AA i).k,(AJ o.AA i).n+(AJ o.AA j).n);rw[ai.1,ai.2,aj.2])
  rw[ai.2,aj.2]
  exact J3 (J3 h ai.1 ai.2) (by rw[Hy hij,Hy hij];exact aj.1) (by rw[Hy hij,Hy hij];exact aj.2)
 |swap i g kd n=>exact Mx (J3 h (h.at hc.1).1 (h.at hc.1).2) rfl
 |Cd u i g kd n=>exact Mx (J3 h (h.at hc.1).1 (h.at hc.1).2) rfl
 |DQ i n=>exact J3 h (h.at hc.1).1 (h.at hc.1).2
 |thr i n ws=>
  have e:∀(f:Ld->Gc Rat) (ls:Gc Ld),(ls.map λx=>({x with ow:=f x}:Ld)).map kn=ls.map kn:=λf ls=>by rw[tW];rfl
  show((less s.AA i n).map λx=>_).map kn=(less o.AA i n).map kn
  rw[e]
  exact J3 h (h.at hc.1).1 (h.at hc.1).2
 |Gq p q x=>
  have e:∀(f:Ld->Gc Rat) (ls:Gc Ld),(ls.map λx=>({x with ow:=f x}:Ld)).map kn=ls.map kn:=λf ls=>by rw[tW];rfl
  show(s.AA.map λy=>_).map kn=o.AA.map kn
  rw[e]
  exact h
theorem ZS(h:Hd s o)(hc:Can t s d)(hM:HM d=true->o.AA.length<M){d':AK}(e:Lu o.AA.length d=Fk d'):Can (tO t M) o d':=by
 have hl:=h.len
 cases d with
 |DU p kd n=>cases e;exact⟨hM rfl,hc.2⟩
 |F9 i j=>
  cases e
  obtain⟨hij,hi,hj,h1,h2,h3⟩:=hc
  have ai:=h.at hi
  have aj:=h.at hj
  exact⟨hij,by lia,by lia,by rw[<-ai.2];exact h1,by rw[<-aj.2];exact h2,by rw[<-ai.1,<-aj.1];exact h3⟩
 |swap i g kd n=>
  cases e
  have ai:=h.at hc.1
  obtain⟨h1,h2,h3,h4,h5,h6⟩:=hc
  exact⟨by lia,h2,by rw[<-ai.2];exact h3,h4,by rw[<-ai.1];exact h5,h6⟩
 |Cd u i g kd n=>
  cases e
  have ai:=h.at hc.1
  obtain⟨h1,h2,h3,h4,h5,h6,h7,_⟩:=hc
  exact⟨by lia,h2,by rw[<-ai.2];exact h3,h4,by rw[<-ai.1];exact h5,h6,h7⟩
 |DQ i n=>
  cases e
  have ai:=h.at hc.1
  exact⟨by have:=hc.1;lia,hc.2.1,by rw[<-ai.2];exact hc.2.2⟩
 |thr i n ws=>
  cases e
  have ai:=h.at hc.1
  exact⟨by have:=hc.1;lia,hc.2.1,by rw[<-ai.2];exact hc.2.2.1⟩
 |Gq p q x=>cases e
theorem VR(h:DP t k s)(hk:k<=37)(hd:∀{i n ws},d≠.thr i n ws)(hs:∀{p q x},d≠.Gq p q x)(hc:Can t s d):DP t (k+1) (step t s d):=by
 obtain⟨G,B,g0,g1,g2,hl,hh⟩:=h.gb
 have L:∀x∈s.AA,LOk t k G B x:=λx hx=>⟨h.kind x hx,(h.pcs x hx).1,(h.pcs x hx).2,h.own x hx,hl x hx⟩
 have g2':B<2^(30+170*(k+1)):=sI g2 (Hj (by lia))
 have hlen:=h.len
 have hnm:=h.nm
 cases d with
 |DU p kd n=>
  obtain⟨h1,h2,h3,h4⟩:=hc
  refine DP.of (G:=G) (B:=B) (by simp[step];lia) (Ht (λx hx=>(L x hx).up1) ⟨h2,by show 0<=n;lia,bK h4,by simp[MA],TK g1⟩) h.hold (uc hnm) g0 g1 g2' hh
 |F9 i j=>
  obtain⟨hij,hi,hj,h1,h2,h3⟩:=hc
  have li:=L _ (AW hi)
  have lj:=L _ (AW hj)
  have tl:((AJ s.AA i).n+(AJ s.AA j).n).toNat<2^(132+k):=by
   have a:=li.n1;have b:=lj.n1
   have e:(2:Int)^(132+k)=2^(131+k)*2:=by rw[show 132+k=(131+k)+1 by lia,zh]
   have:(((AJ s.AA i).n+(AJ s.AA j).n).toNat:Int)<((2^(132+k):Nat):Int):=by
    rw[uM (by lia)]
    push_cast
    rw[e];lia
   exact_mod_cast this
  have t0:0<((AJ s.AA i).n+(AJ s.AA j).n).toNat:=by lia
  refine DP.of (G:=G*((AJ s.AA i).n+(AJ s.AA j).n).toNat) (B:=B*((AJ s.AA i).n+(AJ s.AA j).n).toNat) (by simp[step,BY];lia) (Ht ?_ ⟨li.kd,by show 0<=(AJ s.AA i).n+(AJ s.AA j).n;lia,?_,?_,OQ h1 h2 li.ok lj.ok⟩) h.hold (uc hnm) (yP g0 t0) (uf _ g1) (RB g2 tl (by lia)) (λr hr=>(hh r hr).up (sM _))
  .have A:=D5 (P:=LOk t (k+1) (G*((AJ s.AA i).n+(AJ s.AA j).n).toNat) (B*((AJ s.AA i).n+(AJ s.AA j).n).toNat)) (n:=(AJ s.AA i).n) hi (λx hx=>(L x hx).up (sM _)) ((li.up (sM _)).less (by lia) (AAP _))
   have A2:=D5 (st:={s with AA:=less s.AA i (AJ s.AA i).n}) (i:=j) (n:=(AJ s.AA j).n) (by simpa[BY]using hj) A (by
    show LOk _ _ _ _ ⟨(AJ (less s.AA i (AJ s.AA i).n) j).k,(AJ (less s.AA i (AJ s.AA i).n) j).n-_,(AJ (less s.AA i (AJ s.AA i).n) j).ow⟩
    rw[Hy hij]
    exact(lj.up (sM _)).less (by lia) (AAP _))
   exact A2
  .show(AJ s.AA i).n+(AJ s.AA j).n<2^(131+(k+1))
   have a:=li.n1;have b:=lj.n1
   rw[show 131+(k+1)=(131+k)+1 by lia,zh];lia
  .exact Gx li.own lj.own
 |swap i g kd n=>
  obtain⟨hi,h1,h2,h3,h4,h5,h6⟩:=hc
  have li:=L _ (AW hi)
  refine DP.of (G:=G) (B:=B) (by simp[step,BY];lia) (Ht (D5 hi (λx hx=>(L x hx).up1) (li.up1.less (by lia) h2)) ⟨h3,by show 0<=n;lia,bK h6,li.own,li.ok⟩) h.hold (uc hnm) g0 g1 g2' hh
 |Cd u i g kd n=>
  obtain⟨hi,h1,h2,h3,h4,h5,h6,h7⟩:=hc
  have li:=L _ (AW hi)
  refine DP.of (G:=G) (B:=B) (by simp[step,BY];lia) (Ht (D5 hi (λx hx=>(L x hx).up1) (li.up1.less (by lia) h2)) ⟨h3,by show 0<=n;lia,bK h6,li.own,li.ok⟩) h.hold (by simp[step];lia) g0 g1 g2' hh
 |DQ i n=>
  obtain⟨hi,h1,h2⟩:=hc
  have li:=L _ (AW hi)
  refine DP.of (G:=G) (B:=B) (by simp[step,BY];lia) (D5 hi (λx hx=>(L x hx).up1) (li.up1.less (by lia) h2)) h.hold (uc hnm) g0 g1 g2' hh
 |thr i n ws=>exact absurd rfl hd
 |Gq p q x=>exact absurd rfl hs
end
section
variable{S:Sto}{t:Tr}{ls:Gc Ld}{ds:Gc AK}{k M:Nat}{s o:Stt}{d:AK}
theorem JJ:∀{ds:Gc AK} {st:Stt},(runs t st ds).AA.length=st.AA.length+(ds.filter HM).length
 | [],st=>by simp[runs]
 |d::ds,st=>by
  show(runs t (step t st d) ds).AA.length=_
  rw[JJ]
  cases d<;>simp[step,HM,BY,w6]<;>lia
abbrev owL(s:Stt):Gc D:=s.AA.map λx=>shD x.ow
theorem Rw{q i j:Nat}(hq:S[q]?=Fk (.lst (owL s)))(h:DP t k s)(hk:k<=17)(hp:t.p<=50)(hc:Can t s (.F9 i j)):Aa [Ah s.AA,.ref q,(AK.F9 i j).d] S=Fk (shD (Bt (AJ s.AA i).n (AJ s.AA j).n (AJ s.AA i).ow (AJ s.AA j).ow),S):=by
 obtain⟨hij,hi,hj,h1,h2,h3⟩:=hc
 have sz:=h.sz
 have pi:=h.pcs _ (AW hi)
 have pj:=h.pcs _ (AW hj)
 have ti:=h.own _ (AW hi)
 have tj:=h.own _ (AW hj)
 have zi:=sz.1 _ (AW hi)
 have zj:=sz.1 _ (AW hj)
 have cq:=An hq
 by_cases hle:i<=j
 .have hle':(i:Int)<=j:=by lia
  have e:=C6 (S:=S) (j:=30+170*k) (n:=131+k) zi zj (EH pi.1 pi.2) (EH pj.1 pj.2) (by lia) (by lia) (by lia)
  rw[Gu]at e
  have a1:=DM hi
  have a2:=DM hj
  have b1:=GK hi
  have b2:=GK hj
  have mf:Ab [(AK.F9 i j).d] S=Fk (.lst [.int i,.int j],S):=by
   simp[Ab,Az,AK.d,hle,hle']
  simp only[AK.d]at mf⊢
  simp[Aa,BF,mf,cq,a1,a2,b1,b2,e]
 .have hle':¬(i:Int)<=j:=by lia
  have e:=C6 (S:=S) (j:=30+170*k) (n:=131+k) zj zi (EH pj.1 pj.2) (EH pi.1 pi.2) (by lia) (by lia) (by lia)
  rw[Gu,Lp]at e
  have a1:=DM hi
  have a2:=DM hj
  have b1:=GK hi
  have b2:=GK hj
  have mf:Ab [(AK.F9 i j).d] S=Fk (.lst [.int j,.int i],S):=by
   simp[Ab,Az,AK.d,hle,hle']
  simp only[AK.d]at mf⊢
  simp[Aa,BF,mf,cq,a1,a2,b1,b2,e]
theorem R7{q i kd:Nat}{g n:Int}(hq:S[q]?=Fk (.lst (owL s)))(hi:i<s.AA.length){H:D}:Aa [H,.ref q,(AK.swap i g kd n).d] S=Fk (shD (AJ s.AA i).ow,S):=by
 have b1:=GK hi
 have cq:=An hq
 simp[Aa,BF,Ab,Az,AK.d,cq,b1]
theorem QF{q i kd:Nat}{u g n:Int}(hq:S[q]?=Fk (.lst (owL s)))(hi:i<s.AA.length){H:D}:Aa [H,.ref q,(AK.Cd u i g kd n).d] S=Fk (shD (AJ s.AA i).ow,S):=by
 have b1:=GK hi
 have cq:=An hq
 simp[Aa,BF,Ab,Az,AK.d,cq,b1]
theorem JR{ls:Gc Ld}{i:Nat}{n:Int}:(less ls i n).map (λx=>shD x.ow)=ls.map λx=>shD x.ow:=by
 unfold less
 rw[vf]
 by_cases hi:i<ls.length
 .refine x5 λj=>?_
  by_cases e:i=j
  .subst e
   rw[sX (by simpa using hi),sP,Cp hi];rfl
  .rw[sJ e]
 .rw[List.set_eq_of_length_le (by simp;lia)]
end
section
variable{S:Sto}{t:Tr}{ls:Gc Ld}{ds:Gc AK}{k M:Nat}{s o:Stt}{d:AK}
theorem DP.up(h:DP t k s):DP t (k+1) s:=by
 obtain⟨G,B,g0,g1,g2,hl,hh⟩:=h.gb
 exact DP.of (G:=G) (B:=B) (by have:=h.len;lia) (λx hx=>LOk.up1 ⟨h.kind x hx,(h.pcs x hx).1,(h.pcs x hx).2,h.own x hx,hl x hx⟩) h.hold (by have:=h.nm;lia) g0 g1 (sI g2 (Hj (by lia))) hh
structure OJ(t:Tr)(M k:Nat)(s o:Stt):Prop where
 hd:Hd s o
 inv:DP (tO t M) k o
 ones:cu o.AA
theorem OJ.step(h:OJ t M k s o)(hk:k<=37)(hc:Can t s d)(hM:HM d=true->o.AA.length<M):OJ t M (k+1) (Mi.step t s d) (FY t M o d):=by
 refine⟨h.hd.step hc,?_,?_⟩
 .unfold FY
  cases e:Lu o.AA.length d with
  |none=>exact h.inv.up
  |some d'=>
   have c:=ZS h.hd hc hM e
   refine VR h.inv hk ?_ ?_ c
   .intro i n ws z;subst z;cases d<;>cases e
   .intro i n ws z;subst z;cases d<;>cases e
 .unfold FY
  cases e:Lu o.AA.length d with
  |none=>exact h.ones
  |some d'=>exact WE h.inv (ZS h.hd hc hM e) h.ones
def orB:Ex:=(AR (xIf (eOp (o2 wEq) [eOp (o2 wIx) [eV 4,eC (.int 0)],eC (.str "bring")]) (Ac (Fi Fp (eV 3) [AB BN [eV 1,eOp (o1 Ep) [eV 3]]])) (xIf (eOp (o2 (wIn false)) [eOp (o2 wIx) [eV 4,eC (.int 0)],eC BX]) (Ac (Fi Fp (eV 3) [AB Aa [eV 2,eV 3,eV 4]])) Cv))
    (A8 2 (AB AS [eV 2,eV 4])))
theorem gH{q:Nat}{bk:sD D}(hs:DP t k s)(hk:k<=17)(h:OJ t M k s o)(hc:Can t s d)(hM:HM d=true->o.AA.length<M)(hM2:M<=50)(hq:S[q]?=Fk (.lst (owL o))):orB [bk,Fk (.int M),Fk (Ah o.AA),Fk (.ref q),Fk d.d] S=Fk (.nx,[bk,Fk (.int M),Fk (Ah (FY t M o d).AA),Fk (.ref q),Fk d.d],S.set q (.lst (owL (FY t M o d)))):=by
 have hz:(owL o).length<sizeLine:=sI (show _<50 by have:=h.inv.len;simp;lia) (AI (by decide))
 have cq:=AX hq
 have dq:=An hq
 have bh:∀T,AS [Ah o.AA,d.d] T=Fk (Ah (FY t M o d).AA,T):=λT=>by
  rw[<-h.hd.held,<-(h.hd.step (M:=M) hc).held]
  exact FX hs hk hc
 have hl:((owL o).length:Int)=(o.AA.length:Int):=by simp
 cases d with
 |DU p kd n=>
  have e:=GY (S:=S) (P:=M) (p:=o.AA.length) hM2
  have eo:owL (FY t M o (.DU p kd n))=owL o++[shD (MA M o.AA.length)]:=by simp[owL,FY,Lu,step,tO]
  rw[eo]
  simp only[AK.d]at bh⊢
  rw[<-hl]at e
  generalize owL o=W at*
  simp[orB,cq,dq,e,hz,bh]
 |F9 i j=>
  have c:=ZS h.hd hc hM rfl
  have e:=Rw hq h.inv hk hM2 c
  have eo:owL (FY t M o (.F9 i j))=owL o++[shD (Bt (AJ o.AA i).n (AJ o.AA j).n (AJ o.AA i).ow (AJ o.AA j).ow)]:=by simp[owL,FY,Lu,step,JR]
  rw[eo]
  simp only[AK.d]at bh e⊢
  generalize owL o=W at*
  simp[orB,cq,dq,e,hz,bh]
 |swap i g kd n=>
  have hi:i<o.AA.length:=by rw[<-h.hd.len];exact hc.1
  have e:=R7 (g:=g) (kd:=kd) (n:=n) hq hi (H:=Ah o.AA)
  have eo:owL (FY t M o (.swap i g kd n))=owL o++[shD (AJ o.AA i).ow]:=by simp[owL,FY,Lu,step,JR]
  rw[eo]
  simp only[AK.d]at bh e⊢
  generalize owL o=W at*
  simp[orB,cq,dq,e,hz,bh]
 |Cd u i g kd n=>
  have hi:i<o.AA.length:=by rw[<-h.hd.len];exact hc.1
  have e:=QF (u:=u) (g:=g) (kd:=kd) (n:=n) hq hi (H:=Ah o.AA)
  have eo:owL (FY t M o (.Cd u i g kd n))=owL o++[shD (AJ o.AA i).ow]:=by simp[owL,FY,Lu,step,JR]
  rw[eo]
  simp only[AK.d]at bh e⊢
  generalize owL o=W at*
  simp[orB,cq,dq,e,hz,bh]
 |DQ i n=>
  have eo:owL (FY t M o (.DQ i n))=owL o:=by simp[owL,FY,Lu,step,JR]
  rw[eo,set_same hq]
  simp only[AK.d]at bh⊢
  simp[orB,bh]
 |thr i n ws=>
  have eo:owL (FY t M o (.thr i n ws))=owL o:=by simp[owL,FY,Lu,step,JR]
  rw[eo,set_same hq]
  simp only[AK.d]at bh⊢
  simp[orB,bh]
 |Gq p q' x=>
  have eo:owL (FY t M o (.Gq p q' x))=owL o:=by simp[owL,FY,Lu]
  rw[eo,set_same hq]
  simp only[AK.d]at bh⊢
  simp[orB,bh]
end
section
variable{S:Sto}{t:Tr}{ls:Gc Ld}{ds:Gc AK}{k M:Nat}{s o:Stt}{d:AK}
theorem VA(hd:Hd s o)(hM:(runs t s (d::ds)).AA.length<=M):HM d=true->o.AA.length<M:=λe=>by
 rw[JJ,w6,tK e,hd.len]at hM
 simp at hM
 lia
theorem OJ.runs(ht:JB t):∀{ds:Gc AK} {s o:Stt} {k:Nat},OJ t M k s o->JX t s ds->k+ds.length<=37->(Mi.runs t s ds).AA.length<=M->OJ t M (k+ds.length) (Mi.runs t s ds) (Xy t M o ds)
 | [],s,o,k,h,_,_,_=>h
 |d::ds,s,o,k,h,hg,hk,hM=>by
  have hl:(d::ds).length=ds.length+1:=rfl
  have:=OJ.runs ht (ds:=ds) (h.step (by lia) hg.1 (VA h.hd hM)) hg.2 (by lia) hM
  rw[show k+(d::ds).length=k+1+ds.length by lia]
  exact this
theorem Tw(ht:JB t)(hM2:M<=50){q:Nat}{bk:sD D}:∀{ds:Gc AK} {s o:Stt} {k:Nat} {S:Sto} {o4:sD D},DP t k s->OJ t M k s o->JX t s ds->k+ds.length<=16->(runs t s ds).AA.length<=M->S[q]?=Fk (.lst (owL o))->∃o4' S',Lx [] (tNm 4) orB (ds.map AK.d) [bk,Fk (.int M),Fk (Ah o.AA),Fk (.ref q),o4] S=Fk (.nx,[bk,Fk (.int M),Fk (Ah (Xy t M o ds).AA),Fk (.ref q),o4'],S')/\S'[q]?=Fk (.lst (owL (Xy t M o ds)))/\By [q] S S'
 | [],s,o,k,S,o4,_,h,_,_,_,hq=>⟨o4,S,by rw[vB,Ko AZ];rfl,hq,.refl⟩
 |d::ds,s,o,k,S,o4,hs,h,hg,hk,hM,hq=>by
  have hl:(d::ds).length=ds.length+1:=rfl
  have hm:=VA h.hd hM
  have e:=gH (bk:=bk) hs (by lia) h hg.1 hm hM2 hq
  obtain⟨o4',S',e2,q2,s2⟩:=Tw ht hM2 (ds:=ds) (bk:=bk) (S:=S.set q (.lst (owL (FY t M o d)))) (o4:=Fk d.d) (QN ht hs (by lia) hg.1) (h.step (by lia) hg.1 hm) hg.2 (by lia) hM (sX (Ai hq))
  refine⟨o4',S',?_,q2,(By.set (by simp)).trans s2⟩
  have tn:tNm 4 d.d [bk,Fk (.int M),Fk (Ah o.AA),Fk (.ref q),o4] S=Fk [bk,Fk (.int M),Fk (Ah o.AA),Fk (.ref q),Fk d.d]:=rfl
  rw[su,FD AZ,tn,Be,e,Be,U1,e2]
  rfl
theorem Xs(f:Nat×Int->Nat×Int):(tL ls.length).map (λi=>((AJ ls i).k,(AJ ls i).n))=ls.map kn:=by
 apply yH
 .simp
 .intro i h1 h2
  simp at h1
  have e:=Cp h1
  rw[sA h1]at e
  injection e with e
  simp[kn,<-e]
theorem Mw(h:A4 t ls ds)(hM:ls.length<=M):OJ t M 0 (st0 t ls) (WT M ls):=by
 have hl:=h.inv.len
 refine⟨?_,?_,?_⟩
 .show ls.map kn=((tL ls.length).map _).map kn
  rw[tW]
  exact(Xs id).symm
 .refine DP.of (G:=1) (B:=1) (by have hl':ls.length<=4:=hl;simp[WT];lia) (λx hx=>?_) (by simp[WT,tO]) (by simp[WT]) (by decide) (by decide) (by decide) (λr hr=>?_)
  .obtain⟨i,hi,rfl⟩:=uG.mp hx
   have hi':i<ls.length:=by simpa using hi
   have m:=AW hi'
   exact⟨h.inv.kind (AJ ls i) m,(h.inv.pcs (AJ ls i) m).1,(h.inv.pcs (AJ ls i) m).2,by simp[MA,tO],TK (sM _)⟩
  .have:r=0:=xK hr
   rw[this];exact Ok.zero
 .intro x hx
  obtain⟨i,hi,rfl⟩:=uG.mp hx
  have hi':i<ls.length:=by simpa using hi
  show(MA M i).sum=1
  rw[Pw,tK (by lia)]
noncomputable def manyN(ls:Gc Ld)(ds:Gc AK):Nat:=ls.length+(ds.filter HM).length
theorem mkC(hl:ds.length<=50):Bo [] (tNm 0) (eOp (o2 (wIn false)) [eOp (o2 wIx) [eV 0,eC (.int 0)],eC BX]) (eV 0) (ds.map AK.d) [] [none] S=Fk ((ds.filter HM).map AK.d,S):=
 CA (gs:=[]) (t:=tNm 0) (f:=eV 0) (C:=[]) (m:=1) (e:=AK.d) (g:=AK.d) (b:=HM) (S:=S) AZ (xs:=ds) (acc:=[]) (os:=[none]) rfl (sL (show _<=50 by simp;lia) (AI (by decide))) (by
  intro d _ os ho
  obtain⟨o1,rfl⟩:=Ke ho
  refine⟨[Fk d.d],rfl,by simp,?_,by simp⟩
  cases d<;>simp[AK.d,HM])
theorem X3(h:A4 t ls ds):BL [AL t ls ds,.int ds.length] S=Fk (.int (manyN ls ds),S):=by
 have hd:=h.len
 have ct:Kc (ds.map AK.d) none (Fk (ds.length:Int))=ds.map AK.d:=by rw[E8 (by simp),ve (by simp)]
 have mc:=mkC (S:=S) (ds:=ds) (by lia)
 have e:(manyN ls ds:Int)=(ls.length:Int)+((ds.filter HM).length:Int):=by unfold manyN;lia
 rw[e]
 simp[BL,GB,AL,ct,mc]
noncomputable def Xc(t:Tr)(ls:Gc Ld)(ds:Gc AK):Stt:=Xy t (manyN ls ds) (WT (manyN ls ds) ls) ds
theorem Tc(h:A4 t ls ds):manyN ls ds<=20:=by
 have:=h.len
 have:=h.inv.len
 have:=vM HM ds
 have:(st0 t ls).AA.length=ls.length:=rfl
 unfold manyN;lia
theorem YV(h:A4 t ls ds):OJ t (manyN ls ds) ds.length (runs t (st0 t ls) ds) (Xc t ls ds):=by
 have hd:=h.len
 have:=OJ.runs (M:=manyN ls ds) h.tr (Mw h (by unfold manyN;lia)) h.good (by lia) (by rw[JJ];exact sM _)
 rwa [zc]at this
theorem L0(h:A4 t ls ds):∃q S',EA [AL t ls ds] S=Fk (.ref q,S')/\S'[q]?=Fk (.lst (owL (Xc t ls ds)))/\By [] S S'/\S.length<=q:=by
 have hd:=h.len
 have hl:ls.length<=4:=h.inv.len
 have mm:=Tc h
 have m:=X3 (S:=S) h
 have fh:=ET (S:=S) (ls:=ls) (x:=t.d) (y:=.tup (ds.map AK.d)) (by lia)
 have c1:=Bw (gs:=[]) (t:=tNm 1) (f:=AB BN [eV 0,eV 1]) (C:=[Fk (.int (manyN ls ds))]) (m:=1) (e:=λi:Nat=>D.int (0+(i:Int))) (g:=λi=>shD (MA (manyN ls ds) i)) (S:=S) AZ (xs:=tL ls.length) (acc:=[]) (os:=[none]) rfl (sL (show _<=50 by simp;lia) (AI (by decide))) (by
  intro i _ os ho
  obtain⟨o1,rfl⟩:=Ke ho
  have e:=GY (S:=S) (P:=manyN ls ds) (p:=i) (by lia)
  exact⟨[Fk (.int i)],by simp,by simp,by simp[e]⟩)
 have ow0:(tL ls.length).map (λi=>shD (MA (manyN ls ds) i))=owL (WT (manyN ls ds) ls):=by
  unfold owL WT;rw[tW];rfl
 have rn:HI (ls.length:Int)=true:=Cq (by lia) (by lia)
 have h0:Ah ls=Ah (WT (manyN ls ds) ls).AA:=(Mw h (M:=manyN ls ds) (by unfold manyN;lia)).hd.held
 obtain⟨o4,S',e2,q2,s2⟩:=Tw (M:=manyN ls ds) h.tr (by lia) (q:=S.length) (bk:=Fk (AL t ls ds)) (o4:=none) h.inv (Mw h (by unfold manyN;lia)) h.good (by lia) (by rw[JJ];exact sM _) (S:=S++[Cl.lst (owL (WT (manyN ls ds) ls))]) sV
 refine⟨S.length,S',?_,q2,By.new (A:=[]) (B:=[S.length]) .app s2 (by simp),sM _⟩
 have eb:Hn=(AR (A8 1 (AB BL [eV 0,eOp (o1 Ep) [eOp (o2 wIx) [eV 0,eC (.int 2)]]]))
  (AR (A8 2 (AB A1 [eV 0]))
  (AR (A8 3 (OY [1] 1 (L7 [eOp (o1 Ep) [eV 2]]) (tNm 1) BK (AB BN [eV 0,eV 1])))
  (AR (L6 (Fq (eOp (o2 wIx) [eV 0,eC (.int 2)])) (tNm 4) orB)
  (Aq (eV 3)))))):=rfl
 unfold EA
 rw[eb]
 simp only[tF,tU]at c1
 rw[ow0]at c1
 rw[<-h0]at e2
 have lh:Ep (.val (Ah ls))=Fk (.val (.int ls.length)):=by
  show Fk (Wv.val (.int ((ls.map hD).length:Int)))=_
  simp
 have rg:(tL ls.length).map (λi:Nat=>D.int (0+(i:Int)))=Ka 0 ls.length:=by simp[Ka]
 rw[rg]at c1
 simp only[AL]at m fh e2⊢
 generalize owL (WT (manyN ls ds) ls)=W at*
 simp[m,fh,lh,rn,c1,e2]
end
structure Nn(t:Tr)(ls:Gc Ld)(ds:Gc AK):Prop where
 tr:JB t
 rO:DP t 0 (st0 t ls)
 few:ls.length<=4
 inv:∀i,i<=ds.length->∃k,k<=16/\DP t k (runs t (st0 t ls) (ds.take i))
 good:JX t (st0 t ls) ds
 len:ds.length<=18
theorem A4.g{t:Tr}{ls:Gc Ld}{ds:Gc AK}(h:A4 t ls ds):Nn t ls ds:=
 ⟨h.tr,h.inv,h.inv.len,λi _=>⟨_,by have:=h.len;simp;lia,h.at i⟩,h.good,by have:=h.len;lia⟩
noncomputable def Pc:AK->Gc Nat
 | .F9 a b=>if a<=b then [a,b]else [b,a]
 | .swap l _ _ _=>[l]
 | .Cd _ l _ _ _=>[l]
 |_=>[]
noncomputable def Bu(n:Nat)(ds:Gc AK):Gc (Gc Nat):=sS n []++(ds.filter HM).map Pc
noncomputable def nD(is:Gc Nat):D:=.lst (Au is)
section
variable{S:Sto}{t:Tr}{ls:Gc Ld}{ds:Gc AK}
theorem JI:(Bu ls.length ds).length=ls.length+(ds.filter HM).length:=by simp[Bu]
theorem OX(h:Nn t ls ds):A5 [AL t ls ds] S=Fk (.non,S):=by
 have hl0:=h.few
 have hd:=h.len
 obtain⟨E',S',ef,i,o1,o2,f1,f2,rfl,rfl⟩:=EV (gs:=[]) (t:=tTp [tNm 3,tNm 4]) (b:=AR (xIf (Jx (AB Bn [eV 1,eOp (KY false true) [eV 2,eV 3],eV 4])) (Aq (eV 3)) Cv)
  (A8 1 (AB AS [eV 1,eV 4])))
  (I:=λrs E S'=>∃(i:Nat) (o1 o2:sD D),rs=(JV 0 (ds.map AK.d)).drop i/\i<=ds.length/\E=[Fk (AL t ls ds),Fk (Ah (runs t (st0 t ls) (ds.take i)).AA),Fk (.tup (ds.map AK.d)),o1,o2]/\S'=S)
  (λ_ _ _ _=>AZ) (ds:=JV 0 (ds.map AK.d)) (E:=[Fk (AL t ls ds),Fk (Ah ls),Fk (.tup (ds.map AK.d)),none,none]) (S:=S)
  ⟨0,none,none,by simp,ux _,by simp[runs,st0],rfl⟩ (by
    rintro dd rs E T ⟨i,o1,o2,i1,i2,rfl,rfl⟩
    have el:(JV 0 (ds.map AK.d)).length=ds.length:=by rw[GU];simp
    have hlt:i<ds.length:=by
     rcases vI i ds.length with w|w
     .exact w
     .rw[uH (by lia)]at i1;cases i1
    rw[tS (by lia)]at i1
    injection i1 with z1 z2
    have hd1:dd=.tup [.int i,ds[i].d]:=by
     have:=Hz (ds:=ds.map AK.d) (k:=0) (i:=i)
     rw[sA (by lia),<-z1,sP,sA hlt]at this
     simpa using this
    subst z2
    subst hd1
    obtain⟨k,hk,inv⟩:=h.inv i (by lia)
    have il:(ds.take i).length<=20:=by simp;lia
    have can:=Gh h.good (sA hlt)
    have cd:=cG (S:=T) (st:=runs t (st0 t ls) (ds.take i)) (ds:=ds.take i) (d:=ds[i]) (by lia) LH
    rw[(Sy can).2]at cd
    have e3:=FX (S:=T) inv (by lia) can
    have rt:=FQ (t:=t) (st:=st0 t ls) (sA hlt)
    have ct:=E8 (ds:=ds.map AK.d) (n:=i) (by simp;lia)
    rw[wY]at cd
    refine⟨_,[Fk (AL t ls ds),Fk (Ah (runs t (st0 t ls) (ds.take (i+1))).AA),Fk (.tup (ds.map AK.d)),Fk (.int i),Fk ds[i].d],T,by simp;rfl,?_,i+1,Fk (.int i),Fk ds[i].d,rfl,hlt,rfl,rfl⟩
    rw[rt]
    simp[ct,cd,e3])
 have fh:=ET (S:=S') (ls:=ls) (x:=t.d) (y:=.tup (ds.map AK.d)) (by lia)
 simp only[AL]at ef⊢
 simp[A5,C3,fh,ef]
theorem af(h:Nn t ls ds):AH [AL t ls ds] S=Fk (.non,S):=by
 have e:=OX (S:=S) h
 simp[AH,DC,e,isN]
theorem qA(hl:ds.length<=50):Bo [] (tNm 0) (eOp (o2 (wIn false)) [eOp (o2 wIx) [eV 0,eC (.int 0)],eC BX]) (eV 0) (ds.map AK.d) [] [none] S=Fk ((ds.filter HM).map AK.d,S):=
 CA (gs:=[]) (t:=tNm 0) (f:=eV 0) (C:=[]) (m:=1) (e:=AK.d) (g:=AK.d) (b:=HM) (S:=S) AZ (xs:=ds) (acc:=[]) (os:=[none]) rfl (sL (show _<=50 by simp;lia) (AI (by decide))) (by
  intro d _ os ho
  obtain⟨o1,rfl⟩:=Ke ho
  refine⟨[Fk d.d],rfl,by simp,?_,by simp⟩
  cases d<;>simp[AK.d,HM])
theorem Uh(h:Nn t ls ds):BL [AL t ls ds,.int ds.length] S=Fk (.int (Bu ls.length ds).length,S):=by
 have hd:=h.len
 have ct:Kc (ds.map AK.d) none (Fk (ds.length:Int))=ds.map AK.d:=by rw[E8 (by simp),ve (by simp)]
 have mc:=qA (S:=S) (ds:=ds) (by lia)
 have e:((Bu ls.length ds).length:Int)=(ls.length:Int)+((ds.filter HM).length:Int):=by rw[JI];lia
 rw[e]
 simp[BL,GB,AL,ct,mc]
theorem LQ{i:Nat}(h:Nn t ls ds)(hi:i<(Bu ls.length ds).length):AN [AL t ls ds,.int i] S=Fk (.non,S):=by
 have k1:St.Kd.int.isA "int"=true:=by decide
 have k2:St.Kd.int.isA "bool"=false:=by decide
 have m:=Uh (S:=S) h
 have h1:(i:Int)<=((Bu ls.length ds).length:Int)-1:=by lia
 generalize ((Bu ls.length ds).length:Int)=L at*
 simp only[AL]at m⊢
 simp[AN,EF,m,k1,k2,A3,DA,Dj,Fg,CV,Eh,kdW,h1]
theorem Zy{a b:Nat}:(if(a:Int)<=(b:Int)then [(a:Int),(b:Int)]else [(b:Int),(a:Int)]).map D.int=Au (if a<=b then [a,b]else [b,a]):=by
 by_cases h:a<=b
 .have:(a:Int)<=(b:Int):=by lia
  rw[tK h,tK this];rfl
 .have:¬(a:Int)<=(b:Int):=by lia
  rw[tN h,tN this];rfl
theorem XF{d:AK}:Ab [d.d] S=Fk (nD (Pc d),S):=by
 have sz:(1:Nat)<=sizeLine:=AI (by decide)
 have sz2:(2:Nat)<=sizeLine:=AI (by decide)
 cases d with
 |F9 a b=>
  have e:=Zy (a:=a) (b:=b)
  show _=Fk (D.lst (Au (if a<=b then [a,b]else [b,a])),S)
  rw[<-e]
  simp[Ab,Az,AK.d,sz2]
 |swap l g k n=>simp[Ab,Az,AK.d,Pc,nD,Au,sz]
 |Cd u l g k n=>simp[Ab,Az,AK.d,Pc,nD,Au,sz]
 |_=>simp[Ab,Az,AK.d,Pc,nD,Au]
theorem Td:(Bu ls.length ds).map nD=(ls.map λ_=>D.lst [])++(ds.filter HM).map λd=>nD (Pc d):=by
 unfold Bu
 rw[uA,tW]
 congr 1
 rw[AAx]
 induction ls with
 |nil=>rfl
 |cons x ls ih=>rw[tY,uv,su,ih];rfl
theorem GD(h:Nn t ls ds):BG [AL t ls ds] S=Fk (.lst ((Bu ls.length ds).map nD),S):=by
 have hd:=h.len
 have hl:=h.few
 have c1:=Bw (gs:=[]) (t:=tNm 0) (f:=Eu []) (C:=[]) (m:=1) (e:=Ld.d) (g:=λ_=>D.lst []) (S:=S) AZ (xs:=ls) (acc:=[]) (os:=[none]) rfl (sL (show _<=50 by simp;lia) (AI (by decide))) (by
  intro x hx os ho
  obtain⟨x1,rfl⟩:=Ke ho
  exact⟨[Fk x.d],rfl,by simp,by simp⟩)
 have c2:=CA (gs:=[]) (t:=tNm 0) (c:=eOp (o2 (wIn false)) [eOp (o2 wIx) [eV 0,eC (.int 0)],eC BX]) (f:=AB Ab [eV 0]) (C:=[]) (m:=1) (e:=AK.d) (g:=λd=>nD (Pc d)) (b:=HM) (S:=S) AZ (xs:=ds) (acc:=[]) (os:=[none]) rfl (sL (show _<=50 by simp;lia) (AI (by decide))) (by
  intro d hd os ho
  obtain⟨x1,rfl⟩:=Ke ho
  refine⟨[Fk d.d],rfl,by simp,?_,?_⟩
  .cases d<;>simp[AK.d,HM]
  .have e:=XF (S:=S) (d:=d)
   simp[e])
 have sz:(ls.map λ_=>D.lst []).length+((ds.filter HM).map λd=>nD (Pc d)).length<=sizeLine:=sL (show _<=50 by
  have:=vM HM ds
  rw[tq,tq];lia) (AI (by decide))
 rw[Td]
 simp only[tF]at c1 c2
 generalize (ls.map λ_=>D.lst [])=A at*
 generalize ((ds.filter HM).map λd=>nD (Pc d))=B at*
 simp[BG,HP,AL,c1,c2,sz]
end
section
variable{S:Sto}{t:Tr}{ls:Gc Ld}{ds:Gc AK}
end
noncomputable def rowAt(rows:Gc (Gc Nat))(k:Nat):Gc Nat:=rows.getD k []
section
variable{S:Sto}{t:Tr}{ls:Gc Ld}{ds:Gc AK}{load:Nat}{rows:Gc (Gc Nat)}
end
section
variable{S:Sto}{load q:Nat}{rows:Gc (Gc Nat)}
end
section
variable{S:Sto}{t:Tr}{ls:Gc Ld}{ds:Gc AK}{load q p:Nat}{rows:Gc (Gc Nat)}
theorem Qr(h:Nn t ls ds):(Bu ls.length ds).length<=24:=by
 have:=vM HM ds
 have:=h.len
 have:=h.few
 rw[JI];lia
def N7(rows:Gc (Gc Nat)):Prop:=∀k,∀j∈rowAt rows k,j<k
theorem SI{rows:Gc (Gc Nat)}{r:Gc Nat}(h:N7 rows)(hr:∀j∈r,j<rows.length):N7 (rows++[r]):=by
 intro k j hj
 unfold rowAt at hj
 rw[sG]at hj
 by_cases hk:k<rows.length
 .rw[sH hk]at hj
  exact h k j (by unfold rowAt;rw[sG];exact hj)
 .by_cases e:k=rows.length
  .subst e
   rw[sV]at hj
   exact hr j hj
  .rw[yA (by simp;lia)]at hj
   cases hj
theorem UO{n:Nat}:N7 (sS n []):=by
 intro k j hj
 unfold rowAt at hj
 rw[sG,xV]at hj
 by_cases hk:k<n
 .rw[tK hk]at hj;cases hj
 .rw[tN hk]at hj;cases hj
theorem fY{st:Stt}{d:AK}(hc:Can t st d):∀j∈Pc d,j<st.AA.length:=by
 intro j hj
 cases d with
 |F9 a b=>
  obtain⟨_,h1,h2,_⟩:=hc
  have hj:j∈(if a<=b then [a,b]else [b,a]):=hj
  split at hj
  .simp at hj;rcases hj with rfl|rfl<;>assumption
  .simp at hj;rcases hj with rfl|rfl<;>assumption
 |swap l g k n=>simp[Pc]at hj;subst hj;exact hc.1
 |Cd u l g k n=>simp[Pc]at hj;subst hj;exact hc.1
 |_=>cases hj
theorem NO:∀{ds:Gc AK} {st:Stt} {rows:Gc (Gc Nat)},JX t st ds->rows.length=st.AA.length->N7 rows->N7 (rows++(ds.filter HM).map Pc)
 | [],st,rows,_,_,h=>by simpa using h
 |d::ds,st,rows,g,hl,h=>by
  have hlen:(step t st d).AA.length=st.AA.length+(if HM d=true then 1 else 0):=by cases d<;>simp[step,HM,BY]
  rw[w6]
  cases hm:HM d with
  |true=>
   rw[hm,tK rfl]at hlen
   have:=NO (ds:=ds) (st:=step t st d) (rows:=rows++[Pc d]) g.2 (by simp;lia) (SI h (by rw[hl];exact fY g.1))
   simpa using this
  |false=>
   rw[hm,tN (by decide)]at hlen
   simpa using NO (ds:=ds) (st:=step t st d) (rows:=rows) g.2 (by lia) h
theorem Mg(h:Nn t ls ds):N7 (Bu ls.length ds):=NO (st:=st0 t ls) h.good (by simp[st0]) UO
theorem QS:∀k,(rowAt (Bu ls.length ds) k).length<=2:=by
 intro k
 have all:∀r∈Bu ls.length ds,r.length<=2:=by
  intro r hr
  unfold Bu at hr
  rcases sx.mp hr with h|h
  .rw[xK h];simp
  .obtain⟨d,_,rfl⟩:=uG.mp h
   cases d with
   |F9 a b=>
    show(if a<=b then [a,b]else [b,a]).length<=2
    split<;>simp
   |_=>simp[Pc]
 unfold rowAt
 rw[sG]
 cases e:(Bu ls.length ds)[k]? with
 |none=>simp
 |some r=>exact all r (se e)
end
inductive Chn(rows:Gc (Gc Nat)):Nat->Gc Nat->Prop
 |root {n:Nat} (h:rowAt rows n=[]) (hn:n<rows.length):Chn rows n [n]
 |step {n s:Nat} {is:Gc Nat} (c:Chn rows s is) (m:s∈rowAt rows n) (hn:n<rows.length):Chn rows n (is++[n])
section
variable{rows:Gc (Gc Nat)}
theorem Chn.len(ha:N7 rows):∀{n:Nat} {is:Gc Nat},Chn rows n is->is.length<=n+1
 |_,_,.root h hn=>by simp
 |_,_,.step c m hn=>by
  have:=c.len ha
  have:=ha _ _ m
  simp
  lia
theorem UB{bt:Nat->Nat->tV}:∀m,argBest bt m<=m
 |0=>sM _
 |m+1=>by
  show(if bt (m+1) (argBest bt m)then m+1 else argBest bt m)<=m+1
  split
  .exact sM _
  .exact uc (UB m)
theorem Uc{α β γ:Type}{f:β->sD γ}{e:α->β}{g:α->γ}:∀{xs:Gc α},(∀x∈xs,f (e x)=Fk (g x))->Yr f (xs.map e)=Fk (xs.map g)
 | [],_=>rfl
 |x::xs,h=>by
  show(f (e x)).bind (λb=>(Yr f (xs.map e)).map λbs=>b::bs)=_
  rw[h x sZ,Uc λy hy=>h y (sQ _ hy)]
  rfl
theorem lY(is:Gc Nat):IJ (Au is)=Fk (is.map λi:Nat=>(i:Int)):=by
 have:=DV (is.map λi:Nat=>(i:Int))
 rw[tW]at this
 exact this
theorem lI{S:Sto}{k:Nat}{row:Gc Nat}{f:Nat->Gc Nat}:∃is,mnK (.lst (row.map λs=>.tup (Au (f s++[k]))),S) (.tup [.int k],S)=Fk (.tup (Au is),S)/\((row=[]/\is=[k])\/∃s∈row,is=f s++[k]):=by
 have m:Yr tupI (row.map λs=>D.tup (Au (f s++[k])))=Fk (row.map λs=>(f s++[k]).map λi:Nat=>(i:Int)):=Uc λs _=>lY _
 cases row with
 |nil=>exact⟨[k],rfl,.inl ⟨rfl,rfl⟩⟩
 |cons s row=>
  generalize hn:((s::row).map λs=>(f s++[k]).map λi:Nat=>(i:Int))=nss at*
  have hlt:argBest (Rl nss) (((s::row).map λs=>D.tup (Au (f s++[k]))).length-1)<(s::row).length:=by
   have:=UB (bt:=Rl nss) (((s::row).map λs=>D.tup (Au (f s++[k]))).length-1)
   rw[tq]at this⊢
   simp at this⊢
   lia
  refine⟨f ((s::row)[argBest (Rl nss) (((s::row).map λs=>D.tup (Au (f s++[k]))).length-1)])++[k],?_,.inr ⟨_,vj hlt,rfl⟩⟩
  show(Yr tupI ((s::row).map λs=>D.tup (Au (f s++[k])))).map (λnss=>(cS (.tup [.int k]) nss ((s::row).map λs=>D.tup (Au (f s++[k]))),S))=_
  rw[m]
  show Fk (List.getD ((s::row).map λs=>D.tup (Au (f s++[k]))) (argBest (Rl nss) (((s::row).map λs=>D.tup (Au (f s++[k]))).length-1)) .non,S)=_
  rw[sG,sP,sA hlt]
  rfl
end
section
variable{S:Sto}{t:Tr}{ls:Gc Ld}{ds:Gc AK}{load:Nat}
def fcB:Ex:=(AR (A8 5 (Bg [2,3] 1 (Fq (eV 4)) (tNm 2) BK (eOp (o2 Ct) [eOp (o2 wIx) [eV 0,eV 2],B0 [eV 1]])))
    (Ac (Fi Fp (eV 2) [eMn (eV 5) (B0 [eV 3])])))
noncomputable def chD(is:Gc Nat):D:=.tup (Au is)
theorem M8{rows:Gc (Gc Nat)}:JV 0 (rows.map nD)=(tL rows.length).map λ(i:Nat)=>D.tup [.int i,.lst (Au (rowAt rows i))]:=by
 rw[GU,tq]
 apply ya
 intro i hi
 have h:i<rows.length:=wD.mp hi
 unfold rowAt
 rw[sG,sP,sG,sA h]
 rfl
theorem iV{rows:Gc (Gc Nat)}(ha:N7 rows)(hr:rows.length<=50)(hw:∀k,(rowAt rows k).length<=2){css:Gc (Gc Nat)}{q:Nat}{a0 a1 o5:sD D}(hk:css.length<rows.length)(hc:∀i,i<css.length->Chn rows i (css.getD i []))(hq:S[q]?=Fk (.lst (css.map chD))):∃is o,fcB [a0,a1,Fk (.ref q),Fk (.int css.length),Fk (.lst (Au (rowAt rows css.length))),o5] S=Fk (.nx,[a0,a1,Fk (.ref q),Fk (.int css.length),Fk (.lst (Au (rowAt rows css.length))),o],S.set q (.lst ((css++[is]).map chD)))/\Chn rows css.length is:=by
 obtain⟨is,e1,e2⟩:=lI (S:=S) (k:=css.length) (row:=rowAt rows css.length) (f:=λs=>css.getD s [])
 have hs2:=hw css.length
 have cz:=Bw (gs:=[]) (t:=tNm 2) (f:=eOp (o2 Ct) [eOp (o2 wIx) [eV 0,eV 2],B0 [eV 1]]) (C:=[Fk (.ref q),Fk (.int css.length)]) (m:=1) (e:=λi:Nat=>D.int i) (g:=λs=>D.tup (Au (css.getD s []++[css.length]))) (S:=S) AZ (xs:=rowAt rows css.length) (acc:=[]) (os:=[none]) rfl (sL (show _<=50 by simp;lia) (AI (by decide))) (by
  intro s hs os ho
  obtain⟨x1,rfl⟩:=Ke ho
  have hlt:=ha _ _ hs
  have at1:atI (css.map chD) (s:Int)=Fk (.tup (Au (css.getD s []))):=Bq (by rw[sP,sG,sA hlt];rfl)
  have dq:=An hq
  have hlen:=(hc s hlt).len ha
  have sz:(Au (css.getD s [])).length+1<=sizeLine:=sL (show _<=100 by unfold Au;rw[tq];lia) (AI (by decide))
  have en:Au (css.getD s []++[css.length])=Au (css.getD s [])++[.int css.length]:=by unfold Au;rw[uA];rfl
  refine⟨[Fk (.int s)],rfl,by simp,?_⟩
  rw[en]
  generalize Au (css.getD s [])=NX at*
  generalize css.map chD=CM at*
  simp[dq,at1,sz])
 have hz:(css.map chD).length<sizeLine:=sI (show _<51 by rw[tq];lia) (AI (by decide))
 refine⟨is,Fk (.lst ((rowAt rows css.length).map λs=>D.tup (Au (css.getD s []++[css.length])))),?_,?_⟩
 .have eM:∀(fa fb:Ev) (E:En) (T:Sto),eMn fa fb E T=(fa E T).bind λp=>(fb E p.2).bind λq=>mnK p q:=λ_ _ _ _=>rfl
  have ea:(css++[is]).map chD=css.map chD++[.tup (Au is)]:=by rw[uA];rfl
  rw[ea]
  simp only[tF,tU]at cz
  change Bo [] (tNm 2) BK _ (Au (rowAt rows css.length)) _ _ _=_ at cz
  have sq:sqD S (.lst (Au (rowAt rows css.length)))=Fk (Au (rowAt rows css.length),[]):=nr rfl
  generalize ((rowAt rows css.length).map λs=>D.tup (Au (css.getD s []++[css.length])))=LG at*
  generalize Au (rowAt rows css.length)=RX at*
  generalize css.map chD=CM at*
  simp[fcB,sq,MS,cz,eM,e1,AX hq,hz]
 .rcases e2 with⟨h1,rfl⟩|⟨s,hs,rfl⟩
  .exact .root h1 hk
  .exact .step (hc s (ha _ _ hs)) hs hk
theorem L3(h:Nn t ls ds)(hi:load<(Bu ls.length ds).length):∃is S',BS [AL t ls ds,.int load] S=Fk (.tup (Au is),S')/\Chn (Bu ls.length ds) load is/\By [] S S':=by
 have r1:=af (S:=S) h
 have r2:=LQ (S:=S) h hi
 have sr:=GD (S:=S++[Cl.lst []]) h
 have ha:=Mg h
 have hr:=Qr h
 have hw:=QS (ls:=ls) (ds:=ds)
 generalize Bu ls.length ds=rows at*
 have hq:(S++[Cl.lst []])[S.length]?=Fk (.lst []):=sV
 obtain⟨E',S',ef,css,u3,u4,u5,f1,rfl,f3,f4,f5⟩:=EV (gs:=[]) (t:=tTp [tNm 3,tNm 4]) (b:=fcB)
  (I:=λrs E S'=>∃(css:Gc (Gc Nat)) (u3 u4 u5:sD D),(rs=(JV 0 (rows.map nD)).drop css.length/\css.length<=rows.length)/\E=[Fk (AL t ls ds),Fk (.int load),Fk (.ref S.length),u3,u4,u5]/\S'[S.length]?=Fk (.lst (css.map chD))/\(∀i,i<css.length->Chn rows i (css.getD i []))/\By [S.length] (S++[Cl.lst []]) S')
  (λ_ _ _ _=>AZ) (ds:=JV 0 (rows.map nD)) (E:=[Fk (AL t ls ds),Fk (.int load),Fk (.ref S.length),none,none,none]) (S:=S++[Cl.lst []])
  ⟨[],none,none,none,⟨by simp,ux _⟩,rfl,hq,λi hi=>by simp at hi,.refl⟩ (by
    rintro dd rs E T ⟨css,u3,u4,u5,⟨i1,i2⟩,rfl,i3,i4,i5⟩
    have el:(JV 0 (rows.map nD)).length=rows.length:=by rw[M8];simp
    have hlt:css.length<rows.length:=by
     rcases vI css.length rows.length with w|w
     .exact w
     .rw[uH (by lia)]at i1;cases i1
    rw[tS (by lia)]at i1
    injection i1 with z1 z2
    have hd1:dd=.tup [.int css.length,.lst (Au (rowAt rows css.length))]:=by
     have:(JV 0 (rows.map nD))[css.length]?=Fk (.tup [.int css.length,.lst (Au (rowAt rows css.length))]):=by
      rw[M8,sP,xG hlt];rfl
     rw[sA (by lia),<-z1]at this
     exact uq this
    subst z2 hd1
    obtain⟨is,o,e,c⟩:=iV (S:=T) (a0:=Fk (AL t ls ds)) (a1:=Fk (.int load)) (o5:=u5) ha (by lia) hw hlt i4 i3
    refine⟨_,_,_,by simp,e,css++[is],_,_,_,⟨by simp,by simp;lia⟩,rfl,sX (Ai i3),λi hi=>?_,i5.trans (.set (by simp))⟩
    by_cases hz:i<css.length
    .have:(css++[is]).getD i []=css.getD i []:=by rw[sG,sH hz,<-sG]
     rw[this];exact i4 i hz
    .have:i=css.length:=by simp at hi;lia
     subst this
     rw[sG,sV]
     exact c)
 have el:(JV 0 (rows.map nD)).length=rows.length:=by rw[M8];simp
 have hn:css.length=rows.length:=by
  have:=congrArg vz f1.1
  rw[yD,el]at this
  simp at this
  lia
 have at1:atI (css.map chD) (load:Int)=Fk (.tup (Au (css.getD load []))):=Bq (by rw[sP,sG,sA (by lia)];rfl)
 refine⟨css.getD load [],S',?_,f4 load (by lia),By.new (A:=[]) (B:=[S.length]) .app f5 (by simp)⟩
 have eb:Hi=(AR (Ac (AB AH [eV 0]))
  (AR (Ac (AB AN [eV 0,eV 1]))
  (AR (A8 2 (HJ []))
  (AR (L6 (YI (AB BG [eV 0])) (tTp [tNm 3,tNm 4]) fcB)
  (Aq (eOp (o2 wIx) [eV 2,eV 1])))))):=rfl
 have dq:=An f3
 unfold BS
 rw[eb]
 generalize AL t ls ds=bk at*
 generalize rows.map nD=RO at*
 generalize css.map chD=CM at*
 simp[r1,r2,sr,ef,dq,at1]
end
section
variable{S:Sto}{ls:Gc Ld}{G B N K:Nat}
theorem aW{k:Nat}(hk:k<=20){p:Nat}(hkind:∀l∈ls,l.k<k)(h:Bd ls G B N K):∃S',CP [.int k,Ah ls,.lst (ls.map λx=>aD (ownAt x p))] S=Fk (shD (B7 k ls p),S')/\By [] S S':=by
 have ez:Ly (ls.map hD) (ls.map λx=>aD (ownAt x p))=ls.map λx=>.tup [hD x,aD (ownAt x p)]:=by
  unfold Ly
  rw[List.zip_map',tW]
  rfl
 have hq:(S++[Cl.lst ((B7 k [] p).map aD)])[S.length]?=Fk (.lst ((B7 k [] p).map aD)):=sV
 generalize hQ:S.length=q at*
 obtain⟨E',S',ef,i,o4,o5,o6,f1,f2,rfl,f3,f4⟩:=EV (gs:=[]) (t:=tTp [tTp [tNm 5,tNm 6],tNm 4]) (b:=Lz (AB Gv [eOp (o2 wIx) [eV 3,eV 5],AB FL [B0 [eV 6,eC (.int 1)],eV 4]]) (eV 3) (eV 5))
  (I:=λrs E S'=>∃(i:Nat) (o4 o5 o6:sD D),rs=(ls.drop i).map (λx=>D.tup [hD x,aD (ownAt x p)])/\i<=ls.length/\E=[Fk (.int k),Fk (Ah ls),Fk (.lst (ls.map λx=>aD (ownAt x p))),Fk (.ref q),o4,o5,o6]/\S'[q]?=Fk (.lst ((B7 k (ls.take i) p).map aD))/\By [] S S')
  (λ_ _ _ _=>AZ) (ds:=ls.map λx=>D.tup [hD x,aD (ownAt x p)]) (E:=[Fk (.int k),Fk (Ah ls),Fk (.lst (ls.map λx=>aD (ownAt x p))),Fk (.ref q),none,none,none]) (S:=S++[Cl.lst ((B7 k [] p).map aD)])
  ⟨0,none,none,none,by simp,ux _,rfl,by simpa using hq,.app⟩ (by
    rintro dd rs E T ⟨i,o4,o5,o6,i1,i2,rfl,i3,i4⟩
    have hlt:i<ls.length:=by
     rcases vI i ls.length with w|w
     .exact w
     .rw[uH w]at i1;cases i1
    rw[tS hlt,su]at i1
    injection i1 with z1 z2
    subst z1 z2
    have hm:ls[i]∈ls:=vj hlt
    have htk:ls.take (i+1)=ls.take i++[ls[i]]:=by rw[AAD,sA hlt];rfl
    have tm:=ZN (S:=T) (h.nSz hm) ((h.at hm p).sz h.g0 h.gK h.hB) (by have:=h.hK;lia)
    rw[Yj]at tm
    have zb:30*(B*N)<2^K:=by have:=h.hb;lia
    have zb1:B*N<2^K:=by have:=h.hb;lia
    have pl:=ff (S:=T) ((h.take i).kind (p:=p) (kd:=ls[i].k)|>.sz h.g0 h.gK zb) ((h.mul hm p).sz h.g0 h.gK zb1) (by have:=h.hK;lia)
    have hkd:=hkind _ hm
    have at1:atI ((B7 k (ls.take i) p).map aD) (ls[i].k:Int)=Fk (aD (kindS (ls.take i) p ls[i].k)):=Bq (by
     rw[sP,B7,sP,xG hkd];rfl)
    have ix1:ixN ((B7 k (ls.take i) p).map aD).length (ls[i].k:Int)=Fk ls[i].k:=K2 (by simp[B7];exact hkd)
    have ef:((B7 k (ls.take i) p).map aD).set ls[i].k (aD (kindS (ls.take i) p ls[i].k+(ls[i].n:Rat)*ownAt ls[i] p))=(B7 k (ls.take (i+1)) p).map aD:=by rw[htk,Pu,vf]
    have dq:=An i3
    have cq:=AX i3
    generalize (B7 k (ls.take i) p).map aD=V at*
    generalize hx:ls[i]=x at*
    generalize aD (kindS (ls.take i) p x.k+(x.n:Rat)*ownAt x p)=D1 at*
    generalize aD ((x.n:Rat)*ownAt x p)=D2 at*
    generalize aD (kindS (ls.take i) p x.k)=D3 at*
    have lq:=i4.len
    refine⟨_,[Fk (.int k),Fk (Ah ls),Fk (.lst (ls.map λx=>aD (ownAt x p))),Fk (.ref q),Fk (aD (ownAt x p)),Fk (.int x.k),Fk (.int x.n)],T.set q (.lst (V.set x.k D1)),by simp;rfl,?_,i+1,_,_,_,rfl,hlt,rfl,by rw[<-ef];exact sX (Ai i3),By.new (A:=[]) (B:=[q]) i4 (.set (by simp)) (by intro n hn';simp at hn';lia)⟩
    generalize aD (ownAt x p)=D4 at*
    simp[dq,at1,tm,pl,cq,ix1])
 have hz:i=ls.length:=by
  have:=congrArg vz f1
  simp at this
  lia
 subst hz
 rw[List.take_length]at f3
 refine⟨S',?_,f4⟩
 have m1:Bx (.val (.lst [Fc])) (.val (.int k))=Fk (.own ((B7 k [] p).map aD)):=by
  have hs:k<=sizeLine:=AI (by lia)
  have h1:(k:Int)<2^63:=by lia
  have h2: -(2:Int)^63<=k:=by lia
  rw[SE,JW,tK (by simp[hs];lia)]
  simp[Og,Fc]
 have df:=An f3
 generalize (B7 k [] p).map aD=V0 at*
 rw[show shD (B7 k ls p)=.tup ((B7 k ls p).map aD)from rfl]
 generalize (B7 k ls p).map aD=V1 at*
 have dh:sqD (S++[Cl.lst V0]) (Ah ls)=Fk (ls.map hD,[]):=nr rfl
 simp[CP,GP,-JW,m1,hQ,dh,ez,ef,df]
end
section
variable{S:Sto}{t:Tr}{ls:Gc Ld}{ds:Gc AK}{n:Nat}
theorem bN(h:A4 t ls ds)(hn:n<=ds.length):∃S',D8 [AL t ls ds,.int n] S=Fk (.lst ((tL t.p).map λp=>shD (B7 t.k (runs t (st0 t ls) (ds.take n)).AA p)),S')/\By [] S S':=by
 obtain⟨S1,e1,s1⟩:=Nm (S:=S) h hn
 have il:(ds.take n).length<=16:=by have:=h.len;simp;lia
 have inv:=h.at n
 obtain⟨G,B,N,K,bd⟩:=inv.bd il
 have ho:=inv.own
 have hk:=inv.kind
 obtain⟨t1,t2,t3,t4,t5,t6⟩:=h.tr
 generalize (runs t (st0 t ls) (ds.take n)).AA=L at*
 generalize (runs t (st0 t ls) (ds.take n)).hold=Ho at*
 obtain⟨S2,e2,s2⟩:=O4 (gs:=[]) (t:=tNm 3) (f:=AB CP [eV 0,eV 1,Bg [3] 1 (Fq (eV 2)) (tNm 1) BK (eOp (o2 wIx) [eV 1,eV 0])]) (C:=[Fk (.int t.k),Fk (Ah L),Fk (Je L)]) (m:=1) (e:=λp:Nat=>D.int p) (g:=λp=>shD (B7 t.k L p)) (S0:=S1) (λ_ _=>AZ) (xs:=tL t.p) (acc:=[]) (os:=[none]) (S:=S1) rfl .refl (sL (show _<=50 by simp;lia) (AI (by decide))) (by
  intro p hp os T ho' hT
  obtain⟨o1,rfl⟩:=Ke ho'
  have hp':p<t.p:=by simpa using hp
  have pc:=ke (ls:=L) (p:=p) (T:=T) (λl hl=>by rw[ho l hl];exact hp') bd.len
  obtain⟨T2,e3,s3⟩:=aW (S:=T) (k:=t.k) (by lia) (p:=p) hk bd
  refine⟨[Fk (.int p)],T2,rfl,by simp,?_,hT.trans s3⟩
  have dh:sqD T (Je L)=Fk (L.map (λx=>shD x.ow),[]):=nr rfl
  simp[dh,MS,pc,e3])
 refine⟨S2,?_,s1.trans s2⟩
 have rk:HI (t.p:Int)=true:=Cq (by lia) (by lia)
 have ct:Kc [D.int t.p,D.int t.k,D.int t.b,shD t.ho,D.int t.h,D.int t.l] none (Fk 2)=[.int t.p,.int t.k]:=nr rfl
 have td:wSl none (Fk 2) (.val t.d)=Fk (.val (.tup [.int t.p,.int t.k])):=nr rfl
 have dt:dr S t.d=.val t.d:=rfl
 rw[<-Px]at e2
 simp only[AL]at e1⊢
 simp only[tF,tU,vX]at e2
 simp[D8,Hv,dt,td,e1,rk,MS,e2]
end
section
variable{S:Sto}{t:Tr}{ls L:Gc Ld}{ds:Gc AK}{n p i q:Nat}{x:Rat}
theorem SX(hp:p<t.p):Aw [AL t ls ds,.int p] S=Fk (.non,S):=by
 have h1:(p:Int)<=(t.p:Int)-1:=by lia
 have k1:St.Kd.int.isA "int"=true:=by decide
 have k2:St.Kd.int.isA "bool"=false:=by decide
 simp[k1,k2,Aw,C8,Cn,EW,A3,DA,Dj,Fg,CV,Eh,AL,Tr.d,kdW,h1]
theorem Uk{k:Nat}{L:Gc Ld}(hp:p<n):atI ((tL n).map λp=>shD (B7 k L p)) (p:Int)=Fk (shD (B7 k L p)):=Bq (by rw[sP,xG hp];rfl)
theorem nU(h:A4 t ls ds)(hn:n<=ds.length)(hp:p<t.p):∃S',BM [AL t ls ds,.int n,.int p] S=Fk (shD (B7 t.k (runs t (st0 t ls) (ds.take n)).AA p),S')/\By [] S S':=by
 obtain⟨S1,e1,s1⟩:=bN (S:=S) h hn
 have r1:=Cw (S:=S) h
 have r2:=GI (S:=S) (t:=t) (ls:=ls) hn
 have r3:=SX (S:=S) (ls:=ls) (ds:=ds) hp
 have a:=Uk (k:=t.k) (L:=(runs t (st0 t ls) (ds.take n)).AA) hp
 refine⟨S1,?_,s1⟩
 simp[BM,GZ,r1,r2,r3,e1,a]
end
section
variable{S:Sto}{t:Tr}{ls L:Gc Ld}{ds:Gc AK}{n p i q:Nat}{x:Rat}
theorem RN(h:A4 t ls ds)(hn:n<=ds.length):Gw [AL t ls ds,.int n] S=Fk (Ah (runs t (st0 t ls) (ds.take n)).AA,S):=by
 have hl0:ls.length<=4:=h.inv.len
 have hd:=h.len
 have ct:=E8 (ds:=ds.map AK.d) (n:=n) (by simp;lia)
 obtain⟨E',S',ef,i,o,f1,f2,rfl,rfl⟩:=EV (gs:=[]) (t:=tNm 3) (b:=A8 2 (AB AS [eV 2,eV 3]))
  (I:=λrs E S'=>∃(i:Nat) (o:sD D),rs=((ds.take n).drop i).map AK.d/\i<=n/\E=[Fk (AL t ls ds),Fk (.int n),Fk (Ah (runs t (st0 t ls) (ds.take i)).AA),o]/\S'=S)
  (λ_ _ _ _=>AZ) (ds:=(ds.take n).map AK.d) (E:=[Fk (AL t ls ds),Fk (.int n),Fk (Ah ls),none]) (S:=S)
  ⟨0,none,by simp,ux _,by simp[runs,st0],rfl⟩ (by
    rintro dd rs E T ⟨i,o,i1,i2,rfl,rfl⟩
    have hlt:i<(ds.take n).length:=by
     rcases vI i (ds.take n).length with w|w
     .exact w
     .rw[uH w]at i1;cases i1
    rw[tS hlt,su]at i1
    injection i1 with z1 z2
    subst z1 z2
    have hlt':i<ds.length:=by simp at hlt;lia
    have hin:i<n:=by simp at hlt;lia
    have hg:(ds.take n)[i]=ds[i]:=y7
    rw[hg]
    have can:=Gh h.good (sA hlt')
    have il:(ds.take i).length<=16:=by simp;lia
    have e3:=FX (S:=T) (h.at i) (by lia) can
    have rt:=FQ (t:=t) (st:=st0 t ls) (sA hlt')
    refine⟨_,[Fk (AL t ls ds),Fk (.int n),Fk (Ah (runs t (st0 t ls) (ds.take (i+1))).AA),Fk ds[i].d],T,by simp;rfl,?_,i+1,Fk ds[i].d,rfl,hin,rfl,rfl⟩
    rw[rt]
    simp[e3])
 have hz:i=n:=by
  have:=congrArg vz f1
  simp at this
  lia
 subst hz
 have fh:=ET (S:=S') (ls:=ls) (x:=t.d) (y:=.tup (ds.map AK.d)) (by lia)
 simp only[AL]at ef⊢
 rw[wY]at ef
 simp[Gw,K9,fh,ct,ef]
theorem gS{L:Gc Ld}{kd:Nat}{T:Sto}(hl:L.length<=30):Bo [] (tTp [tNm 1,tNm 2]) (eOp (o2 wEq) [eV 1,eV 0]) (eV 2) (L.map hD) [] [Fk (.int kd),none,none] T=Fk ((((L.filter λx=>x.k==kd).map λx=>x.n).map D.int),T):=by
 have e:=CA (gs:=[]) (t:=tTp [tNm 1,tNm 2]) (c:=eOp (o2 wEq) [eV 1,eV 0]) (f:=eV 2) (C:=[Fk (.int kd)]) (m:=2) (e:=hD) (g:=λx=>D.int x.n) (b:=λx=>x.k==kd) (S:=T) AZ (xs:=L) (acc:=[]) (os:=[none,none]) rfl (sL (show _<=50 by simp;lia) (AI (by decide))) (by
  intro x hx os ho
  obtain⟨o1,o2,rfl⟩:=Ye ho
  refine⟨[Fk (.int x.k),Fk (.int x.n)],rfl,by simp,?_,by simp⟩
  have:((x.k:Int)==(kd:Int))=(x.k==kd):=by
   rw[yX,vc,vc]
   lia
  simp[this])
 rw[tW]
 exact e
theorem Wm(h:A4 t ls ds)(hn:n<=ds.length):CQ [AL t ls ds,.int n] S=Fk (.tup ((tL t.k).map λkd=>.int (VH (runs t (st0 t ls) (ds.take n)).AA kd)),S):=by
 have r1:=Cw (S:=S) h
 have r2:=GI (S:=S) (t:=t) (ls:=ls) hn
 have hb:=RN (S:=S) h hn
 have il:(ds.take n).length<=16:=by have:=h.len;simp;lia
 have inv:=(h.at n).len
 obtain⟨t1,t2,t3,t4,t5,t6⟩:=h.tr
 generalize (runs t (st0 t ls) (ds.take n)).AA=L at*
 have e:=Bw (gs:=[]) (t:=tNm 1) (f:=eOp (o1 QP) [Bg [1] 2 (Fq (eV 0)) (tTp [tNm 1,tNm 2]) (eOp (o2 wEq) [eV 1,eV 0]) (eV 2)]) (C:=[Fk (Ah L)]) (m:=1) (e:=λp:Nat=>D.int p) (g:=λkd=>D.int (VH L kd)) (S:=S) AZ (xs:=tL t.k) (acc:=[]) (os:=[none]) rfl (sL (show _<=50 by simp;lia) (AI (by decide))) (by
  intro kd hk os ho
  obtain⟨o1,rfl⟩:=Ke ho
  have sc:=gS (L:=L) (kd:=kd) (T:=S) (by lia)
  refine⟨[Fk (.int kd)],rfl,by simp,?_⟩
  have dh:sqD S (Ah L)=Fk (L.map hD,[]):=nr rfl
  have is:=DV ((L.filter λx=>x.k==kd).map λx=>x.n)
  generalize (((L.filter λx=>x.k==kd).map λx=>x.n).map D.int)=Z at*
  simp[dh,MS,sc,is,VH])
 rw[<-Px]at e
 have rk:HI (t.k:Int)=true:=Cq (by lia) (by lia)
 have td:wIx (.val t.d) (.val (.int 1))=Fk (.val (.int t.k)):=by simp[Tr.d]
 have dt:dr S t.d=.val t.d:=rfl
 simp only[tF,tU,vX]at e
 simp only[AL]at r1 r2 hb⊢
 have tb:wIx (.val (.tup [t.d,.tup (ls.map Ld.d),.tup (ds.map AK.d)])) (.val (.int 0))=Fk (.val t.d):=by simp
 simp[CQ,KG,r1,r2,hb,-U4,tb,td,dt,rk,MS,e]
end
structure Mv where
 k:Nat
 w:Nat
 n:Int
noncomputable def N2:Nat->Str
 |0=>"out"
 |1=>"got"
 |2=>"given"
 |3=>"spoilt"
 |4=>"thrown"
 |_=>"left"
noncomputable def mvD(m:Mv):D:=.tup [.int m.k,.str (N2 m.w),.int m.n]
noncomputable def BA(s:Stt):AK->Gc Mv
 | .DU _ k n=>[⟨k,0,n⟩]
 | .swap l g k n=>[⟨(AJ s.AA l).k,2,g⟩,⟨k,1,n⟩]
 | .Cd _ l g k n=>[⟨(AJ s.AA l).k,2,g⟩,⟨k,1,n⟩]
 | .DQ l n=>[⟨(AJ s.AA l).k,3,n⟩]
 | .thr l n _=>[⟨(AJ s.AA l).k,4,n⟩]
 |_=>[]
noncomputable def EG(ls:Gc Ld):Gc Mv:=ls.map λx=>⟨x.k,0,x.n⟩
noncomputable def Fy(ls:Gc Ld):Gc Mv:=ls.map λx=>⟨x.k,5,x.n⟩
noncomputable def mvs(t:Tr)(ls:Gc Ld)(ds:Gc AK):Nat->Gc Mv
 |0=>EG ls
 |i+1=>mvs t ls ds i++(match ds[i]? with|some d=>BA (runs t (st0 t ls) (ds.take i)) d|none=>[])
noncomputable def B5(ms:Gc Mv)(kd w:Nat):Int:=(ms.map λm=>if m.k=kd/\m.w=w then m.n else 0).sum
theorem NQ{ms ns:Gc Mv}{kd w:Nat}:B5 (ms++ns) kd w=B5 ms kd w+B5 ns kd w:=by
 unfold B5
 rw[uA,xQ]
theorem F3{kd w:Nat}:B5 [] kd w=0:=rfl
theorem D6{m:Mv}{ms:Gc Mv}{kd w:Nat}:B5 (m::ms) kd w=(if m.k=kd/\m.w=w then m.n else 0)+B5 ms kd w:=by
 unfold B5
 rw[su,uS]
noncomputable def stk(L:Gc Ld)(kd:Nat):Int:=(L.map λx=>if x.k=kd then x.n else 0).sum
theorem M9{L M:Gc Ld}{kd:Nat}:stk (L++M) kd=stk L kd+stk M kd:=by
 unfold stk
 rw[uA,xQ]
theorem EX{x:Ld}{L:Gc Ld}{kd:Nat}:stk (x::L) kd=(if x.k=kd then x.n else 0)+stk L kd:=by
 unfold stk
 rw[su,uS]
theorem Gj{kd:Nat}:∀{L:Gc Ld} {l:Nat} {g:Int},l<L.length->stk (less L l g) kd=stk L kd-if(AJ L l).k=kd then g else 0
 |x::L,0,g,_=>by
  show stk ({x with n:=x.n-g}::L) kd=_
  rw[EX,EX]
  show(if x.k=kd then x.n-g else 0)+stk L kd=_-if x.k=kd then g else 0
  split<;>lia
 |x::L,l+1,g,h=>by
  have ih:=Gj (kd:=kd) (L:=L) (l:=l) (g:=g) (by simpa using h)
  have e:less (x::L) (l+1) g=x::less L l g:=by simp[less,AJ]
  have e2:AJ (x::L) (l+1)=AJ L l:=by simp[AJ]
  rw[e,e2,EX,EX,ih]
  lia
theorem U6{L:Gc Ld}{f:Ld->Ld}{kd:Nat}(h:∀x,(f x).k=x.k/\(f x).n=x.n):stk (L.map f) kd=stk L kd:=by
 unfold stk
 rw[tW]
 congr 1
 refine ya λx _=>?_
 show(if(f x).k=kd then(f x).n else 0)=_
 rw[(h x).1,(h x).2]
theorem Wl{t:Tr}{s:Stt}{d:AK}{kd:Nat}(hc:Can t s d):stk (step t s d).AA kd=stk s.AA kd+(B5 (BA s d) kd 0+B5 (BA s d) kd 1)-(B5 (BA s d) kd 2+B5 (BA s d) kd 3+B5 (BA s d) kd 4):=by
 cases d with
 |DU p k n=>
  show stk (s.AA++[⟨k,n,_⟩]) kd=_
  rw[M9,EX]
  simp only[BA,D6,F3]
  show stk s.AA kd+((if k=kd then n else 0)+0)=_
  by_cases h:k=kd<;>simp[h]<;>lia
 |F9 a b=>
  obtain⟨hab,ha,hb,n1,n2,hk⟩:=hc
  show stk (less (less s.AA a _) b _++[⟨(AJ s.AA a).k,_,_⟩]) kd=_
  have e:AJ (less s.AA a (AJ s.AA a).n) b=AJ s.AA b:=by
   unfold AJ less
   rw[sG,sJ hab,<-sG]
  rw[M9,EX,Gj (by rw[BY];exact hb),Gj ha,e,<-hk]
  simp only[BA,F3]
  show _+((if(AJ s.AA a).k=kd then(AJ s.AA a).n+(AJ s.AA b).n else 0)+0)=_
  by_cases h:(AJ s.AA a).k=kd<;>simp[h]<;>lia
 |swap l g k n=>
  show stk (less s.AA l g++[⟨k,n,_⟩]) kd=_
  rw[M9,EX,Gj hc.1]
  simp only[BA,D6,F3]
  show _+((if k=kd then n else 0)+0)=_
  by_cases h:k=kd<;>by_cases h2:(AJ s.AA l).k=kd<;>simp[h,h2]<;>lia
 |Cd u l g k n=>
  show stk (less s.AA l g++[⟨k,n,_⟩]) kd=_
  rw[M9,EX,Gj hc.1]
  simp only[BA,D6,F3]
  show _+((if k=kd then n else 0)+0)=_
  by_cases h:k=kd<;>by_cases h2:(AJ s.AA l).k=kd<;>simp[h,h2]<;>lia
 |DQ l n=>
  show stk (less s.AA l n) kd=_
  rw[Gj hc.1]
  simp only[BA,D6,F3]
  by_cases h2:(AJ s.AA l).k=kd<;>simp[h2]<;>lia
 |thr l n ws=>
  have e:stk (step t s (.thr l n ws)).AA kd=stk (less s.AA l n) kd:=U6 λ_=>⟨rfl,rfl⟩
  rw[e,Gj hc.1]
  simp only[BA,D6,F3]
  by_cases h2:(AJ s.AA l).k=kd<;>simp[h2]<;>lia
 |Gq p q x=>
  have e:stk (step t s (.Gq p q x)).AA kd=stk s.AA kd:=U6 λ_=>⟨rfl,rfl⟩
  rw[e]
  simp only[BA,F3]
  lia
theorem SV{ls:Gc Ld}{kd w:Nat}:B5 (EG ls) kd w=if w=0 then stk ls kd else 0:=by
 induction ls with
 |nil=>simp[EG,B5,stk]
 |cons x ls ih=>
  show B5 (⟨x.k,0,x.n⟩::EG ls) kd w=_
  rw[D6,ih,EX]
  by_cases h:w=0<;>by_cases h2:x.k=kd<;>simp[h,h2]<;>lia
theorem Oc{ls:Gc Ld}{kd w:Nat}:B5 (Fy ls) kd w=if w=5 then stk ls kd else 0:=by
 induction ls with
 |nil=>simp[Fy,B5,stk]
 |cons x ls ih=>
  show B5 (⟨x.k,5,x.n⟩::Fy ls) kd w=_
  rw[D6,ih,EX]
  by_cases h:w=5
  .subst h
   by_cases h2:x.k=kd<;>simp[h2]
  .have h3:¬5=w:=by lia
   simp[h,h3]
theorem balance{t:Tr}{ls:Gc Ld}{ds:Gc AK}(h:A4 t ls ds){kd:Nat}:∀i,i<=ds.length->B5 (mvs t ls ds i) kd 0+B5 (mvs t ls ds i) kd 1=B5 (mvs t ls ds i) kd 2+B5 (mvs t ls ds i) kd 3+B5 (mvs t ls ds i) kd 4+stk (runs t (st0 t ls) (ds.take i)).AA kd/\B5 (mvs t ls ds i) kd 5=0
 |0,_=>by
  show B5 (EG ls) kd 0+B5 (EG ls) kd 1=B5 (EG ls) kd 2+B5 (EG ls) kd 3+B5 (EG ls) kd 4+stk ls kd/\B5 (EG ls) kd 5=0
  simp[SV]
 |i+1,hi=>by
  obtain⟨b,f⟩:=balance h (kd:=kd) i (by lia)
  have hd:ds[i]?=Fk ds[i]:=sA (by lia)
  have can:=Gh h.good hd
  rw[FQ hd,Wl can]
  have e:mvs t ls ds (i+1)=mvs t ls ds i++BA (runs t (st0 t ls) (ds.take i)) ds[i]:=by
   show mvs t ls ds i++(match ds[i]? with|some d=>BA (runs t (st0 t ls) (ds.take i)) d|none=>[])=_
   rw[hd]
  rw[e]
  simp only[NQ]
  refine⟨by lia,?_⟩
  rw[f]
  cases ds[i]<;>simp[BA,D6,F3]
theorem ZK{a:Nat}:vP (N2 a)=true:=by
 match a with
 |0=>decide+kernel
 |1=>decide+kernel
 |2=>decide+kernel
 |3=>decide+kernel
 |4=>decide+kernel
 |_+5=>
  show vP (ur "left")=true
  decide+kernel
theorem cA{a b:Nat}(ha:a<6)(hb:b<6):deq (.str (N2 a)) (.str (N2 b))=(a==b):=by
 have:∀a:Fin 6,∀b:Fin 6,deq (.str (N2 a.val)) (.str (N2 b.val))=(a.val==b.val):=by decide+kernel
 exact this ⟨a,ha⟩ ⟨b,hb⟩
section
variable{S:Sto}{t:Tr}{ls:Gc Ld}{ds:Gc AK}{s:Stt}{d:AK}{k i kd w:Nat}
theorem P9(hc:Can t s d):BQ [Ah s.AA,d.d] S=Fk (.lst ((BA s d).map mvD),S):=by
 cases d with
 |DU p k n=>simp[BQ,CU,AK.d,BA,mvD,N2]
 |F9 a b=>simp[BQ,CU,AK.d,BA]
 |swap l g k n=>
  have a:=DM hc.1
  have ct:Kc [D.str "swap",.int l,.int g,.int k,.int n] (Fk (-4)) none=[.int l,.int g,.int k,.int n]:=nr rfl
  simp[BQ,CU,AK.d,BA,mvD,N2,ct,a]
 |Cd u l g k n=>
  have a:=DM hc.1
  have ct:Kc [D.str "trade",.int u,.int l,.int g,.int k,.int n] (Fk (-4)) none=[.int l,.int g,.int k,.int n]:=nr rfl
  simp[BQ,CU,AK.d,BA,mvD,N2,ct,a]
 |DQ l n=>
  have a:=DM hc.1
  simp[BQ,CU,AK.d,BA,mvD,N2,a]
 |thr l n ws=>
  have a:=DM hc.1
  simp[BQ,CU,AK.d,BA,mvD,N2,a]
 |Gq p q x=>simp[BQ,CU,AK.d,BA]
theorem fK{L:Gc Ld}{wd:Str}{f:Ld->Mv}(hl:L.length<=30)(hf:∀x,mvD (f x)=.tup [.int x.k,.str wd,.int x.n]):Bo [] (tTp [tNm 0,tNm 1]) BK (B0 [eV 0,eC (.str wd),eV 1]) (L.map hD) [] [none,none] S=Fk ((L.map f).map mvD,S):=by
 have e:=Bw (gs:=[]) (t:=tTp [tNm 0,tNm 1]) (f:=B0 [eV 0,eC (.str wd),eV 1]) (C:=[]) (m:=2) (e:=hD) (g:=λx=>mvD (f x)) (S:=S) AZ (xs:=L) (acc:=[]) (os:=[none,none]) rfl (sL (show _<=50 by simp;lia) (AI (by decide))) (by
  intro x hx os ho
  obtain⟨o1,o2,rfl⟩:=Ye ho
  refine⟨[Fk (.int x.k),Fk (.int x.n)],rfl,by simp,?_⟩
  rw[hf]
  simp)
 rw[tW]
 exact e
theorem YS{d:AK}(hd:ds[i]?=Fk d):mvs t ls ds (i+1)=mvs t ls ds i++BA (runs t (st0 t ls) (ds.take i)) d:=by
 show mvs t ls ds i++(match ds[i]? with|some d=>BA (runs t (st0 t ls) (ds.take i)) d|none=>[])=_
 rw[hd]
theorem Od:(BA s d).length<=2:=by cases d<;>simp[BA]
theorem P8:(mvs t ls ds i).length<=ls.length+2*i:=by
 induction i with
 |zero=>simp[mvs,EG]
 |succ i ih=>
  show(mvs t ls ds i++_).length<=_
  rw[uN]
  cases h:ds[i]? with
  |none=>simp;lia
  |some d=>have:=Od (s:=runs t (st0 t ls) (ds.take i)) (d:=d);simp only;lia
theorem iE:∀{i:Nat},∀m∈mvs t ls ds i,m.w<6
 |0,m,hm=>by
  obtain⟨x,_,rfl⟩:=uG.mp hm
  exact Nat.zero_lt_succ _
 |i+1,m,hm=>by
  rcases sx.mp hm with hm|hm
  .exact iE m hm
  .cases h:ds[i]? with
   |none=>rw[h]at hm;cases hm
   |some d=>
    rw[h]at hm
    cases d<;>simp[BA]at hm<;>(try rcases hm with rfl|rfl)<;>(try subst hm)<;>simp
theorem Pp(h:A4 t ls ds)(hn:i<=ds.length):Fv [AL t ls ds,.int i] S=Fk (.lst ((mvs t ls ds i++Fy (runs t (st0 t ls) (ds.take i)).AA).map mvD),S):=by
 have hl0:ls.length<=4:=h.inv.len
 have hd:=h.len
 have ct:=E8 (ds:=ds.map AK.d) (n:=i) (by simp;lia)
 have c0:=fK (S:=S) (L:=ls) (wd:="out") (f:=λx=>⟨x.k,0,x.n⟩) (by lia) (λ_=>rfl)
 obtain⟨E',S',ef,j,o,f1,f2,rfl,rfl⟩:=EV (gs:=[]) (t:=tNm 4) (b:=AR (A8 3 (eOp (o2 Ct) [eV 3,AB BQ [eV 2,eV 4]]))
  (A8 2 (AB AS [eV 2,eV 4])))
  (I:=λrs E S'=>∃(j:Nat) (o:sD D),rs=((ds.take i).drop j).map AK.d/\j<=i/\E=[Fk (AL t ls ds),Fk (.int i),Fk (Ah (runs t (st0 t ls) (ds.take j)).AA),Fk (.lst ((mvs t ls ds j).map mvD)),o]/\S'=S)
  (λ_ _ _ _=>AZ) (ds:=(ds.take i).map AK.d) (E:=[Fk (AL t ls ds),Fk (.int i),Fk (Ah ls),Fk (.lst ((EG ls).map mvD)),none]) (S:=S)
  ⟨0,none,by simp,ux _,by simp[runs,st0,mvs],rfl⟩ (by
    rintro dd rs E T ⟨j,o,i1,i2,rfl,rfl⟩
    have hlt:j<(ds.take i).length:=by
     rcases vI j (ds.take i).length with w|w
     .exact w
     .rw[uH w]at i1;cases i1
    rw[tS hlt,su]at i1
    injection i1 with z1 z2
    subst z1 z2
    have hlt':j<ds.length:=by simp at hlt;lia
    have hin:j<i:=by simp at hlt;lia
    have hg:(ds.take i)[j]=ds[j]:=y7
    rw[hg]
    have hdj:ds[j]?=Fk ds[j]:=sA hlt'
    have can:=Gh h.good hdj
    have il:(ds.take j).length<=16:=by simp;lia
    have e3:=FX (S:=T) (h.at j) (by lia) can
    have mo:=P9 (S:=T) can
    have rt:=FQ (t:=t) (st:=st0 t ls) hdj
    have ml:=P8 (t:=t) (ls:=ls) (ds:=ds) (i:=j)
    have m2:=Od (s:=runs t (st0 t ls) (ds.take j)) (d:=ds[j])
    have hz:((mvs t ls ds j).map mvD).length+((BA (runs t (st0 t ls) (ds.take j)) ds[j]).map mvD).length<=sizeLine:=sL (show _<=100 by simp;lia) (AI (by decide))
    refine⟨_,[Fk (AL t ls ds),Fk (.int i),Fk (Ah (runs t (st0 t ls) (ds.take (j+1))).AA),Fk (.lst ((mvs t ls ds (j+1)).map mvD)),Fk ds[j].d],T,by simp;rfl,?_,j+1,Fk ds[j].d,rfl,hin,rfl,rfl⟩
    rw[rt,YS hdj,uA]
    generalize (mvs t ls ds j).map mvD=MV at*
    generalize (BA (runs t (st0 t ls) (ds.take j)) ds[j]).map mvD=M2 at*
    simp[mo,hz,e3])
 have hz:j=i:=by
  have:=congrArg vz f1
  simp at this
  lia
 subst hz
 have il:(ds.take j).length<=16:=by simp;lia
 have inv:=(h.at j).len
 have cl:=fK (S:=S') (L:=(runs t (st0 t ls) (ds.take j)).AA) (wd:="left") (f:=λx=>⟨x.k,5,x.n⟩) (by lia) (λ_=>rfl)
 have fh:=ET (S:=S') (ls:=ls) (x:=t.d) (y:=.tup (ds.map AK.d)) (by lia)
 have ml:=P8 (t:=t) (ls:=ls) (ds:=ds) (i:=j)
 have hz:((mvs t ls ds j).map mvD).length+((Fy (runs t (st0 t ls) (ds.take j)).AA).map mvD).length<=sizeLine:=sL (show _<=100 by simp[Fy];lia) (AI (by decide))
 have dh:∀T L,sqD T (Ah L)=Fk (L.map hD,[]):=λ_ _=>nr rfl
 simp only[AL]at ef⊢
 rw[wY]at ef
 rw[uA]
 have cl':Bo [] (tTp [tNm 0,tNm 1]) BK (B0 [eV 0,eC (.str "left"),eV 1]) ((runs t (st0 t ls) (ds.take j)).AA.map hD) [] [none,none] S'=Fk ((Fy (runs t (st0 t ls) (ds.take j)).AA).map mvD,S'):=cl
 have c0':Bo [] (tTp [tNm 0,tNm 1]) BK (B0 [eV 0,eC (.str "out"),eV 1]) (ls.map hD) [] [none,none] S'=Fk ((EG ls).map mvD,S'):=c0
 generalize (mvs t ls ds j).map mvD=MV at*
 generalize (Fy (runs t (st0 t ls) (ds.take j)).AA).map mvD=ML at*
 generalize (EG ls).map mvD=MF at*
 simp[Fv,KS,fh,dh,MS,c0',ct,ef,cl',hz]
theorem LY{ms:Gc Mv}(hm:∀m∈ms,m.w<6)(hl:ms.length<=100)(hw:w<6):Bb [.lst (ms.map mvD),.int kd,.str (N2 w)] S=Fk (.int (B5 ms kd w),S):=by
 have e:=CA (gs:=[]) (t:=tTp [tNm 2,tNm 3,tNm 4]) (c:=H0 (eOp (o2 wEq) [eV 2,eV 0]) (eOp (o2 wEq) [eV 3,eV 1])) (f:=eV 4) (C:=[Fk (.int kd),Fk (.str (N2 w))]) (m:=3) (e:=mvD) (g:=λm=>D.int m.n) (b:=λm=>(m.k==kd) && (m.w==w)) (S:=S) AZ (xs:=ms) (acc:=[]) (os:=[none,none,none]) rfl (sL (show _<=200 by simp;lia) (AI (by decide))) (by
  intro x hx os ho
  obtain⟨o1,o2,o3,rfl⟩:=jL ho
  have o:=VB (x:=N2 x.w) (y:=N2 w) ZK ZK
  have q:=cA (hm x hx) hw
  have b:((x.k:Int)==(kd:Int))=(x.k==kd):=by
   rw[yX,vc,vc]
   lia
  refine⟨[Fk (.int x.k),Fk (.str (N2 x.w)),Fk (.int x.n)],rfl,by simp[mvD],?_,by simp⟩
  cases hk:x.k==kd with
  |true=>rw[hk]at b;simp[b,o,q]
  |false=>rw[hk]at b;simp[b])
 simp only[tF]at e
 have es:IJ ((ms.filter λm=>(m.k==kd) && (m.w==w)).map λm=>D.int m.n)=Fk ((ms.filter λm=>(m.k==kd) && (m.w==w)).map λm=>m.n):=by
  have:=DV ((ms.filter λm=>(m.k==kd) && (m.w==w)).map λm=>m.n)
  rwa [tW]at this
 have ev:((ms.filter λm=>(m.k==kd) && (m.w==w)).map λm=>m.n).sum=B5 ms kd w:=by
  clear e es hl
  induction ms with
  |nil=>rfl
  |cons m ms ih=>
   rw[D6,w6,<-ih λx hx=>hm x (sQ _ hx)]
   by_cases h1:m.k=kd<;>by_cases h2:m.w=w<;>simp[h1,h2]
 simp only[tU,tF]at e
 generalize (ms.filter λm=>(m.k==kd) && (m.w==w)).map (λm=>D.int m.n)=V at*
 simp[Bb,HC,MS,e,es,ev]
noncomputable def ZX(t:Tr)(ls:Gc Ld)(ds:Gc AK)(i kd:Nat):Gc Int:=[B5 (mvs t ls ds i) kd 0,B5 (mvs t ls ds i) kd 1,B5 (mvs t ls ds i) kd 2,B5 (mvs t ls ds i) kd 3,B5 (mvs t ls ds i) kd 4,stk (runs t (st0 t ls) (ds.take i)).AA kd]
noncomputable def dO(t:Tr)(ls:Gc Ld)(ds:Gc AK)(i:Nat):D:=.tup ((tL t.k).map λkd=>.tup ((ZX t ls ds i kd).map D.int))
theorem Ja(h:A4 t ls ds)(hn:i<=ds.length):Cj [AL t ls ds,.int i] S=Fk (dO t ls ds i,S):=by
 obtain⟨t1,t2,t3,t4,t5,t6⟩:=h.tr
 have mb:=Pp (S:=S) h hn
 have hd:=h.len
 have hl0:ls.length<=4:=h.inv.len
 have il:(ds.take i).length<=16:=by simp;lia
 have inv:=(h.at i).len
 have ml:=P8 (t:=t) (ls:=ls) (ds:=ds) (i:=i)
 have hw:∀m∈mvs t ls ds i++Fy (runs t (st0 t ls) (ds.take i)).AA,m.w<6:=λm hm=>by
  rcases sx.mp hm with hm|hm
  .exact iE m hm
  .obtain⟨x,_,rfl⟩:=uG.mp hm
   exact zN 5
 have hl:(mvs t ls ds i++Fy (runs t (st0 t ls) (ds.take i)).AA).length<=100:=by simp[Fy];lia
 have pm:=λ(kd w:Nat) (hw6:w<6)=>LY (S:=S) (kd:=kd) (w:=w) hw hl hw6
 have fl:∀kd w,w<5->B5 (mvs t ls ds i++Fy (runs t (st0 t ls) (ds.take i)).AA) kd w=B5 (mvs t ls ds i) kd w:=λkd w h5=>by
  rw[NQ,Oc,tN (by lia)];lia
 have fl5:∀kd,B5 (mvs t ls ds i++Fy (runs t (st0 t ls) (ds.take i)).AA) kd 5=stk (runs t (st0 t ls) (ds.take i)).AA kd:=λkd=>by
  rw[NQ,Oc,tK rfl,(balance h i hn).2];lia
 generalize mvs t ls ds i++Fy (runs t (st0 t ls) (ds.take i)).AA=ms at*
 have inner:∀kd:Nat,Bo [] (tNm 2) BK (AB Bb [eV 0,eV 1,eV 2]) [.str "out",.str "got",.str "given",.str "spoilt",.str "thrown",.str "left"] [] [Fk (.lst (ms.map mvD)),Fk (.int kd),none] S=Fk ((ZX t ls ds i kd).map D.int,S):=λkd=>by
  have e:=Bw (gs:=[]) (t:=tNm 2) (f:=AB Bb [eV 0,eV 1,eV 2]) (C:=[Fk (.lst (ms.map mvD)),Fk (.int kd)]) (m:=1) (e:=λw=>D.str (N2 w)) (g:=λw=>D.int (B5 ms kd w)) (S:=S) AZ (xs:=[0,1,2,3,4,5]) (acc:=[]) (os:=[none]) rfl (AI (by decide)) (by
   intro w hx os ho
   obtain⟨o1,rfl⟩:=Ke ho
   have hw6:w<6:=by simp at hx;lia
   exact⟨[Fk (.str (N2 w))],rfl,by simp,by simp[pm kd w hw6]⟩)
  have er:([0,1,2,3,4,5]:Gc Nat).map (λw=>D.int (B5 ms kd w))=(ZX t ls ds i kd).map D.int:=by
   simp only[su,vB,ZX,fl kd 0 (by decide),fl kd 1 (by decide),fl kd 2 (by decide),fl kd 3 (by decide),fl kd 4 (by decide),fl5 kd]
  rw[er]at e
  exact e
 have e:=Bw (gs:=[]) (t:=tNm 1) (f:=eOp (o1 DK) [Bg [0,1] 1 (Fq (eC Ln)) (tNm 2) BK (AB Bb [eV 0,eV 1,eV 2])]) (C:=[Fk (.lst (ms.map mvD))]) (m:=1) (e:=λkd:Nat=>D.int kd) (g:=λkd=>D.tup ((ZX t ls ds i kd).map D.int)) (S:=S) AZ (xs:=tL t.k) (acc:=[]) (os:=[none]) rfl (sL (show _<=50 by simp;lia) (AI (by decide))) (by
  intro kd hx os ho
  obtain⟨o1,rfl⟩:=Ke ho
  have ik:=inner kd
  refine⟨[Fk (.int kd)],rfl,by simp,?_⟩
  generalize ms.map mvD=MD at*
  generalize (ZX t ls ds i kd).map D.int=RD at*
  simp[Ln,MS,ik])
 have rk:HI (t.k:Int)=true:=Cq (by lia) (by lia)
 have as1:asS (.val t.d)=Fk [.int t.p,.int t.k,.int t.b,shD t.ho,.int t.h,.int t.l]:=rfl
 have dt:∀T,dr T t.d=.val t.d:=λ_=>rfl
 rw[<-Px]at e
 simp only[tU,tF,vX]at e
 simp only[AL,dO]at mb⊢
 generalize (tL t.k).map (λkd=>D.tup ((ZX t ls ds i kd).map D.int))=RR at*
 generalize ms.map mvD=MD at*
 simp[Cj,IV,mb,as1,dt,rk,MS,e]
end
section
variable{S:Sto}{t:Tr}{ls:Gc Ld}{ds:Gc AK}{i:Nat}
theorem Po(h:A4 t ls ds)(hn:i<=ds.length):CT [AL t ls ds,.int i] S=Fk (dO t ls ds i,S):=by
 have r1:=Cw (S:=S) h
 have r2:=GI (S:=S) (t:=t) (ls:=ls) hn
 have ft:=Ja (S:=S) h hn
 simp[CT,KH,r1,r2,ft]
end
section
variable{S:Sto}{t:Tr}{ls:Gc Ld}{ds:Gc AK}{i:Nat}{X:D}
theorem Ky{N N':Nat}{rest:Ex}{rr:Rx}{as:Gc D}(h:A4 t ls ds)(hX:Th X)(w:inW 0 ((Bu ls.length ds).length-1) X=false):Jc (AY (Af N (AR (Ac (AB AH [eV 0])) (AR (Ac (AB AN [eV 0,eV 1])) rest)))) (AY (Fm N' (IW (BB AQ [eV 0]) (Ac (AB AH [eV 0])) (IW (BB Ar [eV 0,eV 1]) (Ac (AB AN [eV 0,eV 1])) rr)))) (AL t ls ds::X::as) S "load":=by
 obtain⟨e1,e2⟩:=Nl (S:=S) h
 have e:=JD (S:=S) hX 0 ((Bu ls.length ds).length-1)
 rw[w]at e
 have m:=Uh (S:=S) h.g
 generalize ((Bu ls.length ds).length:Int)=L at*
 have f1:AN [AL t ls ds,X] S=none:=by
  simp only[AL]at m⊢
  simp[AN,EF,m,e,IB]
 have f2:Ar [AL t ls ds,X] S=Fk (⟨"NoLoad",none⟩,S):=by
  simp only[AL]at m⊢
  simp[Ar,F2,WJ,J1,IF,m,e,Ww]
 clear m
 generalize AL t ls ds=bk at*
 refine⟨.inr ⟨?_,⟨"NoLoad",none⟩,?_,lU⟩⟩
 .simp[e1,f1]
 .rw[WJ,E7,Ek]
  simp[e1,e2,OB,E7,Ek,f2]
noncomputable def Sl(ds:Gc AK)(X:D):ug:=if inW 0 ds.length X=true then "none" else "number"
theorem jx{F:Fn}{R:Rf}(hno:inW 0 ds.length X=false->Jc F R [AL t ls ds,X] S "number")(hy:∀n:Nat,n<=ds.length->∃d S',F [AL t ls ds,.int n] S=Fk (d,S')/\By [] S S'):Jc F R [AL t ls ds,X] S (Sl ds X):=by
 unfold Sl
 cases c:inW 0 ds.length X with
 |false=>exact hno c
 |true=>
  obtain⟨k,rfl,hk⟩:=Nh (n:=0) c
  exact⟨.inl ⟨rfl,hy k (by lia)⟩⟩
theorem aK(h:A4 t ls ds)(hX:Th X):Jc C5 Ef [AL t ls ds,X] S (Sl ds X):=jx (λc=>Oj h hX c) λn hn=>by
 obtain⟨q,S',e,_,sm,_⟩:=Wi (S:=S) h hn
 exact⟨_,S',e,sm⟩
theorem UQ(h:A4 t ls ds)(hX:Th X):Jc Bk Ck [AL t ls ds,X] S (Sl ds X):=jx (λc=>Oj h hX c) λn hn=>⟨_,R4 (S:=S) h hn⟩
theorem Zs(h:A4 t ls ds)(hX:Th X):Jc CQ Dl [AL t ls ds,X] S (Sl ds X):=jx (λc=>Oj h hX c) λn hn=>⟨_,S,Wm (S:=S) h hn,.refl⟩
theorem ba(h:A4 t ls ds)(hX:Th X):Jc CT Ds [AL t ls ds,X] S (Sl ds X):=jx (λc=>Oj h hX c) λn hn=>⟨_,S,Po (S:=S) h hn,.refl⟩
end
section
variable{S:Sto}{t:Tr}{ls:Gc Ld}{ds:Gc AK}{i:Nat}{X:D}
theorem eK{rows:Gc (Gc Nat)}(h:i<rows.length):atI (rows.map nD) (i:Int)=Fk (.lst (Au (rowAt rows i))):=Bq (by
 rw[sP,sA h]
 unfold rowAt
 rw[sG,sA h]
 rfl)
noncomputable def ldW(ls:Gc Ld)(ds:Gc AK)(X:D):ug:=if inW 0 ((Bu ls.length ds).length-1) X=true then "none" else "load"
theorem ldA{F:Fn}{R:Rf}{as:Gc D}(hno:inW 0 ((Bu ls.length ds).length-1) X=false->Jc F R (AL t ls ds::X::as) S "load")(hy:∀n:Nat,n<(Bu ls.length ds).length->∃d S',F (AL t ls ds:: .int n::as) S=Fk (d,S')/\By [] S S'):Jc F R (AL t ls ds::X::as) S (ldW ls ds X):=by
 unfold ldW
 cases c:inW 0 ((Bu ls.length ds).length-1) X with
 |false=>exact hno c
 |true=>
  obtain⟨k,rfl,hk⟩:=Nh (n:=0) c
  exact⟨.inl ⟨rfl,hy k (by lia)⟩⟩
theorem eJ(h:A4 t ls ds)(hX:Th X):Jc EJ FO [AL t ls ds,X] S (ldW ls ds X):=ldA (λc=>Ky h hX c) λn hn=>by
 have e1:=Cw (S:=S) h
 have e2:=LQ (S:=S) h.g hn
 have e3:=GD (S:=S) h.g
 have a:=eK hn
 refine⟨.lst (Au (rowAt (Bu ls.length ds) n)),S,?_,.refl⟩
 generalize (Bu ls.length ds).map nD=RD at*
 generalize AL t ls ds=bk at*
 simp[EJ,LB,e1,e2,e3,a]
theorem cF(h:A4 t ls ds)(hX:Th X):Jc C4 Dr [AL t ls ds,X,.non] S (ldW ls ds X):=ldA (λc=>Ky h hX c) λn hn=>by
 have e1:=Cw (S:=S) h
 have e2:=LQ (S:=S) h.g hn
 refine⟨.bl false,S,?_,.refl⟩
 generalize AL t ls ds=bk at*
 simp[C4,KW,e1,e2,St.Kd.isA]
theorem cg(h:A4 t ls ds)(hX:Th X):Jc BS CI [AL t ls ds,X] S (ldW ls ds X):=ldA (λc=>Ky h hX c) λn hn=>by
 obtain⟨is,S',e,_,sm⟩:=L3 (S:=S) h.g hn
 exact⟨_,S',e,sm⟩
theorem orC{ow:Gc Rat}(hl:ow.length<=40):∃L,Bo [] (tTp [tNm 0,tNm 1]) (eOp (o2 wGt) [eIx (eV 1) (eI 0),eI 0]) (B0 [eV 0,eV 1]) (JV 0 (ow.map aD)) [] [none,none] S=Fk (L,S):=by
 have sz2:(2:Nat)<=sizeLine:=AI (by decide)
 have e:=CA (gs:=[]) (t:=tTp [tNm 0,tNm 1]) (c:=eOp (o2 wGt) [eIx (eV 1) (eI 0),eI 0]) (f:=B0 [eV 0,eV 1]) (C:=[]) (m:=2) (e:=λr:Nat=>D.tup [.int r,aD (ow.getD r 0)]) (g:=λr:Nat=>D.tup [.int r,aD (ow.getD r 0)]) (b:=λr=>decide (0<(ow.getD r 0).num)) (S:=S) AZ (xs:=tL ow.length) (acc:=[]) (os:=[none,none]) rfl (sL (show _<=50 by simp;lia) (AI (by decide))) (by
  intro r _ os ho
  obtain⟨q1,q2,rfl⟩:=Ye ho
  refine⟨[Fk (.int r),Fk (aD (ow.getD r 0))],rfl,by simp,?_,by simp[sz2]⟩
  simp[aD])
 have e2:JV 0 (ow.map aD)=(tL ow.length).map λr:Nat=>D.tup [.int r,aD (ow.getD r 0)]:=by
  rw[GU,tq]
  apply ya
  intro i hi
  have h:i<ow.length:=wD.mp hi
  rw[sG,sP,sG,sA h]
  rfl
 rw[e2]
 exact⟨_,e⟩
theorem Ue(h:A4 t ls ds)(hX:Th X):Jc B6 Co [AL t ls ds,X] S (ldW ls ds X):=ldA (λc=>Ky h hX c) λn hn=>by
 have e1:=Cw (S:=S) h
 have e2:=LQ (S:=S) h.g hn
 have mm:=Tc h
 obtain⟨q,S1,e3,q1,s1,_⟩:=L0 (S:=S) h
 have ol:(Xc t ls ds).AA.length=manyN ls ds:=by
  have:=(YV h).hd.len
  rw[JJ]at this
  exact this.symm
 have hi2:n<(Xc t ls ds).AA.length:=by rw[ol];rw[JI]at hn;exact hn
 have lo:(AJ (Xc t ls ds).AA n).ow.length=manyN ls ds:=(YV h).inv.own _ (AW hi2)
 have dq:=An q1
 have at1:atI (owL (Xc t ls ds)) (n:Int)=Fk (shD (AJ (Xc t ls ds).AA n).ow):=Bq (by
  unfold owL
  rw[sP,Cp hi2];rfl)
 obtain⟨L,oc⟩:=orC (S:=S1) (ow:=(AJ (Xc t ls ds).AA n).ow) (by lia)
 generalize (AJ (Xc t ls ds).AA n).ow=OW at*
 unfold shD at at1
 generalize OW.map aD=AD at*
 generalize AL t ls ds=bk at*
 refine⟨.lst L,S1,?_,s1⟩
 simp[B6,IP,e1,e2,e3,dq,at1,oc]
def mcB:Ex:=(Ac (Fi Fp (eV 2) [eIf (eOp (o2 wGt) [eOp (o1 Ep) [eV 3],eI 0]) (eOp (o1 QP) [Bg [2] 1 (Fq (eV 3)) (tNm 1) BK (eIx (eV 0) (eV 1))]) (eI 1)]))
theorem ij{q:Nat}{a0 a1:sD D}{ns:Gc Int}{row:Gc Nat}(hq:S[q]?=Fk (.lst (ns.map D.int)))(hn:ns.length<=50)(hr:∀s∈row,s<ns.length)(hl:row.length<=2):∃v:Int,mcB [a0,a1,Fk (.ref q),Fk (.lst (Au row))] S=Fk (.nx,[a0,a1,Fk (.ref q),Fk (.lst (Au row))],S.set q (.lst ((ns++[v]).map D.int))):=by
 have hz:(ns.map D.int).length<sizeLine:=sI (show _<51 by rw[tq];lia) (AI (by decide))
 have dq:=An hq
 have cq:=AX hq
 cases row with
 |nil=>
  refine⟨1,?_⟩
  rw[uA]
  generalize ns.map D.int=N at*
  simp[mcB,Au,cq,hz]
 |cons s0 row=>
  have cz:=Bw (gs:=[]) (t:=tNm 1) (f:=eIx (eV 0) (eV 1)) (C:=[Fk (.ref q)]) (m:=1) (e:=λi:Nat=>D.int i) (g:=λs=>D.int (ns.getD s 0)) (S:=S) AZ (xs:=s0::row) (acc:=[]) (os:=[none]) rfl (sL (show _<=50 by simp at hl ⊢; lia) (AI (by decide))) (by
   intro s hs os ho
   obtain⟨x1,rfl⟩:=Ke ho
   have hlt:=hr s hs
   have at1:atI (ns.map D.int) (s:Int)=Fk (.int (ns.getD s 0)):=Bq (by rw[sP,sG,sA hlt];rfl)
   refine⟨[Fk (.int s)],rfl,by simp,?_⟩
   generalize ns.map D.int=N at*
   simp[dq,at1])
  have is:=DV ((s0::row).map λs=>ns.getD s 0)
  rw[tW]at is
  refine⟨((s0::row).map λs=>ns.getD s 0).sum,?_⟩
  have sq:sqD S (.lst (Au (s0::row)))=Fk (Au (s0::row),[]):=nr rfl
  have ln:0<(Au (s0::row)).length:=by simp[Au]
  rw[uA]
  simp only[tF,tU]at cz
  change Bo [] (tNm 1) BK _ (Au (s0::row)) _ _ _=_ at cz
  change IJ ((s0::row).map λs=>D.int (ns.getD s 0))=_ at is
  generalize ((s0::row).map λs=>D.int (ns.getD s 0))=Z at*
  generalize ((s0::row).map λs=>ns.getD s 0)=Z' at*
  generalize Au (s0::row)=RX at*
  generalize ns.map D.int=N at*
  simp[mcB,cq,hz,sq,MS,cz,is,ln]
theorem gj(h:A4 t ls ds)(hX:Th X):Jc Bp CO [AL t ls ds,X] S (ldW ls ds X):=ldA (λc=>Ky h hX c) λn hn=>by
 have e1:=Cw (S:=S) h
 have e2:=LQ (S:=S) h.g hn
 have e3:=GD (S:=S++[Cl.lst []]) h.g
 have ha:=Mg h.g
 have hr:=Qr h.g
 have hw:=QS (ls:=ls) (ds:=ds)
 generalize Bu ls.length ds=rows at*
 have hq:(S++[Cl.lst []])[S.length]?=Fk (.lst []):=sV
 obtain⟨E',S',ef,ns,u3,⟨f1,f2⟩,rfl,f3,f5⟩:=EV (gs:=[]) (t:=tNm 3) (b:=mcB)
  (I:=λrs E S'=>∃(ns:Gc Int) (u3:sD D),(rs=(rows.map nD).drop ns.length/\ns.length<=rows.length)/\E=[Fk (AL t ls ds),Fk (.int n),Fk (.ref S.length),u3]/\S'[S.length]?=Fk (.lst (ns.map D.int))/\By [S.length] (S++[Cl.lst []]) S')
  (λ_ _ _ _=>AZ) (ds:=rows.map nD) (E:=[Fk (AL t ls ds),Fk (.int n),Fk (.ref S.length),none]) (S:=S++[Cl.lst []])
  ⟨[],none,⟨by simp,ux _⟩,rfl,hq,.refl⟩ (by
    rintro dd rs E T ⟨ns,u3,⟨i1,i2⟩,rfl,i3,i5⟩
    have hlt:ns.length<rows.length:=by
     rcases vI ns.length rows.length with w|w
     .exact w
     .rw[uH (by simpa using w)]at i1;cases i1
    rw[tS (by simpa using hlt)]at i1
    injection i1 with z1 z2
    have hd1:dd=.lst (Au (rowAt rows ns.length)):=by
     rw[z1,zP]
     unfold rowAt
     rw[sG,sA hlt]
     rfl
    subst z2 hd1
    obtain⟨v,e⟩:=ij (S:=T) (a0:=Fk (AL t ls ds)) (a1:=Fk (.int n)) (row:=rowAt rows ns.length) i3 (by lia) (λs hs=>ha _ _ hs) (hw _)
    exact⟨_,_,_,by simp,e,ns++[v],_,⟨by simp,by simp;lia⟩,rfl,sX (Ai i3),i5.trans (.set (by simp))⟩)
 have hz:ns.length=rows.length:=by
  have:=congrArg vz f1
  simp at this
  lia
 have at1:atI (ns.map D.int) (n:Int)=Fk (.int (ns.getD n 0)):=Bq (by rw[sP,sG,sA (by lia)];rfl)
 have dq:=An f3
 refine⟨.int (ns.getD n 0),S',?_,By.new (A:=[]) (B:=[S.length]) .app f5 (by simp)⟩
 have eb:HX=(AR (Ac (AB AH [eV 0]))
  (AR (Ac (AB AN [eV 0,eV 1]))
  (AR (A8 2 (HJ []))
  (AR (L6 (Fq (AB BG [eV 0])) (tNm 3) mcB)
  (Aq (eIx (eV 2) (eV 1))))))):=rfl
 unfold Bp
 rw[eb]
 have sq:sqD (S++[Cl.lst []]) (.lst (rows.map nD))=Fk (rows.map nD,[]):=nr rfl
 generalize ns.map D.int=N at*
 generalize rows.map nD=RD at*
 generalize AL t ls ds=bk at*
 simp[e1,e2,e3,sq,ef,dq,at1]
end
section
variable{S:Sto}
theorem tab_of{x:Str}{n:Nat}(h:S[n]?=Fk (Cl.tab x)):S.any (Fj x)=true:=List.any_eq_true.mpr ⟨_,se h,by unfold Fj;simp⟩
theorem tab_keep{x:Str}{S':Sto}(h:S.any (Fj x)=true)(g:By [] S S'):S'.any (Fj x)=true:=by
 obtain⟨n,e⟩:=Nt h
 exact tab_of (g.get e (by simp))
end
theorem bw{n:Nat}:Gy (n+1)=AY (Af 2 (Iz (J7 n))):=rfl
section
variable{S:Sto}
end
section
variable{S:Sto}{t:Tr}{ls:Gc Ld}{ds:Gc AK}{i:Nat}{X P:D}
noncomputable def thW(t:Tr)(ds:Gc AK)(X P:D):ug:=if inW 0 ds.length X=true then(if inW 0 ((t.p:Int)-1) P=true then "none" else "partner")else "number"
theorem Wo(h:A4 t ls ds)(hX:Th X)(hP:Th P):Jc BM Bz [AL t ls ds,X,P] S (thW t ds X P):=by
 unfold thW
 cases c:inW 0 ds.length X with
 |false=>exact Oj (as:=[P]) h hX c
 |true=>
  obtain⟨k,rfl,hk⟩:=Nh (n:=0) c
  cases c2:inW 0 ((t.p:Int)-1) P with
  |true=>
   obtain⟨p,rfl,hp⟩:=Nh (n:=0) c2
   obtain⟨S',e,sm⟩:=nU (S:=S) (n:=k) (p:=p) h (by lia) (by lia)
   exact⟨.inl ⟨rfl,_,S',e,sm⟩⟩
  |false=>
   obtain⟨e1,e2⟩:=Nl (S:=S) h
   have r2:=GI (S:=S) (t:=t) (ls:=ls) (ds:=ds) (n:=k) (by lia)
   have e:=JD (S:=S) hP 0 ((t.p:Int)-1)
   rw[c2]at e
   have w:=JD (S:=S) hX 0 ds.length
   rw[c]at w
   have n2:Ae [AL t ls ds,.int k] S=none:=by
    simp[Ae,DN,WJ,J1,IF,AL,w,gI,P6]
   have f1:Aw [AL t ls ds,P] S=none:=by
    simp[Aw,C8,Cn,EW,AL,Tr.d,e,IB]
   have f2:B4 [AL t ls ds,P] S=Fk (⟨"NoPartner",none⟩,S):=by
    simp[B4,Ec,WJ,J1,IF,Cn,EW,AL,Tr.d,e,Ww]
   generalize AL t ls ds=bk at*
   refine⟨.inr ⟨?_,⟨"NoPartner",none⟩,?_,gJ⟩⟩
   .simp[BM,GZ,e1,r2,f1]
   .unfold Bz JQ
    rw[WJ,E7,Ek]
    simp[e1,e2,OB,E7,Ek,r2,n2,f2]
theorem Uy(h:A4 t ls ds):BV [AL t ls ds,.non] S=Fk (.bl false,S):=by
 have r1:=Cw (S:=S) h
 have hd:=h.len
 have e:=Bw (gs:=[]) (t:=tNm 1) (f:=AB Cj [eV 0,eV 1]) (C:=[Fk (AL t ls ds)]) (m:=1) (e:=λi:Nat=>D.int (0+(i:Int))) (g:=λi=>dO t ls ds i) (S:=S) AZ (xs:=tL (ds.length+1)) (acc:=[]) (os:=[none]) rfl (sL (show _<=50 by simp;lia) (AI (by decide))) (by
  intro i hi os ho
  obtain⟨o1,rfl⟩:=Ke ho
  have f:=Ja (S:=S) h (i:=i) (by have:=wD.mp hi;lia)
  exact⟨[Fk (.int i)],by simp,by simp,by simp[f]⟩)
 have rn:HI ((ds.length:Int)+1)=true:=Cq (by lia) (by lia)
 have tn:((ds.length:Int)+1).toNat=ds.length+1:=by lia
 have rg:Ka 0 (ds.length+1)=(tL (ds.length+1)).map λi:Nat=>D.int (0+(i:Int)):=rfl
 have k3:St.Kd.lst.isA "tuple"=false:=by decide
 have k4:St.Kd.lst.isA "list"=true:=by decide
 have k5:St.Kd.non.isA "list"=false:=by decide
 have sm:∀L,Gy 8 [.non,.lst L] S=Fk (.bl false,S):=λL=>by
  rw[bw]
  simp[Iz,kdW,k3,k4,k5]
 rw[<-rg]at e
 simp only[tF,tU]at e
 generalize (tL (ds.length+1)).map (λi=>dO t ls ds i)=RL at*
 simp only[AL]at r1 e⊢
 have ll:((ds.map AK.d).length:Int)=ds.length:=by simp
 simp[BV,Hr,r1,rn,tn,e,sm]
theorem Nb{x:Str}{F:Fn}{R:Rf}{fs:Gc Ev}{bk:D}{as:Gc D}{w:ug}{e2 e3:sD D}(hT:S.any (Fj x)=true)(ha:evs fs [Fk bk,Fk X] S=Fk (as,S))(h:Jc F R as S w):∃S',HK x [0,1] (AB F fs) (BB R fs) (.str "none") hd4 [Fk bk,Fk X,e2,e3] S=Fk (.str w,S')/\By [] S S':=Nq hT ha h
theorem bV{x:Str}{q:Nat}{L L':Gc D}(h:S.any (Fj x)=true)(hq:S[q]?=Fk (.lst L)):(S.set q (.lst L')).any (Fj x)=true:=by
 obtain⟨n,e⟩:=Nt h
 have ne:q≠n:=λz=>by subst z;rw[hq]at e;cases e
 exact tab_of (n:=n) (by rw[sJ ne];exact e)
theorem Ga{x:Str}{F:Fn}{R:Rf}{fs:Gc Ev}{bk:D}{as:Gc D}{w:ug}{e2:sD D}{q:Nat}{L:Gc D}(hT:S.any (Fj x)=true)(hq:S[q]?=Fk (.lst L))(hl:L.length<=10)(ha:evs fs [Fk bk,Fk X] S=Fk (as,S))(h:Jc F R as S w):∃S',(Ac (Fi Fp (eV 3) [HK x [0,1] (AB F fs) (BB R fs) (.str "none") hd4])) [Fk bk,Fk X,e2,Fk (.ref q)] S=Fk (.nx,[Fk bk,Fk X,e2,Fk (.ref q)],S')/\S'.any (Fj x)=true/\S'[q]?=Fk (.lst (L++[.str w]))/\By [q] S S':=by
 obtain⟨S1,e,sm⟩:=Nb (e2:=e2) (e3:=Fk (.ref q)) hT ha h
 have q1:=sm.get hq (by simp)
 have cq:=AX q1
 have c0:=AX hq
 have hz:L.length<sizeLine:=sI (show _<11 by lia) (AI (by decide))
 refine⟨S1.set q (.lst (L++[.str w])),?_,bV (tab_keep hT sm) q1,sX (Ai q1),(sm.mono λ_ z=>(nomatch z)).trans (.set (by simp))⟩
 simp[e,c0,cq,hz]
theorem Ov{w:ug}{n:Nat}:PV (.lst (sS n (.str w))) (.lst (sS n (.str w)))=true/\deq (.lst (sS n (.str w))) (.lst (sS n (.str w)))=true:=by
 have ly:(D.lst (sS n (.str w))).lay=true:=by
  have:=NI (xs:=sS n ()) (f:=λ_=>D.str w) λ_ _=>NK
  rw[AAx]at this
  exact this
 refine⟨TY ly (sL (ko (n:=1) λd hd=>?_) (by decide)),Xu ly⟩
 rw[xK hd]
 simp only[D.py,PyData.depth]
 lia
end
section
variable{S:Sto}{bk X:D}{w:ug}
theorem iW{d:D}{k:Nat}{i:Int}(e:i=k)(h1:1<=k)(h2:k<=100):Bx (.val (.lst [d])) (.val (.int i))=Fk (.own (sS k d)):=by
 subst e
 have hz:k<=sizeLine:=sL h2 (AI (by decide))
 have e1:(k:Int)<2^63:=by lia
 have e2: -(2^63)<=(k:Int):=by lia
 rw[JW,tK (by simp[hz];lia),vX,List.flatten_replicate_singleton]
theorem Uu(hT:S.any (Fj "_law_numbers_so")=true)(h1:∀S,Jc C5 Ef [bk,X] S w)(h2:∀S,Jc Bk Ck [bk,X] S w)(h3:∀S,Jc CQ Dl [bk,X] S w)(h4:∀S,Jc CT Ds [bk,X] S w):∃S',A9 [bk,X,.str w] S=Fk (.bl true,S')/\By [] S S':=by
 have s1:(1:Nat)<=sizeLine:=AI (by decide)
 obtain⟨S1,e1,m1⟩:=Nb (bk:=bk) (X:=X) (e2:=Fk (.str w)) (e3:=none) (fs:=[eV 0,eV 1]) (as:=[bk,X]) hT (by simp) (h1 S)
 have lq:(S1++[Cl.lst [.str w]])[S1.length]?=Fk (.lst [.str w]):=sV
 have t1:(S1++[Cl.lst [.str w]]).any (Fj "_law_numbers_so")=true:=tab_keep (tab_keep hT m1) .app
 obtain⟨S2,e2,t2,q2,m2⟩:=Ga (bk:=bk) (X:=X) (e2:=Fk (.str w)) (fs:=[eV 0,eV 1]) (as:=[bk,X]) t1 lq (by simp) (by simp) (h2 _)
 obtain⟨S3,e3,t3,q3,m3⟩:=Ga (bk:=bk) (X:=X) (e2:=Fk (.str w)) (fs:=[eV 0,eV 1]) (as:=[bk,X]) t2 q2 (by simp) (by simp) (h3 _)
 obtain⟨S4,e4,t4,q4,m4⟩:=Ga (bk:=bk) (X:=X) (e2:=Fk (.str w)) (fs:=[eV 0,eV 1]) (as:=[bk,X]) t3 q3 (by simp) (by simp) (h4 _)
 have sm:By [] S S4:=By.new (A:=[]) (B:=[S1.length]) (m1.trans .app) ((m2.trans m3).trans m4) (by have:=m1.len;simpa using this)
 refine⟨S4,?_,sm⟩
 have dq:=An q4
 have rl:=iW (d:=.str w) (k:=4) (i:=4) rfl (by decide) (by decide)
 obtain⟨z1,z2⟩:=Ov (w:=w) (n:=4)
 have eb:HH=(AR (A8 3 (HJ [HK "_law_numbers_so" [0,1] (AB C5 [eV 0,eV 1]) (BB Ef [eV 0,eV 1]) (.str "none") hd4]))
  (AR (Ac (Fi Fp (eV 3) [HK "_law_numbers_so" [0,1] (AB Bk [eV 0,eV 1]) (BB Ck [eV 0,eV 1]) (.str "none") hd4]))
  (AR (Ac (Fi Fp (eV 3) [HK "_law_numbers_so" [0,1] (AB CQ [eV 0,eV 1]) (BB Dl [eV 0,eV 1]) (.str "none") hd4]))
  (AR (Ac (Fi Fp (eV 3) [HK "_law_numbers_so" [0,1] (AB CT [eV 0,eV 1]) (BB Ds [eV 0,eV 1]) (.str "none") hd4]))
  (Aq (eOp (o2 wEq) [eV 3,eOp (o2 Bx) [Eu [eV 2],eI 4]])))))):=rfl
 unfold A9
 rw[eb]
 generalize hA:(Ac (Fi Fp (eV 3) [HK "_law_numbers_so" [0,1] (AB Bk [eV 0,eV 1]) (BB Ck [eV 0,eV 1]) (.str "none") hd4]))=A at*
 generalize hB:(Ac (Fi Fp (eV 3) [HK "_law_numbers_so" [0,1] (AB CQ [eV 0,eV 1]) (BB Dl [eV 0,eV 1]) (.str "none") hd4]))=B at*
 generalize hC:(Ac (Fi Fp (eV 3) [HK "_law_numbers_so" [0,1] (AB CT [eV 0,eV 1]) (BB Ds [eV 0,eV 1]) (.str "none") hd4]))=C at*
 clear hA hB hC
 simp only[sS]at rl z1 z2
 simp[e1,e2,e3,e4,dq,s1,-JW,rl,z1,z2]
theorem RK(hT:S.any (Fj "_law_loads_so")=true)(h1:∀S,Jc EJ FO [bk,X] S w)(h2:∀S,Jc B6 Co [bk,X] S w)(h3:∀S,Jc BS CI [bk,X] S w)(h4:∀S,Jc Bp CO [bk,X] S w)(h5:∀S,Jc C4 Dr [bk,X,.non] S w):∃S',BO [bk,X,.str w] S=Fk (.bl true,S')/\By [] S S':=by
 have s1:(1:Nat)<=sizeLine:=AI (by decide)
 obtain⟨S1,e1,m1⟩:=Nb (bk:=bk) (X:=X) (e2:=Fk (.str w)) (e3:=none) (fs:=[eV 0,eV 1]) (as:=[bk,X]) hT (by simp) (h1 S)
 have lq:(S1++[Cl.lst [.str w]])[S1.length]?=Fk (.lst [.str w]):=sV
 have t1:(S1++[Cl.lst [.str w]]).any (Fj "_law_loads_so")=true:=tab_keep (tab_keep hT m1) .app
 obtain⟨S2,e2,t2,q2,m2⟩:=Ga (bk:=bk) (X:=X) (e2:=Fk (.str w)) (fs:=[eV 0,eV 1]) (as:=[bk,X]) t1 lq (by simp) (by simp) (h2 _)
 obtain⟨S3,e3,t3,q3,m3⟩:=Ga (bk:=bk) (X:=X) (e2:=Fk (.str w)) (fs:=[eV 0,eV 1]) (as:=[bk,X]) t2 q2 (by simp) (by simp) (h3 _)
 obtain⟨S4,e4,t4,q4,m4⟩:=Ga (bk:=bk) (X:=X) (e2:=Fk (.str w)) (fs:=[eV 0,eV 1]) (as:=[bk,X]) t3 q3 (by simp) (by simp) (h4 _)
 obtain⟨S5,e5,t5,q5,m5⟩:=Ga (bk:=bk) (X:=X) (e2:=Fk (.str w)) (fs:=[eV 0,eV 1,eC .non]) (as:=[bk,X,.non]) t4 q4 (by simp) (by simp) (h5 _)
 have sm:By [] S S5:=By.new (A:=[]) (B:=[S1.length]) (m1.trans .app) (((m2.trans m3).trans m4).trans m5) (by have:=m1.len;simpa using this)
 refine⟨S5,?_,sm⟩
 have dq:=An q5
 have rl:=iW (d:=.str w) (k:=5) (i:=5) rfl (by decide) (by decide)
 obtain⟨z1,z2⟩:=Ov (w:=w) (n:=5)
 have eb:IX=(AR (A8 3 (HJ [HK "_law_loads_so" [0,1] (AB EJ [eV 0,eV 1]) (BB FO [eV 0,eV 1]) (.str "none") hd4]))
  (AR (Ac (Fi Fp (eV 3) [HK "_law_loads_so" [0,1] (AB B6 [eV 0,eV 1]) (BB Co [eV 0,eV 1]) (.str "none") hd4]))
  (AR (Ac (Fi Fp (eV 3) [HK "_law_loads_so" [0,1] (AB BS [eV 0,eV 1]) (BB CI [eV 0,eV 1]) (.str "none") hd4]))
  (AR (Ac (Fi Fp (eV 3) [HK "_law_loads_so" [0,1] (AB Bp [eV 0,eV 1]) (BB CO [eV 0,eV 1]) (.str "none") hd4]))
  (AR (Ac (Fi Fp (eV 3) [HK "_law_loads_so" [0,1] (AB C4 [eV 0,eV 1,eC .non]) (BB Dr [eV 0,eV 1,eC .non]) (.str "none") hd4]))
  (Aq (eOp (o2 wEq) [eV 3,eOp (o2 Bx) [Eu [eV 2],eI 5]]))))))):=rfl
 unfold BO
 rw[eb]
 generalize hA:(Ac (Fi Fp (eV 3) [HK "_law_loads_so" [0,1] (AB B6 [eV 0,eV 1]) (BB Co [eV 0,eV 1]) (.str "none") hd4]))=A at*
 generalize hB:(Ac (Fi Fp (eV 3) [HK "_law_loads_so" [0,1] (AB BS [eV 0,eV 1]) (BB CI [eV 0,eV 1]) (.str "none") hd4]))=B at*
 generalize hC:(Ac (Fi Fp (eV 3) [HK "_law_loads_so" [0,1] (AB Bp [eV 0,eV 1]) (BB CO [eV 0,eV 1]) (.str "none") hd4]))=C at*
 generalize hD:(Ac (Fi Fp (eV 3) [HK "_law_loads_so" [0,1] (AB C4 [eV 0,eV 1,eC .non]) (BB Dr [eV 0,eV 1,eC .non]) (.str "none") hd4]))=DD at*
 clear hA hB hC hD
 simp only[sS]at rl z1 z2
 simp[e1,e2,e3,e4,e5,dq,s1,-JW,rl,z1,z2]
end
def Kp(p:Nat)(S S':Sto):Prop:=∀n c,S[n]?=Fk c->n≠p->S'[n]?=Fk c
section
variable{S:Sto}{t:Tr}{ls:Gc Ld}{ds:Gc AK}{p:Nat}{M P L:D}
theorem Kp.trans{S1 S2:Sto}(h:Kp p S S1)(g:Kp p S1 S2):Kp p S S2:=λn c e ne=>g n c (h n c e ne) ne
theorem Pn.kp{S':Sto}(h:Pn p S S'):Kp p S S':=λn c e ne=>h.get e ne
theorem By.kp{S':Sto}(h:By [] S S'):Kp p S S':=λn c e ne=>h.get e (by simp)
theorem Cu.same{S':Sto}(h:Cu p S)(g:By [] S S'):Cu p S':=by
 obtain⟨ds,e,hp⟩:=h
 exact⟨ds,g.get e (by simp),hp⟩
noncomputable def JC:AK:=.DQ 99 1
theorem Q5(h:A4 t ls ds)(hl:ds.length<=10):Up t ls (ds++[JC]) ds.length:=by
 have inv:=(h.at ds.length).len
 have tk:(ds++[JC]).take ds.length=ds:=by simp
 refine⟨h.tr,h.inv,by simp;lia,by simp,by rw[tk];exact h.good,?_⟩
 intro d hd
 have:d=JC:=by simpa using hd.symm
 subst this
 rw[tk]
 rw[List.take_length]at inv
 simp only[PJ,JC,thB,Bool.and_eq_false_iff,decide_eq_false_iff_not]
 left
 lia
theorem qv:AL t ls (ds++[JC])=.tup [t.d,.tup (ls.map Ld.d),.tup (ds.map AK.d++[.tup [.str "spoil",.int 99,.int 1]])]:=by
 unfold AL
 rw[uA]
 rfl
theorem Rv(h:A4 t ls ds)(hl:ds.length<=10)(hT:S.any (Fj "_law_numbers_so")=true):∃S',A9 [AL t ls (ds++[JC]),M,.str "done"] S=Fk (.bl true,S')/\By [] S S':=by
 have u:=Q5 h hl
 have c:ds.length<(ds++[JC]).length:=by simp
 exact Uu hT (λ_=>C0 u c) (λ_=>C0 u c) (λ_=>C0 u c) (λ_=>C0 u c)
theorem P1(h:A4 t ls ds)(hl:ds.length<=10)(hT:S.any (Fj "_law_loads_so")=true):∃S',BO [AL t ls (ds++[JC]),L,.str "done"] S=Fk (.bl true,S')/\By [] S S':=by
 have u:=Q5 h hl
 have c:ds.length<(ds++[JC]).length:=by simp
 exact RK hT (λ_=>C0 u c) (λ_=>C0 u c) (λ_=>C0 u c) (λ_=>C0 u c) (λ_=>C0 u c)
def laB(i:Nat):Ev:=(HK "law" [i,9,10] (AB BM [eV 0,eV 1,eV 2]) (BB Bz [eV 0,eV 1,eV 2]) (.str "none") hd4)
def WH:Ex:=(AR (xIf (eOr (Jx (AB A9 [eV 2,eV 9,eV 12])) (Jx (AB A9 [eV 6,eV 9,eC (.str "done")]))) (Aq (eC (.bl false))) Cv)
    (AR (xIf (H0 (eOp (o2 wEq) [eV 12,eC (.str "none")]) (Jx (AB CL [eV 10,eIx (eV 3) (eI 0)]))) (A8 12 (eC (.str "partner"))) Cv)
    (AR (xIf (eOp (o2 wNe) [laB 2,eV 12]) (Aq (eC (.bl false))) Cv)
    (AR (xIf (eOp (o2 wNe) [laB 6,eC (.str "done")]) (Aq (eC (.bl false))) Cv)
    (AR (A8 12 (eIx (Eu [eC (.str "load"),eC (.str "none")]) (eOp (o1 TH) [AB CL [eV 11,eV 7]])))
    (xIf (eOr (Jx (AB BO [eV 2,eV 11,eV 12])) (Jx (AB BO [eV 6,eV 11,eC (.str "done")]))) (Aq (eC (.bl false))) Cv))))))
theorem eN{e0 e1 e8:sD D}(hb:A4 t ls ds)(hl:ds.length<=10)(hT:S.any (Fj "_law_numbers_so")=true)(hT2:S.any (Fj "_law_loads_so")=true)(hT3:S.any (Fj "law")=true)(hM:Th M)(hP:Th P)(hL:Th L):∃u12 S',WH [e0,e1,Fk (AL t ls ds),Fk t.d,Fk (.tup (ls.map Ld.d)),Fk (.tup (ds.map AK.d)),Fk (AL t ls (ds++[JC])),Fk (.int (Bu ls.length ds).length),e8,Fk M,Fk P,Fk L,Fk (.str (Sl ds M))] S=Fk (.nx,[e0,e1,Fk (AL t ls ds),Fk t.d,Fk (.tup (ls.map Ld.d)),Fk (.tup (ds.map AK.d)),Fk (AL t ls (ds++[JC])),Fk (.int (Bu ls.length ds).length),e8,Fk M,Fk P,Fk L,u12],S')/\By [] S S':=by
 obtain⟨S1,n1,m1⟩:=Uu (w:=Sl ds M) hT (λ_=>aK hb hM) (λ_=>UQ hb hM) (λ_=>Zs hb hM) (λ_=>ba hb hM)
 obtain⟨S2,n2,m2⟩:=Rv (S:=S1) (M:=M) hb hl (tab_keep hT m1)
 have ft:=Pt (S:=S2) hP t.p
 have m12:=m1.trans m2
 obtain⟨S3,l3,m3⟩:=Nq (x:="law") (GX:=[2,9,10]) (F:=BM) (R:=Bz) (fs:=[eV 0,eV 1,eV 2]) (E:=[e0,e1,Fk (AL t ls ds),Fk t.d,Fk (.tup (ls.map Ld.d)),Fk (.tup (ds.map AK.d)),Fk (AL t ls (ds++[JC])),Fk (.int (Bu ls.length ds).length),e8,Fk M,Fk P,Fk L,Fk (.str (thW t ds M P))]) (as:=[AL t ls ds,M,P]) (tab_keep hT3 m12) (by simp[Nz]) (Wo hb hM hP)
 have u:=Q5 hb hl
 have c:ds.length<(ds++[JC]).length:=by simp
 obtain⟨S4,l4,m4⟩:=Nq (S:=S3) (x:="law") (GX:=[6,9,10]) (F:=BM) (R:=Bz) (fs:=[eV 0,eV 1,eV 2]) (E:=[e0,e1,Fk (AL t ls ds),Fk t.d,Fk (.tup (ls.map Ld.d)),Fk (.tup (ds.map AK.d)),Fk (AL t ls (ds++[JC])),Fk (.int (Bu ls.length ds).length),e8,Fk M,Fk P,Fk L,Fk (.str (thW t ds M P))]) (as:=[AL t ls (ds++[JC]),M,P]) (tab_keep hT3 (m12.trans m3)) (by simp[Nz]) (C0 u c)
 have fl:=Pt (S:=S4) hL (Bu ls.length ds).length
 have m14:=(m12.trans m3).trans m4
 obtain⟨S5,n5,m5⟩:=RK (S:=S4) (w:=ldW ls ds L) (tab_keep hT2 m14) (λ_=>eJ hb hL) (λ_=>Ue hb hL) (λ_=>cg hb hL) (λ_=>gj hb hL) (λ_=>cF hb hL)
 obtain⟨S6,n6,m6⟩:=P1 (S:=S5) (L:=L) hb hl (tab_keep hT2 (m14.trans m5))
 have s2:(2:Nat)<=sizeLine:=AI (by decide)
 have td:asS (.val t.d)=Fk [.int t.p,.int t.k,.int t.b,shD t.ho,.int t.h,.int t.l]:=rfl
 have dt:∀T,dr T t.d=.val t.d:=λ_=>rfl
 have l3':laB 2 [e0,e1,Fk (AL t ls ds),Fk t.d,Fk (.tup (ls.map Ld.d)),Fk (.tup (ds.map AK.d)),Fk (AL t ls (ds++[JC])),Fk (.int (Bu ls.length ds).length),e8,Fk M,Fk P,Fk L,Fk (.str (thW t ds M P))] S2=Fk (.str (thW t ds M P),S3):=l3
 have l4':laB 6 [e0,e1,Fk (AL t ls ds),Fk t.d,Fk (.tup (ls.map Ld.d)),Fk (.tup (ds.map AK.d)),Fk (AL t ls (ds++[JC])),Fk (.int (Bu ls.length ds).length),e8,Fk M,Fk P,Fk L,Fk (.str (thW t ds M P))] S3=Fk (.str "done",S4):=l4
 refine⟨Fk (.str (ldW ls ds L)),S6,?_,(m14.trans m5).trans m6⟩
 have hlw:ldW ls ds L=if inW 0 ((Bu ls.length ds).length-1) L=true then "none" else "load":=rfl
 have hnw:Sl ds M=if inW 0 ds.length M=true then "none" else "number":=rfl
 have htw:thW t ds M P=if inW 0 ds.length M=true then(if inW 0 ((t.p:Int)-1) P=true then "none" else "partner")else "number":=rfl
 generalize ldW ls ds L=wl at*
 generalize Sl ds M=wn at*
 generalize thW t ds M P=wt at*
 generalize AL t ls (ds++[JC])=bk2 at*
 generalize AL t ls ds=bk at*
 generalize ((Bu ls.length ds).length:Int)=RL at*
 generalize t.d=td' at*
 have n2':A9 [bk2,M,.str "done"] S1=Fk (.bl true,S2):=n2
 have n6':BO [bk2,L,.str "done"] S5=Fk (.bl true,S6):=n6
 cases cM:inW 0 ds.length M with
 |false=>
  rw[cM]at hnw htw
  simp at hnw htw
  subst hnw htw
  cases cL:inW 0 (RL-1) L with
  |false=>
   rw[cL]at hlw fl
   simp at hlw
   subst hlw
   simp[WH,n1,n2',l3',l4',fl,s2,n5,n6']
  |true=>
   rw[cL]at hlw fl
   simp at hlw
   subst hlw
   simp[WH,n1,n2',l3',l4',fl,s2,n5,n6']
 |true=>
  rw[cM]at hnw htw
  cases cP:inW 0 ((t.p:Int)-1) P with
  |false=>
   rw[cP]at htw ft
   simp at hnw htw
   subst hnw htw
   cases cL:inW 0 (RL-1) L with
   |false=>
    rw[cL]at hlw fl
    simp at hlw
    subst hlw
    simp[WH,n1,n2',dt,td,ft,l3',l4',fl,s2,n5,n6']
   |true=>
    rw[cL]at hlw fl
    simp at hlw
    subst hlw
    simp[WH,n1,n2',dt,td,ft,l3',l4',fl,s2,n5,n6']
  |true=>
   rw[cP]at htw ft
   simp at hnw htw
   subst hnw htw
   cases cL:inW 0 (RL-1) L with
   |false=>
    rw[cL]at hlw fl
    simp at hlw
    subst hlw
    simp[WH,n1,n2',dt,td,ft,l3',l4',fl,s2,n5,n6']
   |true=>
    rw[cL]at hlw fl
    simp at hlw
    subst hlw
    simp[WH,n1,n2',dt,td,ft,l3',l4',fl,s2,n5,n6']
end
section
variable{S:Sto}{t:Tr}{ls:Gc Ld}{ds:Gc AK}{p:Nat}
def iq:Ex:=(AR (A8 9 (eIx (Eu [AB AG [eV 1,eI 14],eOp (o1 Ep) [eV 5],AB (Ay 8) [eV 1,eI 2],eOp (o1 N0) [eI 1],eC (.bl true)]) (AB AG [eV 1,eI 5])))
    (AR (A8 10 (eIx (Eu [AB AG [eV 1,eI 5],AB (Ay 8) [eV 1,eI 2],eIx (eV 3) (eI 0),eC .non]) (AB AG [eV 1,eI 4])))
    (AR (A8 11 (eIx (Eu [AB AG [eV 1,eI 14],eV 7,AB (Ay 8) [eV 1,eI 2],eOp (o1 N0) [eI 1],eC (.bl false)]) (AB AG [eV 1,eI 5])))
    (AR (A8 12 (eIx (Eu [eC (.str "number"),eC (.str "none")]) (eOp (o1 TH) [AB CL [eV 9,eOp (o2 Ct) [eOp (o1 Ep) [eV 5],eI 1]]])))
    WH))))
def Tbs(p:Nat)(S:Sto):Prop:=∀x∈([("_law_numbers_so":Str),("_law_loads_so":Str),("law":Str)]:Gc Str),∃i,i≠p/\S[i]?=Fk (Cl.tab x)
theorem Tbs.kp{S':Sto}(h:Tbs p S)(g:Kp p S S'):Tbs p S':=λx hx=>by
 obtain⟨i,ne,e⟩:=h x hx
 exact⟨i,ne,g i _ e ne⟩
theorem Tbs.any{x:Str}(h:Tbs p S)(hx:x∈([("_law_numbers_so":Str),("_law_loads_so":Str),("law":Str)]:Gc Str)):S.any (Fj x)=true:=by
 obtain⟨i,_,e⟩:=h x hx
 exact tab_of e
theorem Zx{e0 e8 e9 e10 e11 e12:sD D}(hT:Tbs p S)(hb:A4 t ls ds)(hl:ds.length<=10)(hp:Cu p S):∃u9 u10 u11 u12 S',iq [e0,Fk (.ref p),Fk (AL t ls ds),Fk t.d,Fk (.tup (ls.map Ld.d)),Fk (.tup (ds.map AK.d)),Fk (AL t ls (ds++[JC])),Fk (.int (Bu ls.length ds).length),e8,e9,e10,e11,e12] S=Fk (.nx,[e0,Fk (.ref p),Fk (AL t ls ds),Fk t.d,Fk (.tup (ls.map Ld.d)),Fk (.tup (ds.map AK.d)),Fk (AL t ls (ds++[JC])),Fk (.int (Bu ls.length ds).length),e8,u9,u10,u11,u12],S')/\Cu p S'/\Kp p S S':=by
 obtain⟨r1,S1,d1,a1,b1,p1⟩:=Ak hp (n:=14) (by decide) (by decide)
 obtain⟨X2,S2,d2,h2,p2⟩:=Kh (n:=8) (d:=2) (by decide) p1.pen
 obtain⟨r3,S3,d3,a3,b3,p3⟩:=Ak p2.pen (n:=5) (by decide) (by decide)
 obtain⟨M,eM,mM⟩:=pick (xs:=[.int r1,.int ds.length,X2,.int (-1),.bl true]) (r:=r3) a3 (by simpa using b3)
 have hM:Th M:=by
  simp only[sN,si,uX]at mM
  rcases mM with rfl|rfl|rfl|rfl|rfl
  .exact .int _
  .exact .int _
  .exact h2
  .exact .int _
  .exact .bl _
 obtain⟨r4,S4,d4,a4,b4,p4⟩:=Ak p3.pen (n:=5) (by decide) (by decide)
 obtain⟨X5,S5,d5,h5,p5⟩:=Kh (n:=8) (d:=2) (by decide) p4.pen
 obtain⟨r6,S6,d6,a6,b6,p6⟩:=Ak p5.pen (n:=4) (by decide) (by decide)
 obtain⟨P,eP,mP⟩:=pick (xs:=[.int r4,X5,.int t.p,.non]) (r:=r6) a6 (by simpa using b6)
 have hP:Th P:=by
  simp only[sN,si,uX]at mP
  rcases mP with rfl|rfl|rfl|rfl
  .exact .int _
  .exact h5
  .exact .int _
  .exact .non
 obtain⟨r7,S7,d7,a7,b7,p7⟩:=Ak p6.pen (n:=14) (by decide) (by decide)
 obtain⟨X8,S8,d8,h8,p8⟩:=Kh (n:=8) (d:=2) (by decide) p7.pen
 obtain⟨r9,S9,d9,a9,b9,p9⟩:=Ak p8.pen (n:=5) (by decide) (by decide)
 obtain⟨L,eL,mL⟩:=pick (xs:=[.int r7,.int (Bu ls.length ds).length,X8,.int (-1),.bl false]) (r:=r9) a9 (by simpa using b9)
 have hL:Th L:=by
  simp only[sN,si,uX]at mL
  rcases mL with rfl|rfl|rfl|rfl|rfl
  .exact .int _
  .exact .int _
  .exact h8
  .exact .int _
  .exact .bl _
 have pn:=(((((((p1.trans p2).trans p3).trans p4).trans p5).trans p6).trans p7).trans p8).trans p9
 have hT9:=hT.kp pn.kp
 have ft:=Pt (S:=S9) hM ((ds.length:Int)+1)
 rw[show(ds.length:Int)+1-1=ds.length by lia]at ft
 obtain⟨u12,S',e,sm⟩:=eN (S:=S9) (e0:=e0) (e1:=Fk (.ref p)) (e8:=e8) hb hl (hT9.any (by simp)) (hT9.any (by simp)) (hT9.any (by simp)) hM hP hL
 have s2:(2:Nat)<=sizeLine:=AI (by decide)
 have s4:(4:Nat)<=sizeLine:=AI (by decide)
 have s5:(5:Nat)<=sizeLine:=AI (by decide)
 have n1:N0 (.val (.int 1))=Fk (.val (.int (-1))):=rfl
 refine⟨Fk M,Fk P,Fk L,u12,S',?_,Cu.same p9.pen sm,pn.kp.trans sm.kp⟩
 have d2':Ay 8 [.ref p,.int 2] S1=Fk (X2,S2):=d2
 have d5':Ay 8 [.ref p,.int 2] S4=Fk (X5,S5):=d5
 have d8':Ay 8 [.ref p,.int 2] S7=Fk (X8,S8):=d8
 have td:asS (.val t.d)=Fk [.int t.p,.int t.k,.int t.b,shD t.ho,.int t.h,.int t.l]:=rfl
 have dt:∀T,dr T t.d=.val t.d:=λ_=>rfl
 have ll:((ds.map AK.d).length:Int)=ds.length:=by simp
 have hnw:Sl ds M=if inW 0 ds.length M=true then "none" else "number":=rfl
 generalize Sl ds M=wn at*
 rw[<-ll]at eM ft
 generalize AL t ls (ds++[JC])=bk2 at*
 generalize AL t ls ds=bk at*
 generalize ((Bu ls.length ds).length:Int)=RL at*
 generalize t.d=td' at*
 clear ll
 cases c:inW 0 (ds.length:Int) M with
 |false=>
  rw[c]at hnw
  have c':inW 0 ((ds.map AK.d).length:Int) M=false:=by simpa using c
  rw[c']at ft
  simp at hnw
  subst hnw
  generalize ds.map AK.d=DD at*
  generalize ls.map Ld.d=LL at*
  generalize hB:WH=TB at*
  simp[iq,hB,d1,d2',d3,eM,d4,d5',d6,dt,td,eP,d7,d8',d9,eL,ft,e,s2,s4,s5,n1]
 |true=>
  rw[c]at hnw
  have c':inW 0 ((ds.map AK.d).length:Int) M=true:=by simpa using c
  rw[c']at ft
  simp at hnw
  subst hnw
  generalize ds.map AK.d=DD at*
  generalize ls.map Ld.d=LL at*
  generalize hB:WH=TB at*
  simp[iq,hB,d1,d2',d3,eM,d4,d5',d6,dt,td,eP,d7,d8',d9,eL,ft,e,s2,s4,s5,n1]
end
theorem dQ(ns:Gc Int)(hl:ns.length<=63):∃S',Nr [.scr ns] [Cl.tab "_law_loads_so",Cl.tab "_law_numbers_so",Cl.tab "law"]=Fk (.bl true,S'):=by
 obtain⟨c,ec⟩:=aM (S:=[Cl.tab "_law_loads_so",Cl.tab "_law_numbers_so",Cl.tab "law"]) (ns:=ns) (k:=0)
 obtain⟨p,S1,e1,p1,s1,l1⟩:=ie (S:=[Cl.tab "_law_loads_so",Cl.tab "_law_numbers_so",Cl.tab "law"]) c
 have l1':3<=p:=by simpa using l1
 have t1:Tbs p S1:=λx hx=>by
  simp only[sN,si,uX]at hx
  rcases hx with rfl|rfl|rfl
  .exact⟨1,by lia,s1.get rfl (by simp)⟩
  .exact⟨0,by lia,s1.get rfl (by simp)⟩
  .exact⟨2,by lia,s1.get rfl (by simp)⟩
 obtain⟨t,ls,ds,S2,e2,⟨hb,hd⟩,_,p2,k2⟩:=X1 (M:=10) (by decide) p1
 have t2:Tbs p S2:=t1.kp k2
 have r12:HI 12=true:=Cq (by lia) (by lia)
 have hl0:ls.length<=4:=hb.inv.len
 obtain⟨E3,S3,f3,o8,o9,o10,o11,o12,rfl,p3,k3⟩:=EV (gs:=[]) (t:=tNm 8) (b:=iq)
  (I:=λrs E S'=>∃o8 o9 o10 o11 o12:sD D,E=[Fk (.scr ns),Fk (.ref p),Fk (AL t ls ds),Fk t.d,Fk (.tup (ls.map Ld.d)),Fk (.tup (ds.map AK.d)),Fk (AL t ls (ds++[JC])),Fk (.int (Bu ls.length ds).length),o8,o9,o10,o11,o12]/\Cu p S'/\Kp p S2 S')
  (fun _ _ _ _ => AZ) (ds := Ka 0 (12 : Int).toNat) (E := [Fk (.scr ns), Fk (.ref p), Fk (AL t ls ds), Fk t.d, Fk (.tup (ls.map Ld.d)), Fk (.tup (ds.map AK.d)), Fk (AL t ls (ds ++ [JC])), Fk (.int (Bu ls.length ds).length), none, none, none, none, none]) (S := S2) ⟨none, none, none, none, none, rfl, p2, fun _ _ e _ => e⟩ (by
    rintro dd rs E T ⟨o8,o9,o10,o11,o12,rfl,i1,i2⟩
    obtain⟨u9,u10,u11,u12,T',e,j1,j2⟩:=Zx (e0:=Fk (.scr ns)) (e8:=Fk dd) (e9:=o9) (e10:=o10) (e11:=o11) (e12:=o12) (t2.kp i2) hb hd i1
    exact⟨_,_,T',rfl,e,Fk dd,u9,u10,u11,u12,rfl,j1,i2.trans j2⟩)
 have t3:Tbs p S3:=t2.kp k3
 have u:=Q5 hb hd
 have cc:ds.length<(ds++[JC]).length:=by simp
 obtain⟨S4,l4,m4⟩:=Nq (S:=S3) (x:="law") (GX:=[6]) (F:=BV) (R:=ED) (fs:=[eV 0,eC .non]) (E:=[Fk (.scr ns),Fk (.ref p),Fk (AL t ls ds),Fk t.d,Fk (.tup (ls.map Ld.d)),Fk (.tup (ds.map AK.d)),Fk (AL t ls (ds++[JC])),Fk (.int (Bu ls.length ds).length),o8,o9,o10,o11,o12]) (as:=[AL t ls (ds++[JC]),.non]) (t3.any (by simp)) (by simp[Nz]) (C0 u cc)
 have sn:=Uy (S:=S4) hb
 have mk:=mkC (S:=S2) (ds:=ds) (by lia)
 refine⟨S4,?_⟩
 have eb:UG=(AR (A8 1 (AB HZ [AB CZ [eV 0,eI 0]]))
  (AR (A8 2 (AB Dp [eV 1,eI 10]))
  (AR (LC (tTp [tNm 3,tNm 4,tNm 5]) (eV 2))
  (AR (A8 6 (B0 [eV 3,eV 4,eOp (o2 Ct) [eV 5,B0 [B0 [eC (.str "spoil"),eI 99,eI 1]]]]))
  (AR (A8 7 (eOp (o2 Ct) [eOp (o1 Ep) [eV 4],eOp (o1 Ep) [Bg [] 1 (Fq (eV 5)) (tNm 0) (eOp (o2 (wIn false)) [eIx (eV 0) (eI 0),B0 [eC (.str "bring"),eC (.str "pool"),eC (.str "swap"),eC (.str "trade")]]) (eV 0)]]))
  (AR (L6 (L7 [eI 12]) (tNm 8) iq)
  (Aq (H0 (eOp (o2 wEq) [HK "law" [6] (AB BV [eV 0,eC .non]) (BB ED [eV 0,eC .non]) (.str "none") hd4,eC (.str "done")]) (eOp (o2 fC) [AB BV [eV 2,eC .non],eC (.bl false)]))))))))):=rfl
 unfold Nr
 rw[eb]
 have ec':CZ [.scr ns,.int 0] [Cl.tab "_law_loads_so",Cl.tab "_law_numbers_so",Cl.tab "law"]=Fk (.int c,[Cl.tab "_law_loads_so",Cl.tab "_law_numbers_so",Cl.tab "law"]):=ec
 have e2':Dp [.ref p,.int 10] S1=Fk (AL t ls ds,S2):=e2
 have un:∀T,(LC (tTp [tNm 3,tNm 4,tNm 5]) (eV 2)) [Fk (.scr ns),Fk (.ref p),Fk (AL t ls ds),none,none,none,none,none,none,none,none,none,none] T=Fk (.nx,[Fk (.scr ns),Fk (.ref p),Fk (AL t ls ds),Fk t.d,Fk (.tup (ls.map Ld.d)),Fk (.tup (ds.map AK.d)),none,none,none,none,none,none,none],T):=λT=>by simp[AL]
 have s1':(1:Nat)<=sizeLine:=AI (by decide)
 have s3:(3:Nat)<=sizeLine:=AI (by decide)
 have q1:(ds.map AK.d).length+1<=sizeLine:=sL (show _<=50 by simp;lia) (AI (by decide))
 have a6:∀T,(A8 6 (B0 [eV 3,eV 4,eOp (o2 Ct) [eV 5,B0 [B0 [eC (.str "spoil"),eI 99,eI 1]]]])) [Fk (.scr ns),Fk (.ref p),Fk (AL t ls ds),Fk t.d,Fk (.tup (ls.map Ld.d)),Fk (.tup (ds.map AK.d)),none,none,none,none,none,none,none] T=Fk (.nx,[Fk (.scr ns),Fk (.ref p),Fk (AL t ls ds),Fk t.d,Fk (.tup (ls.map Ld.d)),Fk (.tup (ds.map AK.d)),Fk (AL t ls (ds++[JC])),none,none,none,none,none,none],T):=λT=>by
  rw[qv]
  generalize ds.map AK.d=DD at*
  simp[s1',s3,q1]
 have a7:(A8 7 (eOp (o2 Ct) [eOp (o1 Ep) [eV 4],eOp (o1 Ep) [Bg [] 1 (Fq (eV 5)) (tNm 0) (eOp (o2 (wIn false)) [eIx (eV 0) (eI 0),B0 [eC (.str "bring"),eC (.str "pool"),eC (.str "swap"),eC (.str "trade")]]) (eV 0)]])) [Fk (.scr ns),Fk (.ref p),Fk (AL t ls ds),Fk t.d,Fk (.tup (ls.map Ld.d)),Fk (.tup (ds.map AK.d)),Fk (AL t ls (ds++[JC])),none,none,none,none,none,none] S2=Fk (.nx,[Fk (.scr ns),Fk (.ref p),Fk (AL t ls ds),Fk t.d,Fk (.tup (ls.map Ld.d)),Fk (.tup (ds.map AK.d)),Fk (AL t ls (ds++[JC])),Fk (.int (Bu ls.length ds).length),none,none,none,none,none],S2):=by
  have ce:Bo [] (tNm 0) (eOp (o2 (wIn false)) [eIx (eV 0) (eI 0),B0 [eC (.str "bring"),eC (.str "pool"),eC (.str "swap"),eC (.str "trade")]]) (eV 0) (ds.map AK.d) [] [none] S2=Fk ((ds.filter HM).map AK.d,S2):=
   CA (gs:=[]) (t:=tNm 0) (f:=eV 0) (C:=[]) (m:=1) (e:=AK.d) (g:=AK.d) (b:=HM) (S:=S2) AZ (xs:=ds) (acc:=[]) (os:=[none]) rfl (sL (show _<=50 by simp;lia) (AI (by decide))) (by
    intro d _ os ho
    obtain⟨o1,rfl⟩:=Ke ho
    have s4:(4:Nat)<=sizeLine:=AI (by decide)
    have kM:D.tup [.str "bring",.str "pool",.str "swap",.str "trade"]=BX:=rfl
    refine⟨[Fk d.d],rfl,by simp,?_,by simp⟩
    cases d<;>simp[AK.d,HM,s4,kM])
  have rl:(Bu ls.length ds).length=ls.length+(ds.filter HM).length:=JI
  have l2:((ds.filter HM).map AK.d).length=(ds.filter HM).length:=by simp
  have l3:(ls.map Ld.d).length=ls.length:=by simp
  rw[rl,<-l2,<-l3]
  generalize (ds.filter HM).map AK.d=FM at*
  generalize ds.map AK.d=DD at*
  generalize ls.map Ld.d=LL at*
  simp[ce]
 have wF:fC (.val (.bl false)) (.val (.bl false))=Fk (.val (.bl true)):=rfl
 rw[show((12:Int).toNat)=12 from rfl]at f3
 generalize (A8 7 (eOp (o2 Ct) [eOp (o1 Ep) [eV 4],eOp (o1 Ep) [Bg [] 1 (Fq (eV 5)) (tNm 0) (eOp (o2 (wIn false)) [eIx (eV 0) (eI 0),B0 [eC (.str "bring"),eC (.str "pool"),eC (.str "swap"),eC (.str "trade")]]) (eV 0)]]))=A7 at*
 generalize (A8 6 (B0 [eV 3,eV 4,eOp (o2 Ct) [eV 5,B0 [B0 [eC (.str "spoil"),eI 99,eI 1]]]]))=A6 at*
 generalize AL t ls (ds++[JC])=bk2 at*
 generalize AL t ls ds=bk at*
 simp[ec',e1,e2',-XB,un,a6,a7,r12,f3,l4,sn,wF]
open PyProof.Rows (boot_isinstance boot_int boot_bool boot_tuple boot_str boot_list boot_abs boot_all boot_any boot_sum boot_max boot_min boot_range boot_enumerate boot_zip boot_sorted boot_set boot_divmod)
theorem Q6{K:Wp}{h:tT}{mg:Str->sD W1}{xs:Gc Str}{y:Str}{C':sF}(X:K.In h)(G:h.Ns mainGlobals mg)(e:uR K mainGlobals y=Fk (Fk (.ref C')))(t:∀x∈xs,∃C b,uR K mainGlobals x=Fk (Fk (.ref C))/\wx K (.ref C) (.ref C')=Fk b/\(x==y)=b):XmD K mg xs y:=nI X G e λx hx=>by
 obtain⟨C,b,h1,h2,h3⟩:=t x hx
 exact⟨C,h1,by rw[h3];exact h2⟩
theorem Ey{K:Wp}{xs:Gc Str}{x y:Str}{C C':sF}{b:tV}(h1:uR K mainGlobals x=Fk (Fk (.ref C)))(h2:wx K (.ref C) (.ref C')=Fk b)(h3:(x==y)=b)(t:∀z∈xs,∃C b,uR K mainGlobals z=Fk (Fk (.ref C))/\wx K (.ref C) (.ref C')=Fk b/\(z==y)=b):∀z∈x::xs,∃C b,uR K mainGlobals z=Fk (Fk (.ref C))/\wx K (.ref C) (.ref C')=Fk b/\(z==y)=b:=λz m=>by
 rcases sN.mp m with e|m
 .rw[e];exact⟨C,b,h1,h2,h3⟩
 .exact t z m
section
variable{P:sj}{w:tu}{K:Wp}{mg:Str->sD W1}{base:tT}
theorem CY:BP ["_law_script","_law_pen_here","_law_book_here","_law_train_here","_law_first_here","_law_deeds","_law_wrong","_law_there_here","_law_turn_here","_law_many","_law_partner","_law_load","_law_due"] ["_law_script"] (AF ER):=scM
theorem Ry:AO ["_law_script","_law_pen_here","_law_book_here","_law_train_here","_law_first_here","_law_deeds","_law_wrong","_law_there_here","_law_turn_here","_law_many","_law_partner","_law_load","_law_due"] (AF ER) ["_law_deed_here"] (ixC [] 1) (GA ER 0):=csM
theorem R9:(["_law_deed_here"]:Gc Str).Nodup:=by decide+kernel
theorem SA:Cb ["_law_script","_law_pen_here","_law_book_here","_law_train_here","_law_first_here","_law_deeds","_law_wrong","_law_there_here","_law_turn_here","_law_many","_law_partner","_law_load","_law_due"] (AF ER) ["_law_book_here","_law_many","_law_partner"] [2,9,10] (Sv ER 0):=lsM
theorem SS:Cb ["_law_script","_law_pen_here","_law_book_here","_law_train_here","_law_first_here","_law_deeds","_law_wrong","_law_there_here","_law_turn_here","_law_many","_law_partner","_law_load","_law_due"] (AF ER) ["_law_wrong","_law_many","_law_partner"] [6,9,10] (Sv ER 1):=lsM
theorem Rm:Cb ["_law_script","_law_pen_here","_law_book_here","_law_train_here","_law_first_here","_law_deeds","_law_wrong","_law_there_here","_law_turn_here","_law_many","_law_partner","_law_load","_law_due"] (AF ER) ["_law_wrong"] [6] (Sv ER 2):=lsM
theorem fH{f:sF}{fd:vD}(F:Fun K "law" "law" ER f fd)(hm:mg "law"=Fk (.ref f))(bm:BmB mg base)(T:All w K mg):Pb P w K mg base CX0 14 f fd ["_law_script"] (spD K 1 Nr):=by
 have B:=T.bt
 have S_law_word:=T.II
 have E9:=E9 P base bm T
 have EC:=EC P base bm T
 have Gi:=Gi P base bm T
 have LR:=LR P base bm T
 have Bm:=Bm P base bm T
 have Jf:=Jf P base bm T
 have Cy:=Cy P base bm T 8 (by decide)
 have GH:=GH P base bm T
 have Dd:=Dd P base bm T
 have EZ:=EZ P base bm T
 have Ge:=T.Ge
 have ES:=T.ES
 have Df:=T.Df
 have Fd:=T.Fd
 have FA:=FA P base bm T
 have FZ:=FZ P base bm T
 refine fnL (k:=13) F hm CY rfl λci hr hu=>?_
 exact(BE (HA 1 (deM LR hr (AE (deM Gi hr (AE (AU 0) (AE BW AV))) AV)) CY.nd)
      (BE (HA 2 (deM Jf hr (AE (AU 1) (AE BW AV))) CY.nd)
      (BE (gq (AU 2) (iL rfl (JM (N4 3 CY.nd) (JM (N4 4 CY.nd) (JM (N4 5 CY.nd) UC)))))
      (BE (HA 6 (Oa (AE (AU 3) (AE (AU 4) (AE (UW P5 (AU 5) (Oa (AE (Oa (AE Bf (AE BW (AE BW AV)))) AV))) AV)))) CY.nd)
      (BE (HA 7 (UW P5 (D9 GQ rfl B.len AAN (AE (AU 4) AV)) (D9 GQ rfl B.len AAN (AE (Uj [] 1 ["_law_deed_here"] rfl Ry (gz (AU 5)) (λs H fp=>⟨N4 0 R9,bD (IU fU (L5 WL (AU 0) BW) (Oa (AE Bf (AE Bf (AE Bf (AE Bf AV)))))),AU 0⟩)) AV))) CY.nd)
      (BE (eT PassesOwn.never rfl (Us rfl B.range (AE BW AV)) (N4 8 CY.nd) (BE (HA 9 (L5 WL (LX (AE (deM Bm hr (AE (AU 1) (AE BW AV))) (AE (D9 GQ rfl B.len AAN (AE (AU 5) AV)) (AE (deM Cy hr (AE (AU 1) (AE BW AV))) (AE (bX QL BW) (AE NN AV)))))) (deM Bm hr (AE (AU 1) (AE BW AV)))) CY.nd)
      (BE (HA 10 (L5 WL (LX (AE (deM Bm hr (AE (AU 1) (AE BW AV))) (AE (deM Cy hr (AE (AU 1) (AE BW AV))) (AE (L5 WL (AU 3) BW) (AE KR AV))))) (deM Bm hr (AE (AU 1) (AE BW AV)))) CY.nd)
      (BE (HA 11 (L5 WL (LX (AE (deM Bm hr (AE (AU 1) (AE BW AV))) (AE (AU 7) (AE (deM Cy hr (AE (AU 1) (AE BW AV))) (AE (bX QL BW) (AE NN AV)))))) (deM Bm hr (AE (AU 1) (AE BW AV)))) CY.nd)
      (BE (HA 12 (L5 WL (LX (AE Bf (AE Bf AV))) (K7 OL rfl B.int boot_int (AE (deM GH hr (AE (AU 9) (AE (UW P5 (D9 GQ rfl B.len AAN (AE (AU 5) AV)) BW) AV))) AV))) CY.nd)
      (BE (Kw (DW.dt (Zt (PN (Lv (deM Dd hr (AE (AU 2) (AE (AU 9) (AE (AU 12) AV)))))) (T9 (PN (Lv (deM Dd hr (AE (AU 6) (AE (AU 9) (AE Bf AV))))))))) (BI (CB NN)) FR)
      (BE (Kw (DW.dt (gE (IU (Ku hu) (AU 12) Bf) (cV (PN (Lv (deM GH hr (AE (AU 10) (AE (L5 WL (AU 3) BW) AV)))))))) (BI (HA 12 Bf CY.nd)) FR)
      (BE (Kw (IU (Ym hu) (Vc (k:=10) S_law_word FJ SA ci bm (hr.mono (by decide)) rfl (λf c' clos A outer s H hr=>(deM E9 hr (AE (AU 0) (AE (AU 1) (AE (AU 2) AV))))) (λf c' clos A outer s H hr=>(QH FA (hr.mono (by decide)) rfl (AE (AU 0) (AE (AU 1) (AE (AU 2) AV))))) (λ_ _ _ _ _ _=>(Er Fd rfl (λ_=>BI (CB Bf)) (Er ES rfl (λ_=>BI (CB Bf)) (Er Df rfl (λ_=>BI (CB Bf)) (Er Ge rfl (λ_=>BI (CB Bf)) Um))))) (λ_ _ _ _ _ _=>Bf)) (AU 12)) (BI (CB NN)) FR)
      (BE (Kw (IU (Ym hu) (Vc (k:=10) S_law_word FJ SS ci bm (hr.mono (by decide)) rfl (λf c' clos A outer s H hr=>(deM E9 hr (AE (AU 0) (AE (AU 1) (AE (AU 2) AV))))) (λf c' clos A outer s H hr=>(QH FA (hr.mono (by decide)) rfl (AE (AU 0) (AE (AU 1) (AE (AU 2) AV))))) (λ_ _ _ _ _ _=>(Er Fd rfl (λ_=>BI (CB Bf)) (Er ES rfl (λ_=>BI (CB Bf)) (Er Df rfl (λ_=>BI (CB Bf)) (Er Ge rfl (λ_=>BI (CB Bf)) Um))))) (λ_ _ _ _ _ _=>Bf)) Bf) (BI (CB NN)) FR)
      (BE (HA 12 (L5 WL (LX (AE Bf (AE Bf AV))) (K7 OL rfl B.int boot_int (AE (deM GH hr (AE (AU 11) (AE (AU 7) AV))) AV))) CY.nd)
      (BI (Kw (DW.dt (Zt (PN (Lv (deM EZ hr (AE (AU 2) (AE (AU 11) (AE (AU 12) AV)))))) (T9 (PN (Lv (deM EZ hr (AE (AU 6) (AE (AU 11) (AE Bf AV))))))))) (BI (CB NN)) FR))))))))))))
      (BI (CB (Ob (O7 (Ku hu) (Vc (k:=10) S_law_word FJ Rm ci bm (hr.mono (by decide)) rfl (λf c' clos A outer s H hr=>(deM EC hr (AE (AU 0) (AE KR AV)))) (λf c' clos A outer s H hr=>(QH FZ (hr.mono (by decide)) rfl (AE (AU 0) (AE KR AV)))) (λ_ _ _ _ _ _=>(Er Fd rfl (λ_=>BI (CB Bf)) (Er ES rfl (λ_=>BI (CB Bf)) (Er Df rfl (λ_=>BI (CB Bf)) (Er Ge rfl (λ_=>BI (CB Bf)) Um))))) (λ_ _ _ _ _ _=>Bf)) Bf) (Of (O7 bB (deM EC hr (AE (AU 2) (AE KR AV))) NN)))))))))))
end
theorem VD{K:Wp}{x:Str}{P f c:sF}{oc oc2:W1}{od od2:sD sF}{osl osl2:uI (sD W1)}{fd:vD}{vs:uI W1}{file:Str}{tf tg tt:Tok}{flags text:Int}{inF:tV}(e1:uR K mainGlobals x=Fk (Fk (.ref f)))(e2:K.lookup f=Fk ⟨oc,od,.func fd,osl⟩)(e3:fd.code=.ref c)(e4:K.lookup c=Fk ⟨oc2,od2,.fields vs,osl2⟩)(h0:oc2=.type "code")(h11:vs[11]?=Fk (.ref P))(h11':vs.getD 11 tZ=.ref P)(h18:vs.getD 18 tZ=.str file tf)(h7:vs.getD 7 tZ=.int flags tg)(h9:vs.getD 9 tZ=.bool inF)(h10:vs.getD 10 tZ=.int text tt)(ne:c≠P):TabAt K x P:=
 ⟨f,oc,od,fd,osl,c,e1,e2,e3,_,vs,file,tf,flags,tg,inF,text,tt,e4,h0,rfl,h11,h11',h18,h7,h9,h10,ne⟩
theorem U3{P:sF}:∀{K:Wp},P∉K.map (·.1)->K.lookup P=none
 | [],_=>rfl
 |(a,o)::K,h=>by
  rw[su,sN,zZ]at h
  have:(P==a)=false:=by simpa using h.1
  rw[uu,this]
  exact U3 h.2
theorem walk{l:zQ}{q:sj}{loose:Gc Str}{XP:(Str->sD W1)->tT->Prop}{d:DefRec}{K:Params->Wp}{as:Gc sF}{ea:∀(P:Params),as=List.map (λx=>x.fst) (K P)}{ts:Gc sF}(hn:l.most=Fk 63)(hdf:d.params.defaults=[])(na:∀P∈ts,P∉as)(nd:(((["_law_loads_so","_law_numbers_so","law"]:Gc Str).zip ts).map (·.2)).Nodup)(hl:RZ ((["_law_loads_so","_law_numbers_so","law"]:Gc Str).zip ts)=[Cl.tab "_law_loads_so",Cl.tab "_law_numbers_so",Cl.tab "law"])(hd:d.name="law")(F:∀(w:tu) (mg:Str->sD W1) (h:tT),(K w.params).In h->h.Ns mainGlobals mg->(∀z∈(["_law_loads_so","_law_numbers_so","law"]:Gc Str).zip ts,TabAt (K w.params) z.1 z.2)/\All w (K w.params) mg):PySem.W.WalkO q loose XP (PySem.W.kmHook K as ea ts).says l.row.toRowW d [] (λf vs=>PySem.call f vs):=by
 refine kl (x:="_law_script") (k:=14) (Fn0:=Nr) ((["_law_loads_so","_law_numbers_so","law"]:Gc Str).zip ts) hn hdf ⟨rfl,by decide,by decide⟩ (λw h Y=>⟨Y.1,λz hz=>Y.2 _ (vK hz).2⟩) nd (λw mg fa h KX G hmg=>?_) λns hns=>by rw[hl];exact dQ ns hns
 obtain⟨hT,T⟩:=F w mg h KX G
 refine⟨λz hz=>⟨hT z hz,U3 (by rw[<-ea];exact na _ (vK hz).2)⟩,?_⟩
 obtain⟨f,fd,F,hm⟩:=T.ER.ex
 rw[hd]at hmg
 have e:=hmg.symm.trans hm
 cases e
 refine⟨fd,λs v=>?_,λbase _ _ bm=>fH (P:=l.prog) (w:=w) (base:=base) F hm bm T⟩
 obtain⟨oc,od,kV,doc,pm,an,cdv,ct,osl,hfd,_⟩:=F.ex
 subst hfd
 exact .of_eq rfl
end Mi
end
noncomputable section
structure PySem.W.Fast:Prop where
 (tw11381037177023322396 tw9018784867451458953 tw16423896197496391109 tw254632536999056084 tw17929986575544901540 tw4498134280180241379 tw16744532218714211048 tw10303019570358857848 tw489299118252398757 tw3478767423024364949 tw5204929894632424245 tw3223263418708005186 tw16709288446351943695 tw9256238332516825872 tw6487888368722017549 tw6695163630111089208 tw3226462408755816348 tw3679478755676192286 tw17297967266575098227 tw6655415131066780046 tw3728337913920159547 tw17856076486447964198 tw14896593849610000725 tw4561311005132155723 tw5636080735729755457 tw820640547822802130 tw2344800543818630841 tw7809977529028948405 tw9095468186004650388 tw15328618189033260192 tw16333519440718151662 tw5215068728790514795 tw12124044950104432735 tw5885766045737288478 tw3031493974293012231 tw9952982313720638468 tw2273764594645397767 tw14956330268832593328 tw1367423709453729933 tw14819456373094266285 tw3997426273728737008 tw1782598096376914659 tw392388252068272442 tw3720737840905586673 tw11158253425714757146 tw11262830114787698758 tw10669199332584125841 tw4904804964296044585 tw9644667464424640726 tw1251994748434269399 tw13836398410764420406 tw13323677769718021899 tw6515266297284863456 tw4824513525963400715 tw2685412030001997315 tw1411472849793311766 tw1595156512326459305 tw10291655542659207135 tw17648285241507178467 tw13629854567705293348 tw11692430418442622523 tw14134461113945333499 tw3894928106242417128 tw12511349361721342504 tw1495151897821925901 tw17151262627295226847 tw7614006075870758284 tw4663819600000161677 tw13963898679878298831 tw6129094565821876412 tw10532547204711972149 tw15200370900637394299 tw17171336349624724565 tw10818476372139557538 tw17912030053622466564 tw3360381679830171628 tw8413204029794138629 tw9845186685362926712 tw12603922466825559329 tw11773013342190277832 tw14723357893040644055 tw15351964445777544837 tw7289735204247065766 tw15896462859262915624 tw13652746788413033386 tw15782786927496530038 tw15963804772929583321 tw3870215135549578273 tw11302286277093900011 tw15524841670192232887 tw15775630991392982405 tw16045180864172306977 tw2762048317967470218 tw16119093237757189342 tw4733074775480496897 tw10781510487766203860 tw3843121817792009483 tw13985172307900108802 tw2637111459334429177 tw8686050648548750922 tw16437142256339109385 tw4023728549433961851 tw14759846673327451743 tw2053962958074458139 tw8467217891860876286 tw12749634736798751516 tw6417199715744352496 tw10192851109306681952 tw17827402918906146282 tw8972747892306492400 tw9901528377838656260 tw5093400721010731874 tw16948730143108714761 tw9151474032484838485 tw7528975870562913431 tw667208975824582734 tw2247962650348649199 tw8641466744937504454 tw10745767242582304117 tw11089366656955312591 tw2749612299596708113 tw17346356486288290653 tw10958819637034748937 tw16430744291616203012 tw17992810606089560517 tw17356713449218365947 tw2240693258407209081 tw6264160770646004757 tw1484621424487518839 tw7414126169706120154 tw13987381404605148689 tw5854072479476731100 tw2428974929866798072 tw15470263626240854379
 tw2149663202279131284 tw4063477787568804645 tw1657343032504465116 tw1675429857781122330 tw4763809026816932739 tw3870285773701546175 tw9639037071915946176 tw6814887809533196610 tw12120469958557318753 tw1195562945492519613 tw2769490095348895523 tw2294527472845374373 tw8630731786232870401 tw17792674093356540975 tw716998748141274750 tw1836082891419378988 tw14744615488197550723 tw5881681490911411982 tw12151508867787375819 tw1383033046518527468 tw1681944396770604686 tw16622230231137232354 tw1303800506118050134 tw10263866035344464125 tw4922717119053959635 tw228073496605197259 tw4126798115065769379 tw2157442314318747237 tw5646579649532928127 tw4319448989341152948 tw15725993866026966524 tw1840065146618846532 tw77212635445413703 tw14922090946572836760 tw16187803005122822216 tw2799162257620421073 tw13940501822273989585 tw5062439164647109174 tw11961202403426944739 tw11366867683330119470 tw15298367140164722656 tw7658247315024311649 tw4203001398049248377 tw1408253244714676313 tw17802848713411221813 tw16558132547109508755 tw10950086725030416565 tw11692324924028243355 tw9557075306632509097 tw17414102917173779804 tw7841212071254681603 tw827983430805982164 tw17714138184863672413 tw7896965239075621815 tw12447569139919660866 tw15490202008127808907 tw11948638282421796931 tw10242005476936946088 tw15420535962850657104 tw7562884239594715037 tw6357413801153698368 tw1314768704993340171 tw6424366804764992216 tw11917715808690678858 tw916970908686630188 tw7214991004933427151 tw2483656577665899882 tw9289605788054489355 tw2153149368442161215 tw6413097789058995524 tw17518701573904736702 tw1682460857506593147 tw3546122278591611636 tw5131567473420680352 tw7804285799841814028 tw14917423560007465388 tw7678990235696664724 tw7905950141779130481 tw2079146840277634976 tw7003298800607576153 tw10970375293279459102 tw10403863588841914455 tw11651930332948711960 tw16859904536959550682 tw10850510003369672882 tw17642844561874386827 tw2794792660009789401 tw7832234101023012922 tw15059123954291491006 tw3349541059402949305 tw16376888844984273937 tw8269936546079562281 tw8637410766255722565 tw2834801983252863588 tw11702688615439532964 tw10928672085190285127 tw5836967455128723876 tw2574263116607680120 tw17636626999748308867 tw16617119414261074939 tw11150778653997320901 tw7059536057795105760 tw17228420909264367111 tw4569876396193592648 tw12759475332879365611 tw7929460601041659899 tw12682914168161572929 tw934467345745306566 tw16678708332892048306 tw14982397835271436598 tw18310304528645112571 tw18142856303743967001 tw15008164567395222976 tw2335424887497330970 tw2194522433024095085 tw10497108306941679445 tw16002468341301816024 tw1518867968712061034 tw5893353480080241545 tw5949531714589354223 tw15532467486240417282 tw10337010355577346583 tw4589510357397470398 tw3684030426698007357 tw5718041155184907811 tw3838524470738987421 tw14463634944809147540 tw5701412284808630073 tw13658481597904853773 tw7401463911862773838 tw69446426690000074 tw16986501093591103207 tw16485322033927056181 tw17301405701238886936 tw7410914239885355853
 tw14324461338520454489 tw17637020219075649737 tw15901157811794583191 tw8205435897063157588 tw7229374790803511270 tw8156406424144660721 tw17895908541144018335 tw10535165434327079679 tw16188479325983054294 tw10711505440003300084 tw13044599833260954828 tw13878810127067357221 tw6486576334341548214 tw8327397157604998694 tw8886165924669318921 tw11924616867826527103 tw12420050274957728085 tw15803138871065910493 tw7888139830073190485 tw8384598198958376306 tw9216558589068849577 tw6101626507872015610 tw4207736752348309578 tw1912300325332453945 tw14838139804288872816 tw13945264330335575766 tw9947751805295335991 tw2207983457741166401 tw6643032665659352715 tw10790944212408745846 tw11117222036075439465 tw4654880970053078101 tw10422098218815114429 tw9340388799850891636 tw14853507101308274413 tw210358202039682199 tw11318758604009680587 tw5501242993138630488 tw9621914156764865399 tw4826023953666237108 tw16541468808938000008 tw16399423245916114599 tw5420819931788819837 tw17914810702765170994 tw2531429556970829750 tw17745035666606650457 tw12392679529666771686 tw11378710120067627978 tw15983708375524094538 tw16740369110986600172 tw2270531066897261513 tw12328337308069229439 tw11145271054733517142 tw16734681020171356686 tw14762808106260635795 tw4015731215431700942 tw9554339983483297493 tw10165367366019177237 tw9438441368432264669 tw14850113306517836506 tw7185958113685945091 tw2343520924760620605 tw10787677531411233701 tw4398060644150623086 tw12253007227849327857 tw8926547811528978829 tw8025362837720136868 tw3947874446683634522 tw12101294653144024383 tw3615510295115888419 tw4245249816384119086 tw9546461182144986831 tw6941109953644656640 tw4195746344044029180 tw15604115411761733170 tw9359866053989252537 tw13486580971945170041 tw14318609475687099892 tw6484151820132098458 tw18263845811488605554 tw11635798355164078242 tw3568018961235670285 tw14126485976296167225 tw12380555018204565750 tw15705175806149478723 tw12277413196262752255 tw6348494832253618989 tw1927996657825442994 tw1492297608196998923 tw14570556220088792175 tw9942081679103502132 tw9687175464018679868 tw14697197807951353692 tw9159052744222741568 tw7277175210606215706 tw1508900839088018290 tw15845800176672789655 tw12949606445065452117 tw3684342314102846170 tw38137556481923731 tw4092605838627792345 tw7062751697033572632 tw5154606276604234433 tw5502000069586549294 tw419711538717319525 tw11329392293640760965 tw15915868859928272293 tw12594548750302451721 tw11226731885381941066 tw16751774496443559480 tw4082371625486645217 tw5653669803103724206 tw17124419984025937473 tw1224526872008133609 tw9562189334593339904 tw8860763805465349128 tw3676650141384595348 tw15031908980491063768 tw6199302354718222331 tw4927905610568867644 tw8071172681482013370 tw18122795442219692988 tw9160937596274862539 tw13381164637418584168 tw10799686436058821142 tw9937555212769842109 tw4365808396628743990 tw4485908987297145396 tw15646343856481114855 tw8767780316036901372 tw8460641483334344961 tw16849532699177497961 tw15046486972516780458 tw12482563906827198345
 tw8632933279470420435 tw6934902684054413849 tw18015610744765247055 tw11470722634092788337 tw8538400346392605888 tw8907644163821813095 tw13974229671603345254 tw6564918133334713782 tw12501886869604351500 tw16658442915602674858 tw1776968356240213806 tw17396558926232722976 tw6833056822883448731 tw6236561650095186737 tw3252468152290249671 tw13507425673948385686 tw3631754641343290644 tw4041043835538576785 tw5152446797913731012 tw3892101349402104514 tw3379569609979384637 tw10520011903390064014 tw7907452719341823791 tw1585858838411227032 tw4875552072346129774 tw11005062194601038335 tw18135171094975198800 tw12514456776852933980 tw4520670431770010455 tw4938252251818438988 tw8653365152867177818 tw5435944304642462807 tw5233583837849115740 tw4016486395765988013 tw11769578337566769385 tw13080948174301241994 tw15497673963467491683 tw11357028999874796443 tw16492482982003209916 tw1783354023687939103 tw8610117661247763734 tw3336369404329196148 tw13755463164879019631 tw7304553741572576239 tw11763266905267801392 tw13935656407003925915 tw6670017705247782127 tw4357537748319691643 tw6963559039587058219 tw15210671765316732099 tw8035654525862695172 tw11171843443378721464 tw13457699532387029140 tw16534260222517093146 tw6381481129900390178 tw13154392028200211814 tw1175230901007035760 tw9325701122637884232 tw3281083365092548329 tw12393145530382411650 tw842499274824602205 tw3594716699425989826 tw2499068982123625424 tw16884933561476301506 tw16317795101344047061 tw15909970680244091165 tw7980422710794158660 tw7111952085443279694 tw12894805339475722599 tw328643480361249770 tw6280545071488893891 tw9318996520242167744 tw16656259159743379592 tw14734723482350733557 tw11587737370357724768 tw12964436696357679460 tw11294364307071929647 tw5948800349266913092 tw14199782455255666292 tw13299514555645553418 tw2330033136897146035 tw17764659470275390125 tw12061170904627529184 tw6297769254180621401 tw1850136431101362620 tw6946341664617835092 tw4204962303083712245 tw3041162442347917293 tw10832867447470950914 tw15280192648952065487 tw15446024015975562933 tw599310614766081580 tw7636961930586527081 tw12026930490599471258 tw9590326827567497207 tw18155218639821817291 tw1718068507451111518 tw11711226550807595561 tw9131495276094181758 tw1331518165278268670 tw3528261051602274179 tw6889838281412955409 tw4647688610366892604 tw11419331241688753760 tw3469112013210688892 tw11575348683186481295 tw3768788961975107511 tw10000865700629887686 tw18076490010108127200 tw9873424547280857231 tw18236440603936076415 tw604600619355653272 tw7726477553053628131 tw2436243797446864657 tw8549374606750673864 tw17284253563280502107 tw11297622628731155463 tw15364608788943999219 tw17391062673849527136 tw8319975363755309551 tw9129238418243087263 tw14728080749987397500 tw1775428451437639442 tw4864484289352887441 tw8085087937622166173 tw8959787133216428061 tw13622145267380035367 tw341764545970619392 tw13598824985667161196 tw9639969223990230896 tw17712335947282289811 tw12394416049365291208 tw13959526252020021689 tw10441777102998531906
 tw8570479159802937567 tw14043806819102158298 tw11816694593880352951 tw14707867972103591604 tw16615975375614874381 tw7158555818698244082 tw12301794890158280805 tw680356901928016901 tw12897884949948503917 tw1486620345265061110 tw9019873583646050301 tw7820386919097145588 tw7445364531895735033 tw12626327238389149022 tw17446551499402636790 tw18404350682706540576 tw14595475650963945196 tw11765095207684768884 tw10457797708167701394 tw4955916752752690217 tw10276051386247005498 tw8361388305668410476 tw1941095856147056469 tw5585122323910986784 tw6825632197385967544 tw16895665302416047686 tw4702470800452542790 tw2224237618998209700 tw10250640277068252421 tw11300939562750509467 tw18032522363315445273 tw1782138759861382782 tw8625080860407510924 tw4024972098728346197 tw7400475128117231402 tw18023456332241467834 tw4710849500194326135 tw16621502744189461393 tw8328532838404582360 tw11560221246460951352 tw12738604632101941841 tw9464440853407682533 tw292375866019296130 tw11589176338258024517 tw14843706679204505587 tw3087689672777558511 tw651942684074771207 tw13694443201074244294 tw3576794065609247902 tw5318160182552745631 tw12260976635367149396 tw444568602391140434:y8)
open PySem PySem.W PyProof.Rows
set_option maxRecDepth 100000 in
set_option maxHeartbeats 0 in
theorem PySem.Challenge.cw_sharetrail_k13_loads_refused_holds : PySem.Challenge.rw_sharetrail_k13_loads_refused.Holds := by
 w_on;o_law;k_head;(case hw=>w_witness2)
 k_fill
 refine Mi.walk (l:=PySem.Challenge.rw_sharetrail_k13_loads_refused) rfl rfl (by decide) (by decide) rfl rfl ?F
 case F=>
  intro w mg h KX G
  refine⟨?T,?_⟩
  case T=>
   intro z hz
   rcases List.mem_cons.mp hz with e|hz
   .subst e
    refine' Mi.VD ?t1 ?t2 ?t3 ?t4 ?t5 ?t6 ?t7 ?t8 ?t9 ?t10 ?t11 ?t12
    (case t1=>k_is)
    (case t2=>k_is)
    (case t3=>rfl)
    (case t4=>k_is)
    (case t5=>rfl)
    (case t6=>rfl)
    (case t7=>rfl)
    (case t8=>rfl)
    (case t9=>rfl)
    (case t10=>rfl)
    (case t11=>rfl)
    (case t12=>decide)
   rcases List.mem_cons.mp hz with e|hz
   .subst e
    refine' Mi.VD ?t1x ?t2x ?t3x ?t4x ?t5x ?t6x ?t7x ?t8x ?t9x ?t10x ?t11x ?t12x
    (case t1x=>k_is)
    (case t2x=>k_is)
    (case t3x=>rfl)
    (case t4x=>k_is)
    (case t5x=>rfl)
    (case t6x=>rfl)
    (case t7x=>rfl)
    (case t8x=>rfl)
    (case t9x=>rfl)
    (case t10x=>rfl)
    (case t11x=>rfl)
    (case t12x=>decide)
   rcases List.mem_cons.mp hz with e|hz
   .subst e
    refine' Mi.VD ?t1xx ?t2xx ?t3xx ?t4xx ?t5xx ?t6xx ?t7xx ?t8xx ?t9xx ?t10xx ?t11xx ?t12xx
    (case t1xx=>k_is)
    (case t2xx=>k_is)
    (case t3xx=>rfl)
    (case t4xx=>k_is)
    (case t5xx=>rfl)
    (case t6xx=>rfl)
    (case t7xx=>rfl)
    (case t8xx=>rfl)
    (case t9xx=>rfl)
    (case t10xx=>rfl)
    (case t11xx=>rfl)
    (case t12xx=>decide)
   cases hz
  have dw:Mi.WM (L2.KOf KX) mg "ALL" Mi.Xn:=by
   dsimp only[L2.KOf]
   refine' Mi.Qw KX G ?e ?r
   (case e=>k_is)
   case r=>
    refine' Mi.Nk ?l ?z ?r
    (case l=>k_is)
    (case z=>decide)
    case r=>
     refine' Paired.cons ?_ ?_
     .exact Mi.NA
     refine' Paired.cons ?_ ?_
     .exact Mi.NA
     exact Paired.nil
  have TZ:Mi.WM (L2.KOf KX) mg "FLOWS" Mi.Ln:=by
   dsimp only[L2.KOf]
   refine' Mi.Qw KX G ?e ?r
   (case e=>k_is)
   case r=>
    refine' Mi.Nk ?l ?z ?r
    (case l=>k_is)
    (case z=>decide)
    case r=>
     refine' Paired.cons ?_ ?_
     .exact Mi.F6
     refine' Paired.cons ?_ ?_
     .exact Mi.F6
     refine' Paired.cons ?_ ?_
     .exact Mi.F6
     refine' Paired.cons ?_ ?_
     .exact Mi.F6
     refine' Paired.cons ?_ ?_
     .exact Mi.F6
     refine' Paired.cons ?_ ?_
     .exact Mi.F6
     exact Paired.nil
  have Q2:Mi.WM (L2.KOf KX) mg "MAKERS" Mi.BX:=by
   dsimp only[L2.KOf]
   refine' Mi.Qw KX G ?e ?r
   (case e=>k_is)
   case r=>
    refine' Mi.Nk ?l ?z ?r
    (case l=>k_is)
    (case z=>decide)
    case r=>
     refine' Paired.cons ?_ ?_
     .exact Mi.F6
     refine' Paired.cons ?_ ?_
     .exact Mi.F6
     refine' Paired.cons ?_ ?_
     .exact Mi.F6
     refine' Paired.cons ?_ ?_
     .exact Mi.F6
     exact Paired.nil
  have OI:Mi.WM (L2.KOf KX) mg "NOTHING" Mi.Fc:=by
   dsimp only[L2.KOf]
   refine' Mi.Qw KX G ?e ?r
   (case e=>k_is)
   case r=>
    refine' Mi.Nk ?l ?z ?r
    (case l=>k_is)
    (case z=>decide)
    case r=>
     refine' Paired.cons ?_ ?_
     .exact Mi.NA
     refine' Paired.cons ?_ ?_
     .exact Mi.NA
     exact Paired.nil
  have Qf:Mi.XcD (L2.KOf KX) mg "NoLoad":=by
   dsimp only[L2.KOf]
   refine' Mi.aN KX G ?xce ?xcq
   (case xce=>k_is)
   (case xcq=>k_exc)
  have Mr:Mi.XcD (L2.KOf KX) mg "NoNumber":=by
   dsimp only[L2.KOf]
   refine' Mi.aN KX G ?xce ?xcq
   (case xce=>k_is)
   (case xcq=>k_exc)
  have K1:Mi.XcD (L2.KOf KX) mg "NoPartner":=by
   dsimp only[L2.KOf]
   refine' Mi.aN KX G ?xce ?xcq
   (case xce=>k_is)
   (case xcq=>k_exc)
  have Ll:Mi.XiR (L2.KOf KX) mg "NotDone" "TrailError" "NotDone.__init__" Mi.Ea:=by
   dsimp only[L2.KOf]
   refine' Mi.fm KX G ?j1 ?j2 ?j3 ?jn ?jm ?j5 ?je ?j7 ?j8 ?j9 ?j10 ?j11 ?j12 ?j13 ?jl ?jo ?jc ?jk
   (case j1=>k_is)
   (case j2=>k_is)
   (case j3=>k_is)
   (case jn=>k_is)
   (case jm=>simp)
   (case j5=>k_is)
   (case je=>k_exc)
   (case j7=>k_is)
   (case j8=>k_is)
   (case j9=>k_is)
   (case j10=>k_is)
   (case j11=>k_is)
   (case j12=>k_is)
   (case j13=>k_is)
   (case jl=>k_is)
   (case jo=>rfl)
   (case jc=>k_is)
   (case jk=>k_is)
  have Ge:Mi.XmD (L2.KOf KX) mg ["NotDone","NoNumber","NoPartner","NoLoad"] "NoLoad":=by
   dsimp only[L2.KOf]
   refine' Mi.Q6 KX G ?xme ?xmt
   (case xme=>k_is)
   case xmt=>
    refine' Mi.Ey ?xma ?xmb ?xmc ?_
    (case xma=>k_is)
    (case xmb=>kts_exm)
    (case xmc=>decide)
    refine' Mi.Ey ?xma ?xmb ?xmc ?_
    (case xma=>k_is)
    (case xmb=>kts_exm)
    (case xmc=>decide)
    refine' Mi.Ey ?xma ?xmb ?xmc ?_
    (case xma=>k_is)
    (case xmb=>kts_exm)
    (case xmc=>decide)
    refine' Mi.Ey ?xma ?xmb ?xmc ?_
    (case xma=>k_is)
    (case xmb=>kts_exm)
    (case xmc=>decide)
    exact Mi.all_nil
  have ES:Mi.XmD (L2.KOf KX) mg ["NotDone","NoNumber","NoPartner","NoLoad"] "NoNumber":=by
   dsimp only[L2.KOf]
   refine' Mi.Q6 KX G ?xme ?xmt
   (case xme=>k_is)
   case xmt=>
    refine' Mi.Ey ?xma ?xmb ?xmc ?_
    (case xma=>k_is)
    (case xmb=>kts_exm)
    (case xmc=>decide)
    refine' Mi.Ey ?xma ?xmb ?xmc ?_
    (case xma=>k_is)
    (case xmb=>kts_exm)
    (case xmc=>decide)
    refine' Mi.Ey ?xma ?xmb ?xmc ?_
    (case xma=>k_is)
    (case xmb=>kts_exm)
    (case xmc=>decide)
    refine' Mi.Ey ?xma ?xmb ?xmc ?_
    (case xma=>k_is)
    (case xmb=>kts_exm)
    (case xmc=>decide)
    exact Mi.all_nil
  have Df:Mi.XmD (L2.KOf KX) mg ["NotDone","NoNumber","NoPartner","NoLoad"] "NoPartner":=by
   dsimp only[L2.KOf]
   refine' Mi.Q6 KX G ?xme ?xmt
   (case xme=>k_is)
   case xmt=>
    refine' Mi.Ey ?xma ?xmb ?xmc ?_
    (case xma=>k_is)
    (case xmb=>kts_exm)
    (case xmc=>decide)
    refine' Mi.Ey ?xma ?xmb ?xmc ?_
    (case xma=>k_is)
    (case xmb=>kts_exm)
    (case xmc=>decide)
    refine' Mi.Ey ?xma ?xmb ?xmc ?_
    (case xma=>k_is)
    (case xmb=>kts_exm)
    (case xmc=>decide)
    refine' Mi.Ey ?xma ?xmb ?xmc ?_
    (case xma=>k_is)
    (case xmb=>kts_exm)
    (case xmc=>decide)
    exact Mi.all_nil
  have Fd:Mi.XmD (L2.KOf KX) mg ["NotDone","NoNumber","NoPartner","NoLoad"] "NotDone":=by
   dsimp only[L2.KOf]
   refine' Mi.Q6 KX G ?xme ?xmt
   (case xme=>k_is)
   case xmt=>
    refine' Mi.Ey ?xma ?xmb ?xmc ?_
    (case xma=>k_is)
    (case xmb=>kts_exm)
    (case xmc=>decide)
    refine' Mi.Ey ?xma ?xmb ?xmc ?_
    (case xma=>k_is)
    (case xmb=>kts_exm)
    (case xmc=>decide)
    refine' Mi.Ey ?xma ?xmb ?xmc ?_
    (case xma=>k_is)
    (case xmb=>kts_exm)
    (case xmc=>decide)
    refine' Mi.Ey ?xma ?xmb ?xmc ?_
    (case xma=>k_is)
    (case xmb=>kts_exm)
    (case xmc=>decide)
    exact Mi.all_nil
  have z_abs:mg "abs"=none:=by
   refine' PySem.W.mg_none_of KX G ?z
   (case z=>k_is)
  have z_all:mg "all"=none:=by
   refine' PySem.W.mg_none_of KX G ?z
   (case z=>k_is)
  have z_bool:mg "bool"=none:=by
   refine' PySem.W.mg_none_of KX G ?z
   (case z=>k_is)
  have z_enumerate:mg "enumerate"=none:=by
   refine' PySem.W.mg_none_of KX G ?z
   (case z=>k_is)
  have z_int:mg "int"=none:=by
   refine' PySem.W.mg_none_of KX G ?z
   (case z=>k_is)
  have z_isinstance:mg "isinstance"=none:=by
   refine' PySem.W.mg_none_of KX G ?z
   (case z=>k_is)
  have z_len:mg "len"=none:=by
   refine' PySem.W.mg_none_of KX G ?z
   (case z=>k_is)
  have z_list:mg "list"=none:=by
   refine' PySem.W.mg_none_of KX G ?z
   (case z=>k_is)
  have z_min:mg "min"=none:=by
   refine' PySem.W.mg_none_of KX G ?z
   (case z=>k_is)
  have z_range:mg "range"=none:=by
   refine' PySem.W.mg_none_of KX G ?z
   (case z=>k_is)
  have z_sorted:mg "sorted"=none:=by
   refine' PySem.W.mg_none_of KX G ?z
   (case z=>k_is)
  have z_sum:mg "sum"=none:=by
   refine' PySem.W.mg_none_of KX G ?z
   (case z=>k_is)
  have z_tuple:mg "tuple"=none:=by
   refine' PySem.W.mg_none_of KX G ?z
   (case z=>k_is)
  have z_zip:mg "zip"=none:=by
   refine' PySem.W.mg_none_of KX G ?z
   (case z=>k_is)
  refine⟨⟨z_abs,z_all,z_bool,z_enumerate,z_int,z_isinstance,z_len,z_list,z_min,z_range,z_sorted,z_sum,z_tuple,z_zip⟩,dw,TZ,Q2,OI,Qf,Mr,K1,Ll,Ge,ES,Df,Fd,?_,?_,?_,?_,?_,?_,?_,?_,?_,?_,?_,?_,?_,?_,?_,?_,?_,?_,?_,?_,?_,?_,?_,?_,?_,?_,?_,?_,?_,?_,?_,?_,?_,?_,?_,?_,?_,?_,?_,?_,?_,?_,?_,?_,?_,?_,?_,?_,?_,?_,?_,?_,?_,?_,?_,?_,?_,?_,?_,?_,?_,?_,?_,?_,?_,?_,?_,?_,?_,?_,?_,?_,?_,?_,?_,?_,?_,?_,?_,?_,?_,?_,?_,?_,?_⟩
  all_goals (refine' Mi.gR KX G ?a ?l ?c ?k;(case a=>k_is);(case l=>k_is);(case c=>k_is);(case k=>k_is))
end
