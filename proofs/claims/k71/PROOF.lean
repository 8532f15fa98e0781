import PyProof.Rows.All
import Wide.All
import OpenK.AllK
import Wide.FinOn
import Lean
import PyProof.EqAt
import PyProof.EqKinds
import PyProof.TupleCall
import PyProof.Draws
import PyProof.EnumMake
import PyProof.EnumFor
import PyProof.ZipIter
import PyProof.ListMulRoad
import PyProof.NeData
import PyProof.SumWalkG
import KE.KSortedM
import KE.KItemsList
import PyProof.ExcInit
import PyProof.InstStoreFacts
import PyProof.RulesAs
import PySem.Challenge.RW_sharetrail_k71_a_leader_deed_by_deed
set_option Elab.async false
set_option linter.all false
set_option maxRecDepth 100000
set_option maxHeartbeats 4000000
set_option exponentiation.threshold 10000
set_option compiler.extract_closed false
open _root_ renaming List->Wp,Option->uR,of_decide_eq_true->ur,if_neg->vB,if_pos->vC,decide_eq_true_eq->vV,Bool->vZ,beq_eq_false_iff_ne->vb,or_false->ve,False->wH,beq_iff_eq->wI,decide_eq_true->xO,String->xq,decide_eq_false->yJ,Array->yo,if_true->zf,True->AAI,if_false->AAN,not_or->AAo,beq_self_eq_true->AAy,decide_eq_true_iff->ACO,autoParam->zn
open Array renaming getElem?_eq_some_iff->xT,getElem?_setIfInBounds_ne->zS,length_toList->zy,find?_toList->AB9
open Bool renaming and_eq_true->ub,false_ne_true->vY,or_eq_true->vv,eq_iff_iff->we,noConfusion->wq,or_eq_true_iff->xF,not_eq_true'->xn,and_false->AAS,false_eq_true->ACG
open False renaming elim->vX
open ForInStep renaming yield->zt
open Int renaming toNat_of_nonneg->vd,mul_pos->vy,natAbs_natCast->wt,emod_nonneg->xg,toNat_natCast->xh,natAbs_mul->yB,emod_lt_of_pos->yG,lt_of_lt_of_le->yI,le_of_lt->zH,mul_le_mul_of_nonneg_right->zd,add_le_of_le_sub_right->AAR,lt_of_le_of_lt->AAb,mul_ediv_cancel_left->AAp,sub_self->AA7,min_eq_left->ABI,ofNat_toNat->ABJ,natCast_mul->ABM,natCast_nonneg->ACD
open Lean renaming TSyntax->ABC,MacroM->ABl
open Lean.Syntax renaming mkApp->zP
open List renaming getElem?_eq_getElem->uS,getElem?_append_left->uT,getElem?_set_ne->uV,mem_cons_of_mem->uW,mem_cons->uY,getElem?_eq_some_iff->ua,getElem?_set_self->uh,mem_cons_self->uk,getElem?_map->um,replicate->uo,size_toArray->uq,not_mem_nil->uu,mem_of_getElem?->uv,map_cons->uw,getElem?_concat_length->uy,getD_eq_getElem?_getD->uz,range->u6,mem_append->vD,length_cons->vG,getElem?_append_right->vI,nil_append->vK,length_map->vN,drop_eq_getElem_cons->vP,mem_singleton->vQ,mem_map->vS,lookup_cons->vT,cons_append->vU,mem_append_right->vW,filterMap_cons->vc,prefix_rfl->vj,lookup->vk,length_append->vp,append_nil->vt,drop_eq_nil_of_le->vz,map_map->wC,map_nil->wF,replicate_succ->wJ,length_set->wU,map_append->wV,of_mem_zip->wc,sum_cons->wu,nodup_cons->xD,any_cons->xJ,prefix_append->xS,contains_cons->xU,mem_iff_getElem?->xV,mem_or_eq_of_mem_set->xX,find?_cons->xZ,length_nil->xf,flatten_cons->xk,getElem_mem->yD,map_set->yH,mem_filter->yK,all_cons->yN,length_filter_le->yS,getElem?_inj->yW,nodup_append->yX,length->ya,take_length->yh,getElem?_zip_eq_some->yk,getElem?_range->yn,map_take->yv,lookup_append->yx,getElem?_replicate->y7,append_assoc->zJ,take_of_length_le->zL,mem_range'_1->zQ,length_take->zV,mem_append_left->zh,getElem?_zipWith_eq_some->zp,zipWith->AAC,mem_range->AAJ,mapM_cons->AAV,getElem_range->AAY,ext_getElem?->AAk,getElem?_take_of_lt->AAl,length_drop->AAv,ext_getElem->AA1,forIn_cons->ABL,length_singleton->ABS,set_append_right->ABU,getElem?_eq_none->ABV,forIn_nil->ABZ,take_succ->ABc,drop_eq_nil_iff->ABe,set_append_left->ABm,mem_of_mem_take->ABn,length_pos_iff->ABv,mem_filterMap->AB8,foldl->ACE
open List.MergeSort.Internal renaming splitInTwo->ACN
open Nat renaming lt_of_lt_of_le->uU,le_trans->uZ,le_refl->uc,ne_of_lt->vE,lt_of_le_of_lt->vJ,pow_le_pow_right->vM,mul_le_mul_right->vf,lt_irrefl->v8,zero_le->wL,le_succ_of_le->xB,lt_or_ge->xo,mul_comm->yF,min_eq_left->yL,le_of_succ_le->yV,le_of_lt->yd,pos_of_ne_zero->yy,ne_of_gt->zA,min_le_right->zW,gcd->AAB,mul_le_mul->AAZ,one_lt_two_pow->AAa,le_succ->AAf,mul_pos->AAj,mul_assoc->AAq,lt_succ_self->AAs,add_comm->AA9,gcd_comm->ABD,pow_succ->ABE,sub_succ_lt_self->ABf,mul_le_mul_left->AB2
open Ne renaming symm->vh
open Option renaming some->Gc,map_eq_some_iff->xG,bind_some->AA0,map->ACI
open Option.some renaming inj->wR
open PyProof.Rows renaming envOfC->u4,slot_tuple_getitem->vg,callWith_type1->yT,joinParts_cons->yZ,IntsAre->yq,AllBare->yz,assignInOrder_cons->AAK,subscriptTail_builtinR->AA6,entry_tuple_getitem->ABs,args_tuple_getitem->ACC,formatField_int_small->ACK
open PyProof.Rows.IsTup renaming new->yl
open PySem renaming wpAny_bind->uP,Value->uX,starEach->ue,Addr->uf,wpAny_pure->ug,Shared->ui,Stmt->vH,mem_of_lookup->vR,Program->va,Expr->vi,wpAny_mono->vo,Heap->vq,wpAny_holding->vw,wpAny_Call_Name_kw->wD,World->wG,wpAny_field->wM,wpAny_callSpecial?_slot->wW,Scope->wX,wpAny_pyIter_list->wZ,wpAny_call_entry->wk,wpAny_pyIter_tuple->wm,Around->wy,wpAny_truthy_bool->w9,wpAny_newObj_type->xA,wpAny_standAt->xH,sizeLine_eq->xI,wpAny_setField_rec->xR,wpAny_passesOwn->xY,wpAny_call->xt,IsPair->xv,wpAny_execs_cons->xy,wpAny_setField->x8,wpAny_getItem_str_slice->x9,wpAny_loadPart_at->yY,wpAny_seqItems->yb,codeAny_mono->yf,wpAny_binaryOp_repeat_ref->yj,ExceptHandler->yt,strLen_append->yu,wpAny_execs_nil->yw,DictEntry->y9,wpAny_pyNext_list_item->zB,FuncData->zE,Builtin->zK,plainObj_wpAny_Assign_Attribute->zR,wpAny_pyNext_list_end->zT,typeIs_int->zX,call_meets->zY,wpAny_updateSeq_pair->zl,codeAny_call_builtin->zm,boot_len->zo,post_val_or_str->zx,wpAny_newFunctionEnv_cells->AAM,IsZip->AAT,wpAny_Return_some->AAd,Keyword->AAg,wpAny_comprehension_free->AAm,wpAny_onRaise->AAn,NameKind->AAt,noFill_tuple_add->AAu,wpAny_rule->AA3,IsPart->AA4,wpAny_typeOf->AA5,typeIs_str->AA8,wpAny_pyIter_listiter->ABP,codeAny_call_function->ABQ,codeAny_handlers_test->ABT,wpAny_letGo->ABa,intBits_le_iff->ABd,wpAny_newFunctionEnv->ABh,wpAny_Tuple_spliced->ABr,wpAny_handleBy_cons->ABx,wpAny_isSubtype_exc->ABz,seq_tuple_add->AB3,wpAny_attempt->AB4
open PySem.Around renaming frames_deeper->ABX
open PySem.AutoSeq1 renaming wpAny_loadPart'->u9
open PySem.Builtin.List renaming listTooLong->wN
open PySem.Builtin.ObjectAttr renaming storeInDict->zc
open PySem.Builtin.Slice renaming slicePlaces->xW,sliceAdjust->yi,sliceApplied->AAO
open PySem.Builtin.SmallTypes renaming nextOf->vO,ownedTupleIsFree->wO,ownedTupleHandOut->ym
open PySem.Builtin.Tuple renaming tupleExact->xu,tupleItemsOf->AAP,tupleTooMany->AAU
open PySem.Calls renaming spliced_cons->xE,Name_function_global->xK,evalArgs_plain->xj,loadGlobal_global->y0,callWith_builtin->zI,spliced_nil->z7
open PySem.Challenge renaming pw_sharetrail_k71_a_leader_deed_by_deed->zq
open PySem.Code renaming quiet_builtin->ACJ
open PySem.EntryCells renaming newEntry->ABw
open PySem.F renaming slot_tuple_iterator_next->xQ,slot_str_getitem->xw,excBase_ValueError->yA,slot_int_rmul->yM,args_tuple_add_2->yp,entry_tuple_add->y8,slot_tuple_add->zG,slot_dict_get->zU,slot_tuple_mul->zZ,args_tuple_iterator_next_1->zu,slot_zip_next->zw,entry_tuple_iterator_next->z9,args_int_rmul_2->AAh,slot_int_index->AAw,entry_int_rmul->AAx,args_dict_get_3->AAz,entry_dict_get->ABA,fills_int_mul->ABK,slot_list_append->ABR,args_list_extend_2->ABY,entry_list_extend->ABt,slot_list_extend->ACF,args_tuple_mul_2->ACH
open PySem.Heap renaming get?_push_of_some->uQ,lt_size->uj,get?_push_size->ux,get?_update_other->vn,size_push->v5,get?_update_self->wB,SameBut->yE,IsTuple->AAA,ExtBut->AAi,get?_none_of_le->ABW,IsList->ABb,get?_update_ne->AB1
open PySem.Heap.SameBut renaming update->ABu
open PySem.NameKind renaming free->vx,cell->yO
open PySem.Obj renaming mapFields->v9,isFreed_of_fields->wg,data_mapFields->xP,mapSeq->AAQ
open PySem.PyData renaming strOk->yR,canLayAll0->zM,depth->AAD,depthAll->ABO
open PySem.SeqAt.EqAt renaming int_str->AB6,str_int->AB7
open PySem.Shared renaming heap->xl
open PySem.Str renaming ofString->u7,ofString_eq_toList->ABF
open PySem.Txt renaming slice_le->ABB
open PySem.Value renaming ref->u5,none->vL,isStrOf->xp,int->AAE,str->AAF,bool->AAG,type->AAH,builtin->AB5
open PySem.W renaming Frag->W1,findIn->vA,nsIn->vF,keepIn->vm,kia_one->v7,emptyDict->wK,mg_of->wQ,fnOf->wY,callWith_K->wj,envX->wx,instObj->xC,kitOne->xN,mroIn->xr,codeIn->x5,clsIn->yP,methodCall_KW->yQ,hasDictIn->yU,exmOne->yc,plainGet->ye,excIn->yr,InstAt->zC,specialIn->zD,cellsFrom_some->zF,tabObj->zN,kla_fn->zO,Looks->zg,looks_findIn->zk,KeysLit->zv,plainGet_of->z5,looks_clsIn->z6,isFn->z8,lookIn->AAL,isNs_of_in->AAW,tail_of_in->AAX,methodObj->AAc,plainOver->AAe,handedIn->AAr,OpenLaw->AA2,takerIn->ABG,makesIn->ABH,kla_obj->ABN,kla_callFunE->ABg,kla_codeExpr->ABi,nsOkIn->ABj,tailIn->ABk,findObj_own->ABq,callWith_F0->ABy,looks_mroIn->AB0,kitx_tuple->ACA,codeRec_of->ACB,check_slot->ACL
open PySem.codeAmong renaming eq_def->yg
open Rat renaming intCast_eq_zero_iff->yC,mul_le_mul_of_nonneg_right->ze
open Sum renaming inl->ABo,inr->ABp
open True renaming intro->xM
theorem x0T(h:True:=by first|exact .inl rfl|exact .inr rfl|assumption):True:=h
def x0:=x0T._auto_1
theorem xzT(h:True:=by decide):True:=h
def xz:=xzT._auto_1
theorem xLT(h:True:=by intro _;rfl):True:=h
def xL:=xLT._auto_1
theorem wwT(h:True:=by rfl):True:=h
def ww:=wwT._auto_1
theorem wvT(h:True:=by intro _; rfl):True:=h
def wv:=wvT._auto_1
theorem wrT(h:True:=by with_unfolding_all rfl):True:=h
def wr:=wrT._auto_1
theorem wpT(h:True:=by exact λ_ _=>rfl):True:=h
def wp:=wpT._auto_1
theorem wnT(h:True:=by first|exact Or.inl rfl|exact Or.inr rfl):True:=h
def wn:=wnT._auto_1
theorem wfT(h:True:=by first|exact .inl rfl|exact .inr rfl):True:=h
def wf:=wfT._auto_1
theorem wTT(h:True:=by first|exact Or.inl rfl|exact Or.inr (Or.inl rfl)|exact Or.inr (Or.inr rfl)):True:=h
def wT:=wTT._auto_1
theorem wST(h:True:=by decide+kernel):True:=h
def wS:=wST._auto_1
theorem wPT(h:True:=by exact λ_ _ _ _ _ _ _=>rfl):True:=h
def wP:=wPT._auto_1
theorem wET(h:True:=by first|decide|lia):True:=h
def wE:=wET._auto_1
theorem v6T(h:True:=by exact rfl):True:=h
def v6:=v6T._auto_1
theorem v4T(h:True:=by first|exact Or.inl rfl|exact Or.inr (Or.inl rfl)):True:=h
def v4:=v4T._auto_1
theorem u8T(h:True:=by intro _ _ _ _;rfl):True:=h
def u8:=u8T._auto_1
open PyProof.Rows (boot_isinstance boot_int boot_bool boot_tuple boot_str boot_list boot_abs boot_all boot_any boot_sum boot_max boot_min boot_range boot_enumerate boot_zip boot_sorted boot_set boot_divmod)
noncomputable section
namespace L2
open PySem PySem.Spec PyProof.Rows
abbrev Key:=Sum Int Str
noncomputable def Ta:Key->uX->vZ
 | .inl k,v=>Value.isInt k v
 | .inr x,v=>xp x v
noncomputable def sY(w:wG):Key->Int
 | .inl k=>hashInt k
 | .inr x=>hashStr w x
theorem CG:∀{k:Key} {v:uX},Ta k v=true->(∃i t,k=ABo i/\v=AAE i t)\/(∃x t,k=ABp x/\v=AAF x t)
 | .inl i,v,h=>by
   obtain⟨t,e⟩:=Value.isInt_shape (k:=i) (v:=v) h
   exact .inl ⟨i,t,rfl,e⟩
 | .inr x,v,h=>by
   obtain⟨t,e⟩:=Value.isStrOf_shape (x:=x) (v:=v) h
   exact .inr ⟨x,t,rfl,e⟩
def VL(i:Int)(t:Tok):Ta (.inl i) (.int i t)=true:=by simp[Ta,Value.isInt]
def UU(x:Str)(t:Tok):Ta (.inr x) (.str x t)=true:=by simp[Ta,xp]
def jw(a b:Int):decide ((ABo a:Key)=ABo b)=(a==b):=by
 by_cases e:a=b
 .subst e;simp
 .have h:¬(ABo a:Key)=ABo b:=λq=>e (Sum.inl.inj q)
  rw[yJ h]
  exact(vb.mpr e).symm
def iq(a b:Str):decide ((ABp a:Key)=ABp b)=decide (a=b):=by
 by_cases e:a=b
 .subst e;simp
 .have h:¬(ABp a:Key)=ABp b:=λq=>e (Sum.inr.inj q)
  rw[yJ h,yJ e]
def fL(a:Int)(b:Str):decide ((ABo a:Key)=ABp b)=false:=yJ (λq=>nomatch q)
def fW(a:Str)(b:Int):decide ((ABp a:Key)=ABo b)=false:=yJ (λq=>nomatch q)
noncomputable def Cf(prog:va)(w:wG):PySem.KeyKind prog w Key where
 is:=Ta
 hash:=sY w
 inj:=λv a b ha hb=>by
  rcases CG ha with⟨i,t,rfl,rfl⟩|⟨x,t,rfl,rfl⟩
  .rcases CG hb with⟨j,u,rfl,e⟩|⟨y,u,rfl,e⟩
   .injection e with e1 _;rw[e1]
   .exact nomatch e
  .rcases CG hb with⟨j,u,rfl,e⟩|⟨y,u,rfl,e⟩
   .exact nomatch e
   .injection e with e1 _;rw[e1]
 byValue:=λk v h=>by
  rcases CG h with⟨i,t,rfl,rfl⟩|⟨x,t,rfl,rfl⟩<;>rfl
 pyHash:=λhv h=>by
  rcases CG hv with⟨i,t,rfl,rfl⟩|⟨x,t,rfl,rfl⟩
  .exact wpAny_pyHash_int h
  .exact wpAny_pyHash_str h
 eqBool:=λhu hv h=>by
  rcases CG hu with⟨i,t,rfl,rfl⟩|⟨x,t,rfl,rfl⟩
  .rcases CG hv with⟨j,u,rfl,rfl⟩|⟨y,u,rfl,rfl⟩
   .rw[jw]at h;exact wpAny_eqBool_int h
   .rw[fL]at h;exact AB6 i t y u _ _ _ _ h
  .rcases CG hv with⟨j,u,rfl,rfl⟩|⟨y,u,rfl,rfl⟩
   .rw[fW]at h;exact AB7 x t j u _ _ _ _ h
   .rw[iq]at h;exact wpAny_eqBool_str h
 «strs» :=λk x t v h=>by
  rcases CG h with⟨i,u,rfl,e⟩|⟨y,u,rfl,e⟩
  .exact nomatch e
  .injection e with e1 _
   subst e1
   cases v<;>rfl
def QO prog w(i:Int)(t:Tok):(Cf prog w).is (.inl i) (.int i t)=true:=VL i t
def Qx prog w(x:Str)(t:Tok):(Cf prog w).is (.inr x) (.str x t)=true:=UU x t
end L2
namespace L2
open PySem PySem.Spec PyProof.Rows
inductive V where
 |non|bl (b:vZ)|int (i:Int)|str (x:Str)|byt (b:yo UInt8)|flt (b:UInt64)|ref (a:uf)|ty (n:xq)
 deriving DecidableEq
def RelV:V->uX->Prop
 | .non,u=>u=vL
 | .bl b,u=>u=AAG b
 | .int i,u=>∃t,u=AAE i t
 | .str x,u=>∃t,u=AAF x t
 | .byt b,u=>∃t,u=Value.bytes b t
 | .flt b,u=>∃t,u=Value.float b t
 | .ref a,u=>u=u5 a
 | .ty n,u=>u=AAH n
abbrev Vals:Wp V->Wp uX->Prop:=Paired RelV
def Vals.length{xs:Wp V}{us:Wp uX}(r:Vals xs us):xs.length=us.length:=Paired.length r
theorem Vals.get:∀{xs} {us} {i:Nat} {x:V},Vals xs us->xs[i]?=Gc x->∃u,us[i]?=Gc u/\RelV x u
 |_,_,_,_,.nil,e=>by simp at e
 |_,_,0,_,.cons r _,e=>by simp at e;subst e;exact⟨_,rfl,r⟩
 |_,_,i+1,x,.cons _ t,e=>by
  obtain⟨u,h1,h2⟩:=Vals.get (i:=i) (x:=x) t (by simpa using e)
  exact⟨u,by simpa using h1,h2⟩
theorem Vals.set(r:RelV x u):∀{xs} {us} i,Vals xs us->Vals (xs.set i x) (us.set i u)
 |_,_,_,.nil=>.nil
 |_,_,0,.cons _ t=>.cons r t
 |_,_,i+1,.cons q t=>.cons q (Vals.set r i t)
theorem Vals.append:∀{xs ys:Wp V} {us ws:Wp uX},Vals xs us->Vals ys ws->Vals (xs++ys) (us++ws)
 |_,_,_,_,.nil,s=>s
 |_,_,_,_,.cons r t,s=>.cons r (Vals.append t s)
theorem Vals.take:∀{xs} {us} (n:Nat),Vals xs us->Vals (xs.take n) (us.take n)
 |_,_,0,_=>.nil
 |_,_,_+1,.nil=>.nil
 |_,_,n+1,.cons r t=>.cons r (Vals.take n t)
theorem Vals.drop:∀{xs} {us} (n:Nat),Vals xs us->Vals (xs.drop n) (us.drop n)
 |_,_,0,r=>r
 |_,_,_+1,.nil=>.nil
 |_,_,n+1,.cons _ t=>Vals.drop n t
def OY:uR V->uR uX->Prop
 |some v,Gc u=>RelV v u
 |none,none=>AAI
 |_,_=>wH
def KV{κ:Type}:Wp (κ×V)->Wp (κ×uX)->Prop:=Paired λ(p:κ×V) (q:κ×uX)=>p.1=q.1/\RelV p.2 q.2
noncomputable def kV:Key->V
 | .inl i=>.int i
 | .inr x=>.str x
inductive HO where
 |lst (xs:Wp V)
 |tup (xs:Wp V)
 |dK (kvs:Wp (Key×V))|dT (kvs:Wp (Wp Key×V))
 |set (S:Int->vZ) (n:Nat)
 |ins (C dx:uf) (fs:Wp (Str×V))
 |own (x:uf)
 |xd (fs:Wp (Str×V))
 |met (f x:uf)
 |rng (lo hi:Int)
 |frz (o:Obj) (u:HO)
 |tbl (ps:yo uX)
 |ext (φ:vq->Prop)
abbrev Hp:=uf->uR HO
noncomputable def upd(H:Hp)(a:uf)(o:HO):Hp:=λb=>if b=a then Gc o else H b
def AX{o:HO}:upd H a o a=Gc o:=by unfold upd;rw[vC rfl]
def AM{o:HO}(h:b≠a):upd H a o b=H b:=by unfold upd;rw[vB h]
def BC{H:Hp}{o:HO}(h:H a=Gc o)(h':H b=none):a≠b:=by
 intro e;subst e;rw[h]at h';cases h'
section
variable(P:va)(w:wG)
def CT(H:Hp)(h:vq)(a:uf):HO->Prop
 | .lst xs=>xs.length<=sizeLine/\∃(its:Wp uX) (n:Nat),Vals xs its/\h.get? a=Gc {cls:=.type "list",data:=.seq its.toArray n}
 | .tup xs=>xs.length<=sizeLine/\∃its:Wp uX,Vals xs its/\IsTup h a its.toArray
 | .dK kvs=>kvs.length<=sizeLine/\(a==sysModules)=false/\∃vs,KV kvs vs/\h.DictOf (Cf P w) a vs
 | .dT kvs=>kvs.length<=sizeLine/\(a==sysModules)=false/\∃xs:Wp (Wp Key×uf×uX),
    Paired (λ(p:Wp Key×V) (q:Wp Key×uf×uX)=>p.1=q.1/\H q.2.1=Gc (.tup (p.1.map kV))/\RelV p.2 q.2.2) kvs xs/\
    ∃o es ep,h.get? a=Gc o/\o.ExactDict/\o.data=.dict es ep/\es.toList=xs.map (entryOfKey (tupleKind (Cf P w)))/\(xs.map (·.1)).Nodup
 | .set S n=>h.SetOf (intKind P w) a S n
 | .ins C dx fs=>H dx=Gc (.own a)/\fs.length<=1000/\dx≠a/\h.get? a=Gc (xC C dx)/\
    ∃mA,h.Ns1 dx mA/\(∀f,OY (fs.lookup f) (mA f))/\PySem.Within mA (fs.map (·.1))
 | .own _=>∃o,h.get? a=Gc o
 | .xd fs=>∃mA,h.Ns1 a mA/\∀f,OY (fs.lookup f) (mA f)
 | .rng lo hi=>∃t u v,h.get? a=Gc {cls:=.type "range",data:=.fields #[.int lo t,.int hi u,.int 1 v]}
 | .frz o u=>h.get? a=Gc o/\CT H h a u
 | .tbl ps=>h.get? a=Gc {cls:=.none,data:=.fields ps}
 | .met f x=>h.get? a=Gc (AAc (.ref f) (.ref x))
 | .ext φ=>φ h/\(∃o,h.get? a=Gc o)/\∀h1 h2:vq,φ h1->(∀o,h1.get? a=Gc o->h2.get? a=Gc o)->φ h2
def HOk(H:Hp)(h:vq):Prop:=∀a o,H a=Gc o->CT P w H h a o
end
section
variable{P:va}{w:wG}{H H':Hp}{h h':vq}{a:uf}{o:HO}
def CT.lt(x:CT P w H h a o):a<h.objs.size:=by
 cases o with
 |lst xs=>obtain⟨_,_,_,_,e⟩:=x;exact uj e
 |tup xs=>obtain⟨_,_,_,p⟩:=x;exact p.lt
 |dK kvs=>obtain⟨_,_,_,_,o,_,_,e,_⟩:=x;exact uj e
 |dT kvs=>obtain⟨_,_,_,_,o,_,_,e,_⟩:=x;exact uj e
 |set S n=>obtain⟨o,_,_,_,e,_⟩:=x;exact uj e
 |ins C dx fs=>obtain⟨_,_,_,e,_⟩:=x;exact uj e
 |own y=>obtain⟨_,e⟩:=x;exact uj e
 |xd fs=>obtain⟨_,⟨_,_,_,e,_⟩,_⟩:=x;exact uj e
 |rng lo hi=>obtain⟨_,_,_,e⟩:=x;exact uj e
 |frz ob u=>obtain⟨e,_⟩:=x;exact uj e
 |tbl ps=>exact uj (show h.get? a=Gc _ from x)
 |met f y=>exact uj (show h.get? a=Gc _ from x)
 |ext φ=>obtain⟨_,⟨_,e⟩,_⟩:=x;exact uj e
theorem Paired.qN{α β:Type}{F G:α->β->Prop}:∀{l₁} {l₂:Wp β},Paired F l₁ l₂->(∀a b,F a b->G a b)->Paired G l₁ l₂
 |_,_,.nil,_=>.nil
 |_,_,.cons r t,f=>.cons (f _ _ r) (Paired.qN t f)
def CT.Rh(x:CT P w H h a o)(k:∀b u,(b=a\/H b=Gc (.own a))->h.get? b=Gc u->h'.get? b=Gc u)(ho:∀b,H b=Gc (.own a)->H' b=Gc (.own a))(ht:∀b xs,H b=Gc (.tup xs)->H' b=Gc (.tup xs)):CT P w H' h' a o:=by
 induction o with
 |lst xs=>obtain⟨z,its,n,r,e⟩:=x;exact⟨z,its,n,r,k _ _ (.inl rfl) e⟩
 |tup xs=>obtain⟨z,its,r,ob,e,c⟩:=x;exact⟨z,its,r,ob,k _ _ (.inl rfl) e,c⟩
 |dK kvs=>obtain⟨z,y,vs,r,ob,es,ep,e,c⟩:=x;exact⟨z,y,vs,r,ob,es,ep,k _ _ (.inl rfl) e,c⟩
 |dT kvs=>
  obtain⟨z,y,xs,r,ob,es,ep,e,c⟩:=x
  exact⟨z,y,xs,Paired.qN r λp q z=>⟨z.1,ht _ _ z.2.1,z.2.2⟩,ob,es,ep,k _ _ (.inl rfl) e,c⟩
 |set S n=>obtain⟨ob,es,ep,t,e,c⟩:=x;exact⟨ob,es,ep,t,k _ _ (.inl rfl) e,c⟩
 |ins C dx fs=>
  obtain⟨d,z,ne,e,mA,⟨od,es,ep,e2,c⟩,r⟩:=x
  exact⟨ho _ d,z,ne,k _ _ (.inl rfl) e,mA,⟨od,es,ep,k _ _ (.inr d) e2,c⟩,r⟩
 |own y=>obtain⟨ob,e⟩:=x;exact⟨ob,k _ _ (.inl rfl) e⟩
 |xd fs=>obtain⟨mA,⟨od,es,ep,e,c⟩,r⟩:=x;exact⟨mA,⟨od,es,ep,k _ _ (.inl rfl) e,c⟩,r⟩
 |rng lo hi=>obtain⟨t,u,v,e⟩:=x;exact⟨t,u,v,k _ _ (.inl rfl) e⟩
 |frz ob u ih=>obtain⟨e,q⟩:=x;exact⟨k _ _ (.inl rfl) e,ih q⟩
 |tbl ps=>
  have e:h.get? a=Gc {cls:=.none,data:=.fields ps}:=x
  show h'.get? a=Gc {cls:=.none,data:=.fields ps}
  exact k a _ (.inl rfl) e
 |met f y=>
  have e:h.get? a=Gc (AAc (.ref f) (.ref y)):=x
  show h'.get? a=Gc (AAc (.ref f) (.ref y))
  exact k a _ (.inl rfl) e
 |ext φ=>obtain⟨p,⟨o,e⟩,st⟩:=x;exact⟨st _ _ p λo q=>k _ _ (.inl rfl) q,⟨o,k _ _ (.inl rfl) e⟩,st⟩
def HOk.lt(x:HOk P w H h)(e:H a=Gc o):a<h.objs.size:=(x a o e).lt
def HOk.fresh(x:HOk P w H h)(e:h.objs.size<=a):H a=none:=by
 cases q:H a with
 |none=>rfl
 |some u=>exact absurd (uU (x.lt q) e) (v8 _)
def HOk.kept(x:HOk P w H h)(k:∀b u,h.get? b=Gc u->h'.get? b=Gc u):HOk P w H h':=λa o e=>
 (x a o e).Rh (λb u _ q=>k b u q) (λ_ q=>q) λ_ _ q=>q
def HOk.laid(x:HOk P w H h)(k:∀b u,h.get? b=Gc u->h'.get? b=Gc u)(hp:h.objs.size<=a)(new:CT P w (upd H a o) h' a o):HOk P w (upd H a o) h':=λb u e=>by
 have hn:=x.fresh hp
 by_cases hb:b=a
 .subst hb;rw[AX]at e;cases e;exact new
 .rw[AM hb]at e
  exact(x b u e).Rh (λc v _ q=>k c v q) (λc q=>by rw[AM (BC q hn)];exact q) λc xs q=>by rw[AM (BC q hn)];exact q
end
def Rd(H:Hp)(a:uf)(u:HO):Prop:=H a=Gc u\/∃o,H a=Gc (.frz o u)
def Rd.ok(r:Rd H a u)(x:HOk P w H h):CT P w H h a u:=by
 rcases r with r|⟨o,r⟩
 .exact x a u r
 .obtain⟨_,q⟩:=x a _ r
  exact q
def Mut:uR HO->Prop
 |some (.lst _)=>AAI
 |some (.dK _)=>AAI
 |some (.dT _)=>AAI
 |some (.set _ _)=>AAI
 |some (.ins _ _ _)=>AAI
 |some (.ext _)=>AAI
 |_=>wH
section
variable{P:va}{w:wG}{H:Hp}{h h':vq}{x e:uf}{o':HO}
def HOk.write(ok:HOk P w H h)(mu:Mut (H x))(he:e=x\/H e=Gc (.own x))(k:∀b u,b≠e->h.get? b=Gc u->h'.get? b=Gc u)(heo:∃u,h'.get? e=Gc u)(new:CT P w (upd H x o') h' x o'):HOk P w (upd H x o') h':=λb u q=>by
 have nown:∀c y,H c=Gc (.own y)->c≠x:=λc y r z=>by subst z;rw[r]at mu;exact mu
 have ntup:∀c xs,H c=Gc (.tup xs)->c≠x:=λc xs r z=>by subst z;rw[r]at mu;exact mu
 by_cases hb:b=x
 .subst hb;rw[AX]at q;cases q;exact new
 .rw[AM hb]at q
  by_cases hbe:b=e
  .have q':H b=Gc (.own x):=by
    rcases he with z|z
    .exact absurd (hbe.trans z) hb
    .rw[hbe];exact z
   rw[q]at q';cases q'
   obtain⟨v,hv⟩:=heo
   exact⟨v,by rw[hbe];exact hv⟩
  .refine(ok b u q).Rh (λc v hc r=>k c v ?_ r) (λc r=>by rw[AM (nown c b r)];exact r) λc xs r=>by rw[AM (ntup c xs r)];exact r
   rcases hc with rfl|hc
   .exact hbe
   .rintro rfl
    rcases he with z|z
    .exact nown c b hc z
    .rw[hc]at z;cases z;exact hb rfl
end
structure Un(fs ex:Wp uf)(H H':Hp)(h h':vq):Prop where
 keep:∀b o,h.get? b=Gc o->H b=none->b∉fs->b∉ex->h'.get? b=Gc o
 slot:∀b o,h.get? b=Gc o->H b=none->b∈fs->b∉ex->∃sl,h'.get? b=Gc {o with slots:=sl}
 free:∀b o,h.get? b=Gc o->H b=none->b∉ex->H' b=none
 there:∀b o,h.get? b=Gc o->b∉ex->∃o',h'.get? b=Gc o'
 T5:∀b xs,H b=Gc (.tup xs)->H' b=Gc (.tup xs)
 R5:∀b o u,H b=Gc (.frz o u)->H' b=Gc (.frz o u)
 TC:∀b ps,H b=Gc (.tbl ps)->∃more,H' b=Gc (.tbl (ps++more))
section
variable{fs fs' ex ex':Wp uf}{H H1 H2:Hp}{h h1 h2 h':vq}{a x e:uf}{o:HO}
def Un.any(u:Un fs ex H H1 h h1){b:uf}{ob:Obj}(q:h.get? b=Gc ob)(n:H b=none)(hx:b∉ex):∃sl,h1.get? b=Gc {ob with slots:=sl}:=by
 by_cases hb:b∈fs
 .exact u.slot b ob q n hb hx
 .exact⟨ob.slots,u.keep b ob q n hb hx⟩
def Un.kept(k:∀b u,h.get? b=Gc u->h'.get? b=Gc u):Un fs ex H H h h':=
 ⟨λb ob q _ _ _=>k b ob q,λb ob q _ _ _=>⟨ob.slots,k b ob q⟩,λ_ _ _ n _=>n,λb ob q _=>⟨ob,k b ob q⟩,λ_ _ q=>q,λ_ _ _ q=>q,λ_ ps q=>⟨#[],by rw[q];simp⟩⟩
def Un.refl:Un fs ex H H h h:=Un.kept λ_ _ q=>q
theorem Un.laid(k:∀b u,h.get? b=Gc u->h'.get? b=Gc u)(hp:h.objs.size<=a)(hn:H a=none):Un fs ex H (upd H a o) h h' where
 keep:=λb u q _ _ _=>k b u q
 slot:=λb u q _ _ _=>⟨u.slots,k b u q⟩
 free:=λb u q n _=>by rw[AM (vE (uU (uj q) hp))];exact n
 there:=λb u q _=>⟨u,k b u q⟩
 T5:=λb xs q=>by rw[AM (BC q hn)];exact q
 R5:=λb u xs q=>by rw[AM (BC q hn)];exact q
 TC:=λb ps q=>⟨#[],by rw[AM (BC q hn),q];simp⟩
def Un.write(mu:Mut (H x))(he:e=x\/H e=Gc (.own x))(k:∀b u,b≠e->h.get? b=Gc u->h'.get? b=Gc u)(heo:∃u,h'.get? e=Gc u):Un fs ex H (upd H x o) h h':=by
 have hx:∀b,H b=none->b≠x:=λb n z=>by subst z;rw[n]at mu;exact mu
 have hb:∀b,H b=none->b≠e:=λb n z=>by
  subst z
  rcases he with r|r
  .exact hx b n r
  .rw[n]at r;cases r
 have hm:∀b u,H b=Gc u->¬Mut (Gc u)->b≠x:=λb u q nm z=>by subst z;rw[q]at mu;exact nm mu
 refine⟨λb u q n _ _=>k b u (hb b n) q,λb u q n _ _=>⟨u.slots,k b u (hb b n) q⟩,λb u q n _=>by rw[AM (hx b n)];exact n,λb u q _=>?_,
  λb xs q=>by rw[AM (hm b _ q λz=>z)];exact q,λb u xs q=>by rw[AM (hm b _ q λz=>z)];exact q,λb ps q=>⟨#[],by rw[AM (hm b _ q λz=>z),q];simp⟩⟩
 by_cases hbe:b=e
 .subst hbe;exact heo
 .exact⟨u,k b u hbe q⟩
end
noncomputable def trk(h:vq)(H:Hp):Wp uf:=(u6 h.objs.size).filter λa=>(H a).isSome
noncomputable def Wn(h:vq)(H:Hp):vq:=PySem.W.hideAll h (trk h H)
def V4(h:vq)(H:Hp):(Wn h H).objs.size=h.objs.size:=PySem.W.hideAll_size _ _
def W2{o:Obj}(e:h.get? b=Gc o)(n:H b=none):(Wn h H).get? b=Gc o:=
 PySem.W.hideAll_get _ e λhm=>by
  have q:(H b).isSome=true:=(yK.mp hm).2
  rw[n]at q;simp at q
def Z4{o:Obj}(e:(Wn h H).get? b=Gc o):h.get? b=Gc o/\H b=none:=by
 have e':h.get? b=Gc o:=PySem.W.of_hideAll (trk h H) e
 refine⟨e',?_⟩
 cases q:H b with
 |none=>rfl
 |some x=>
  have hm:b∈trk h H:=yK.mpr ⟨AAJ.mpr (uj e'),by simp[q]⟩
  have z:(Wn h H).get? b=none:=PySem.W.hideAll_none (trk h H) hm
  rw[z]at e;cases e
noncomputable def b9(g h:vq)(L:uf):Wp (uf×Obj):=(u6 h.objs.size).filterMap λa=>if a=L\/(g.get? a).isSome=true then none else(h.get? a).map λo=>(a,o)
noncomputable def rest(g h:vq)(L d:uf):Wp (uf×Obj):=(b9 g h L).filter λp=>decide (p.1≠d)
end L2
namespace L2
open PySem PySem.Spec PyProof.Rows
structure Mod(K:W1)(mg:Str->uR uX)(base:vq):Prop where
 kin:K.In base
 glob:base.Ns mainGlobals mg
 blt:∃mb,base.Ns builtinsNs mb/\∀x:Str,x≠ "__name__"->mb x=bootBuiltins x
 nolimit:base.NoLimit
structure Cx where
 prog:va
 w:wG
 K:W1
 mg:Str->uR uX
 base:vq
 A:wy
 N:Wp Str
 s₀:ui
 H₀:Hp
 env:Env
 outer:Wp Env
 stack:Wp Env
 ex:Wp uf
 fn:Str->vZ
 calm:vZ
 pn:Wp (uf×Obj)
 xe:uX->ui->Prop
noncomputable def frs(l:Wp Env):Wp uf:=l.filterMap (·.frame)
abbrev Cx.fs(X:Cx):Wp uf:=frs X.outer
def Vis(sc:wX)(x:Str):Prop:=sc.names.lookup x=Gc .local\/sc.names.lookup x=Gc .cell\/sc.names.lookup x=Gc .free
def Loc(sc:wX)(x:Str):Prop:=sc.names.lookup x=Gc .local\/sc.names.lookup x=Gc .cell
def Look(env:Env)(h:vq)(m:Str->uR uX)(x:Str)(u:uX):Prop:=
 (env.kindOf x=Gc .local/\m x=Gc u)\/((env.kindOf x=Gc .cell\/env.kindOf x=Gc .free)/\∃c,env.cells.lookup x=Gc c/\h.IsCell c (Gc u))
structure Cx.Ok(X:Cx):Prop where
 mod:Mod X.K X.mg X.base
 kind:X.env.scope.kind=.function
 glob:X.env.globals=mainGlobals
 blt:X.env.builtins=builtinsNs
 above:X.s₀.heap.objs.size<=X.env.locals
 inj:∀x y c,X.env.cells.lookup x=Gc c->X.env.cells.lookup y=Gc c->x=y
 has:∀x,(X.env.kindOf x=Gc .cell\/X.env.kindOf x=Gc .free)->∃c,X.env.cells.lookup x=Gc c
 cab:∀x c,X.fn x=true->X.env.cells.lookup x=Gc c->X.s₀.heap.objs.size<=c
 hd:X.calm=true->X.A.handled=none
 frames:X.A.frames=Gc X.stack
 stk:X.stack=X.outer\/(X.stack=X.env::X.outer/\X.env.frame=Gc X.env.locals)
 exf:∀b∈X.ex,b≠X.env.locals/\∀x c,X.env.cells.lookup x=Gc c->c≠b
 bs:∀b o,X.base.get? b=Gc o->X.s₀.heap.get? b=Gc o/\X.H₀ b=none
 bsz:X.base.objs.size<=X.s₀.heap.objs.size
 Zb:∀b o,X.base.get? b=Gc o->b∉X.ex
 dI:∀b∈X.ex,b∉X.fs
 QS:X.s₀.heap.FunFrames X.base X.outer
 frf:∀b∈X.fs,X.H₀ b=none
structure Inv(X:Cx)(pins:Wp (uf×Obj))(σ:Wp (uR V))(H:Hp)(s:ui):Prop where
 ok:X.Ok
 os:s.os=X.s₀.os
 bare:yz s.gens
 base:Un X.fs X.ex X.H₀ H X.s₀.heap s.heap
 loc:∃m,s.heap.Ns X.env.locals m/\∀(i:Nat) (x:Str) (v:V),X.N[i]?=Gc x->σ[i]?=Gc (Gc v)->Vis X.env.scope x->∃u,RelV v u/\Look X.env s.heap m x u
 cell:∀x c,X.env.cells.lookup x=Gc c->∃v,s.heap.IsCell c v
 free:H X.env.locals=none
 HP:∀x c,X.env.cells.lookup x=Gc c->H c=none
 pin:∀p∈X.pn++pins,s.heap.get? p.1=Gc p.2/\H p.1=none/\p.1≠X.env.locals/\p.1∉X.fs/\∀v,p.2.data≠.cell v
 hok:HOk X.prog X.w H s.heap
 len:σ.length=X.N.length
section
variable{X:Cx}{pins:Wp (uf×Obj)}{σ:Wp (uR V)}{H H':Hp}{s:ui}{h':vq}
def Cx.Ok.sC(ok:X.Ok){b:uf}{o:Obj}(e:X.base.get? b=Gc o):b∉X.fs:=λhb=>by
 have:=(ok.QS.mem hb).1
 rw[e]at this;cases this
def Inv.bs(I:Inv X pins σ H s):∀b o,X.base.get? b=Gc o->s.heap.get? b=Gc o/\H b=none:=λb o e=>
 ⟨I.base.keep b o (I.ok.bs b o e).1 (I.ok.bs b o e).2 (I.ok.sC e) (I.ok.Zb b o e),I.base.free b o (I.ok.bs b o e).1 (I.ok.bs b o e).2 (I.ok.Zb b o e)⟩
def Inv.bk(I:Inv X pins σ H s):∀b o,X.base.get? b=Gc o->s.heap.get? b=Gc o:=λb o e=>(I.bs b o e).1
def Inv.mod(I:Inv X pins σ H s):Mod X.K X.mg X.base:=I.ok.mod
def Inv.kIn(I:Inv X pins σ H s):X.K.In s.heap:=I.ok.mod.kin.keeps I.bk
def Inv.nolimit(I:Inv X pins σ H s):s.heap.NoLimit:=I.ok.mod.nolimit.keeps I.bk
def Inv.lt(I:Inv X pins σ H s):X.env.locals<s.heap.objs.size:=let⟨_,hn,_⟩:=I.loc;hn.lt
def Inv.sz(I:Inv X pins σ H s):X.s₀.heap.objs.size<=s.heap.objs.size:=uZ I.ok.above (yd I.lt)
def Inv.tq(I:Inv X pins σ H s){a:uf}(h:s.heap.objs.size<=a):a∉X.fs:=λhb=>by
 obtain⟨_,o,ho,_⟩:=I.ok.QS.mem hb
 exact absurd (uU (uj ho) (uZ I.sz h)) (v8 _)
def Inv.cne(I:Inv X pins σ H s):∀x c,X.env.cells.lookup x=Gc c->c≠X.env.locals:=λx c e z=>by
 obtain⟨v,o,ho,hd⟩:=I.cell x c e
 obtain⟨m,⟨o',es,ep,ho',hd',_⟩,_⟩:=I.loc
 rw[z,ho']at ho;cases ho;rw[hd']at hd;cases hd
def Inv.QS(I:Inv X pins σ H s):s.heap.FunFrames X.base X.outer:=by
 have all:∀(l:Wp Env),(∀b∈frs l,b∈X.fs)->X.s₀.heap.FunFrames X.base l->s.heap.FunFrames X.base l:=by
  intro l
  induction l with
  |nil=>intro _ _;trivial
  |cons env r ih=>
   intro hs hl
   obtain⟨hk,⟨L,o,hf,hn,ho,hd⟩,hr⟩:=hl
   have hL:L∈X.fs:=hs L (by unfold frs;rw[vc,hf];exact uk)
   obtain⟨sl,e⟩:=I.base.slot L o ho (I.ok.frf L hL) hL λz=>I.ok.dI L z hL
   exact⟨hk,⟨L,_,hf,hn,e,hd⟩,ih (λb hb=>hs b (by unfold frs;rw[vc,hf];exact uW _ hb)) hr⟩
 exact all X.outer (λ_ hb=>hb) I.ok.QS
def Inv.stack(I:Inv X pins σ H s):s.heap.FunFrames X.base X.stack:=by
 rcases I.ok.stk with e|⟨e,hf⟩
 .rw[e];exact I.QS
 .rw[e]
  obtain⟨m,hn,_⟩:=I.loc
  refine .cons (by rw[I.ok.kind];decide) hf hn ?_ I.QS
  exact ABW (uZ I.ok.bsz I.ok.above)
def Inv.U4(I:Inv X pins σ H s):∀b∈frs X.stack,b∈X.env.locals::X.fs:=λb hb=>by
 rcases I.ok.stk with e|⟨e,hf⟩
 .rw[e]at hb;exact uW _ hb
 .rw[e]at hb
  unfold frs at hb
  rw[vc,hf]at hb
  exact hb
def Inv.Qu(I:Inv X pins σ H s):∀b∈frs X.stack,H b=none:=λb hb=>by
 rcases uY.mp (I.U4 b hb)with e|hb
 .rw[e];exact I.free
 .obtain⟨_,o,ho,_⟩:=I.ok.QS.mem hb
  exact I.base.free b o ho (I.ok.frf b hb) λz=>I.ok.dI b z hb
def Inv.step{ch:Wp uf}(I:Inv X pins σ H s)(hch:∀b∈ch,(b∈X.ex\/X.s₀.heap.objs.size<=b)/\b≠X.env.locals/\(∀x c,X.env.cells.lookup x=Gc c->c≠b)/\∀p∈X.pn++pins,p.1≠b)(keep:∀b o,b≠X.env.locals->b∉X.fs->b∉ch->s.heap.get? b=Gc o->H b=none->h'.get? b=Gc o)(slot:∀b o,b≠X.env.locals->b∈X.fs->b∉ch->s.heap.get? b=Gc o->H b=none->∃sl,h'.get? b=Gc {o with slots:=sl})(free:∀b o,b∉ch->s.heap.get? b=Gc o->H b=none->H' b=none)(there:∀b o,b∉ch->s.heap.get? b=Gc o->∃o',h'.get? b=Gc o')(T5:∀b xs,H b=Gc (.tup xs)->H' b=Gc (.tup xs))(R5:∀b o u,H b=Gc (.frz o u)->H' b=Gc (.frz o u))(TC:∀b ps,H b=Gc (.tbl ps)->∃more,H' b=Gc (.tbl (ps++more)))(ns:∀m,s.heap.Ns X.env.locals m->h'.Ns X.env.locals m)(hok:HOk X.prog X.w H' h')(hg:yz g'):Inv X pins σ H' {s with heap:=h',gens:=g',drawn:=d',toks:=t'}:=by
 have neL:∀b o,X.s₀.heap.get? b=Gc o->b≠X.env.locals:=λb o e=>vE (uU (uj e) I.ok.above)
 have neC:∀b o,X.s₀.heap.get? b=Gc o->b∉X.ex->b∉ch:=λb o e hx hb=>by
  rcases(hch b hb).1 with z|z
  .exact hx z
  .exact absurd (uU (uj e) z) (v8 _)
 have cellK:∀x c,X.env.cells.lookup x=Gc c->∀v,s.heap.IsCell c v->h'.IsCell c v:=λx c e v ⟨o,ho,hd⟩=>by
  have nch:c∉ch:=λz=>(hch c z).2.2.1 x c e rfl
  by_cases hc:c∈X.fs
  .obtain⟨sl,q⟩:=slot c o (I.cne x c e) hc nch ho (I.HP x c e)
   exact⟨_,q,hd⟩
  .exact⟨o,keep c o (I.cne x c e) hc nch ho (I.HP x c e),hd⟩
 refine⟨I.ok,I.os,hg,⟨λb o e n hb hx=>?_,λb o e n hb hx=>?_,λb o e n hx=>?_,λb o e hx=>?_,λb xs e=>T5 b xs (I.base.T5 b xs e),λb o xs e=>R5 b o xs (I.base.R5 b o xs e),λb ps e=>?_⟩,?_,λx c e=>?_,?_,λx c e=>?_,λp hp=>?_,hok,I.len⟩
 .exact keep b o (neL b o e) hb (neC b o e hx) (I.base.keep b o e n hb hx) (I.base.free b o e n hx)
 .obtain⟨sl,e1⟩:=I.base.slot b o e n hb hx
  obtain⟨sl',e2⟩:=slot b _ (neL b o e) hb (neC b o e hx) e1 (I.base.free b o e n hx)
  exact⟨sl',e2⟩
 .obtain⟨o',e1⟩:=I.base.there b o e hx
  exact free b o' (neC b o e hx) e1 (I.base.free b o e n hx)
 .obtain⟨o',e1⟩:=I.base.there b o e hx
  exact there b o' (neC b o e hx) e1
 .obtain⟨m1,e1⟩:=I.base.TC b ps e
  obtain⟨m2,e2⟩:=TC b _ e1
  exact⟨m1++m2,by rw[e2,Array.append_assoc]⟩
 .obtain⟨m,hn,hl⟩:=I.loc
  refine⟨m,ns m hn,λi x v e1 e2 e3=>?_⟩
  obtain⟨u,r,l⟩:=hl i x v e1 e2 e3
  refine⟨u,r,?_⟩
  rcases l with l|⟨k,c,e,z⟩
  .exact .inl l
  .exact .inr ⟨k,c,e,cellK x c e _ z⟩
 .obtain⟨v,z⟩:=I.cell x c e
  exact⟨v,cellK x c e v z⟩
 .obtain⟨m,⟨o,_,_,ho,_⟩,_⟩:=I.loc
  exact free _ o (λz=>(hch _ z).2.1 rfl) ho I.free
 .obtain⟨v,o,ho,hd⟩:=I.cell x c e
  exact free c o (λz=>(hch c z).2.2.1 x c e rfl) ho (I.HP x c e)
 .obtain⟨e,n,ne,nf,d⟩:=I.pin p hp
  have nch:p.1∉ch:=λz=>(hch p.1 z).2.2.2 p hp rfl
  exact⟨keep p.1 p.2 ne nf nch e n,free p.1 p.2 nch e n,ne,nf,d⟩
def Inv.un{t':Nat}(I:Inv X pins σ H s)(u:Un X.fs [] H H' s.heap h')(hok:HOk X.prog X.w H' h'):Inv X pins σ H' {s with heap:=h',toks:=t'}:=by
 obtain⟨m,⟨o,es,ep,ho,r⟩,_⟩:=id I.loc
 obtain⟨sl,hL⟩:=u.any ho I.free (by simp)
 exact I.step (g':=s.gens) (d':=s.drawn) (ch:=[]) (λ_ z=>nomatch z) (λb o _ hb _ e n=>u.keep b o e n hb (by simp)) (λb o _ hb _ e n=>u.slot b o e n hb (by simp)) (λb o _ e n=>u.free b o e n (by simp)) (λb o _ e=>u.there b o e (by simp)) u.T5 u.R5 u.TC (λm' hm=>by
  obtain⟨o',es',ep',ho',r'⟩:=hm
  rw[ho]at ho';cases ho'
  exact⟨_,es',ep',hL,r'⟩) hok I.bare
def Inv.call{ch:Wp uf}(I:Inv X pins σ H s)(u:Un (frs X.stack) ch H H' s.heap h')(hok:HOk X.prog X.w H' h')(hg:yz g')(hch:∀b∈ch,(b∈X.ex\/X.s₀.heap.objs.size<=b)/\b≠X.env.locals/\(∀x c,X.env.cells.lookup x=Gc c->c≠b)/\∀p∈X.pn++pins,p.1≠b):Inv X pins σ H' {s with heap:=h',gens:=g',drawn:=d',toks:=t'}:=by
 obtain⟨m,⟨o,es,ep,ho,r⟩,_⟩:=id I.loc
 obtain⟨sl,hL⟩:=u.any ho I.free λz=>(hch _ z).2.1 rfl
 exact I.step (ch:=ch) hch (λb o hL hb hc e n=>u.keep b o e n (λz=>(uY.mp (I.U4 b z)).elim hL hb) hc) (λb o _ _ hc e n=>u.any e n hc) (λb o hc e n=>u.free b o e n hc) (λb o hc e=>u.there b o e hc) u.T5 u.R5 u.TC (λm' hm=>by
  obtain⟨o',es',ep',ho',r'⟩:=hm
  rw[ho]at ho';cases ho'
  exact⟨_,es',ep',hL,r'⟩) hok hg
def Inv.turned{t':Nat}{it:uf}(I:Inv X pins σ H s)(k:∀b o,b≠it->s.heap.get? b=Gc o->h'.get? b=Gc o)(hn:H it=none)(hL:it≠X.env.locals)(h1:it∈X.ex\/X.s₀.heap.objs.size<=it)(h2:∀x c,X.env.cells.lookup x=Gc c->c≠it)(h3:∀p∈X.pn++pins,p.1≠it):Inv X pins σ H {s with heap:=h',toks:=t'}:=by
 have nit:∀b u,H b=Gc u->b≠it:=λb u e z=>by rw[z,hn]at e;cases e
 refine I.step (g':=s.gens) (d':=s.drawn) (ch:=[it]) (λb hb=>?_) (λb o _ _ hc e _=>k b o (λz=>hc (by simp[z])) e) (λb o _ _ hc e _=>⟨o.slots,k b o (λz=>hc (by simp[z])) e⟩) (λ_ _ _ _ n=>n)
  (λb o hc e=>⟨o,k b o (λz=>hc (by simp[z])) e⟩) (λ_ _ e=>e) (λ_ _ _ e=>e) (λb ps e=>⟨#[],by rw[e];simp⟩) (λm hm=>?_) (λb u e=>?_) I.bare
 .have e:b=it:=by simpa using hb
  subst e
  exact⟨h1,hL,h2,h3⟩
 .obtain⟨o,es,ep,ho,r⟩:=hm
  exact⟨o,es,ep,k _ o (vh hL) ho,r⟩
 .refine(I.hok b u e).Rh (λc v hc q=>k c v ?_ q) (λ_ q=>q) λ_ _ q=>q
  rcases hc with z|z
  .rw[z];exact nit b u e
  .exact nit c _ z
def Inv.tok(I:Inv X pins σ H s)(t:Nat):Inv X pins σ H {s with toks:=t}:=I.un (h':=s.heap) (t':=t) Un.refl I.hok
def Inv.kept{t':Nat}(I:Inv X pins σ H s)(k:∀b u,s.heap.get? b=Gc u->h'.get? b=Gc u):Inv X pins σ H {s with heap:=h',toks:=t'}:=I.un (Un.kept k) (I.hok.kept k)
def Inv.laid{a:uf}{t':Nat}(I:Inv X pins σ H s)(k:∀b u,s.heap.get? b=Gc u->h'.get? b=Gc u)(hp:s.heap.objs.size<=a)(new:CT X.prog X.w (upd H a o) h' a o):Inv X pins σ (upd H a o) {s with heap:=h',toks:=t'}:=I.un (Un.laid k hp (I.hok.fresh hp)) (I.hok.laid k hp new)
def Inv.write{t':Nat}(I:Inv X pins σ H s)(mu:Mut (H x))(he:e=x\/H e=Gc (.own x))(k:∀b u,b≠e->s.heap.get? b=Gc u->h'.get? b=Gc u)(heo:∃u,h'.get? e=Gc u)(new:CT X.prog X.w (upd H x o) h' x o):Inv X pins σ (upd H x o) {s with heap:=h',toks:=t'}:=I.un (Un.write mu he k heo) (I.hok.write mu he k heo new)
def Inv.WJ{pins':Wp (uf×Obj)}(I:Inv X pins σ H s)(h:∀p∈pins',s.heap.get? p.1=Gc p.2/\H p.1=none/\p.1≠X.env.locals/\p.1∉X.fs/\∀v,p.2.data≠.cell v):Inv X pins' σ H s:=
 ⟨I.ok,I.os,I.bare,I.base,I.loc,I.cell,I.free,I.HP,λp hp=>(vD.mp hp).elim (λz=>I.pin p (zh _ z)) (h p),I.hok,I.len⟩
def Ra{N:Wp Str}(hN:N.Nodup){i j:Nat}{x:Str}(a:N[i]?=Gc x)(b:N[j]?=Gc x):i=j:=by
 obtain⟨h1,e1⟩:=ua.mp a
 obtain⟨h2,e2⟩:=ua.mp b
 exact(List.getElem_inj hN).mp (e1.trans e2.symm)
def MK(I:Inv X pins σ H s)(hN:X.N.Nodup)(hi:X.N[i]?=Gc x)(hx:Loc X.env.scope x)(r:RelV v u)(h:∀s',Inv X pins (σ.set i (Gc v)) H s'->(∃a,yE a s.heap s'.heap/\(a=X.env.locals\/X.env.cells.lookup x=Gc a))->Q () s')(hf:zn (X.fn x=true\/X.env.scope.names.lookup x=Gc .local) x0):wpAny M A (storeName X.env x u) Q E s:=by
 obtain⟨m,hn,hl⟩:=id I.loc
 have hcls:(X.env.scope.kind== .class||(X.env.scope.kind== .module && X.env.locals !=X.env.globals))=false:=by rw[I.ok.kind];rfl
 have hiσ:i<σ.length:=by rw[I.len];exact(ua.mp hi).1
 have cne:=I.cne
 have tracked:∀{a:uf} {h':vq},(∃o,s.heap.get? a=Gc o/\H a=none)->yE a s.heap h'->HOk X.prog X.w H h':=λ{a h'} ha hs b ob e=>by
  obtain⟨_,_,hfree⟩:=ha
  refine(I.hok b ob e).Rh (λc w' hc q=>(hs.2 c ?_).trans q) (λ_ q=>q) λ_ _ q=>q
  rintro rfl
  rcases hc with rfl|hc
  .rw[hfree]at e;cases e
  .rw[hfree]at hc;cases hc
 rcases hx with hk|hk
 .refine wpAny_storeName_local hk hn (λh' hn' hs=>?_) hcls
  obtain⟨oL,_,_,hoL,_⟩:=id hn
  refine h _ ⟨I.ok,I.os,I.bare,⟨λb o e n hb hx=>?_,λb o e n hb hx=>?_,I.base.free,λb o e hx=>?_,I.base.T5,I.base.R5,I.base.TC⟩,⟨_,hn',λj y v' e1 e2 e3=>?_⟩,λy c e=>?_,I.free,I.HP,λp hp=>?_,tracked ⟨oL,hoL,I.free⟩ hs,by simpa using I.len⟩ ⟨_,hs,.inl rfl⟩
  .exact(hs.2 b (vE (uU (uj e) I.ok.above))).trans (I.base.keep b o e n hb hx)
  .obtain⟨sl,e1⟩:=I.base.slot b o e n hb hx
   exact⟨sl,(hs.2 b (vE (uU (uj e) I.ok.above))).trans e1⟩
  .obtain⟨o',e1⟩:=I.base.there b o e hx
   exact⟨o',(hs.2 b (vE (uU (uj e) I.ok.above))).trans e1⟩
  .by_cases hj:j=i
   .subst hj
    rw[hi]at e1;cases e1
    rw[uh hiσ]at e2
    cases e2
    exact⟨u,r,.inl ⟨hk,by simp⟩⟩
   .rw[uV (vh hj)]at e2
    obtain⟨u',r',q⟩:=hl j y v' e1 e2 e3
    refine⟨u',r',?_⟩
    rcases q with⟨k,e⟩|⟨k,c,e,z⟩
    .refine .inl ⟨k,?_⟩
     have:y≠x:=λe=>hj (Ra hN e1 (e▸hi))
     simp[this,e]
    .exact .inr ⟨k,c,e,z.sameBut hs (cne y c e)⟩
  .obtain⟨w',z⟩:=I.cell y c e
   exact⟨w',z.sameBut hs (cne y c e)⟩
  .obtain⟨e,n,ne,nf,d⟩:=I.pin p hp
   exact⟨(hs.2 p.1 ne).trans e,n,ne,nf,d⟩
 .have hfn:X.fn x=true:=by
   rcases hf with z|z
   .exact z
   .rw[z]at hk;cases hk
  obtain⟨c,hc⟩:=I.ok.has x (.inl hk)
  obtain⟨w',z⟩:=I.cell x c hc
  refine wpAny_storeName_cell I.ok.kind hk hc z (λh' hc' hs=>?_)
  obtain⟨oc,hoc,hocd⟩:=id z
  refine h {s with heap:=h'} ⟨I.ok,I.os,I.bare,⟨λb o e n hb hx=>?_,λb o e n hb hx=>?_,I.base.free,λb o e hx=>?_,I.base.T5,I.base.R5,I.base.TC⟩,⟨m,hn.sameBut hs (vh (cne x c hc)),λj y v' e1 e2 e3=>?_⟩,λy c' e=>?_,I.free,I.HP,λp hp=>?_,tracked ⟨oc,hoc,I.HP x c hc⟩ hs,by simpa using I.len⟩ ⟨c,hs,.inr hc⟩
  .exact(hs.2 b (vE (uU (uj e) (I.ok.cab x c hfn hc)))).trans (I.base.keep b o e n hb hx)
  .obtain⟨sl,e1⟩:=I.base.slot b o e n hb hx
   exact⟨sl,(hs.2 b (vE (uU (uj e) (I.ok.cab x c hfn hc)))).trans e1⟩
  .obtain⟨o',e1⟩:=I.base.there b o e hx
   exact⟨o',(hs.2 b (vE (uU (uj e) (I.ok.cab x c hfn hc)))).trans e1⟩
  .by_cases hj:j=i
   .subst hj
    rw[hi]at e1;cases e1
    rw[uh hiσ]at e2
    cases e2
    exact⟨u,r,.inr ⟨.inl hk,c,hc,hc'⟩⟩
   .rw[uV (vh hj)]at e2
    obtain⟨u',r',q⟩:=hl j y v' e1 e2 e3
    refine⟨u',r',?_⟩
    rcases q with q|⟨k,c',e,z'⟩
    .exact .inl q
    .refine .inr ⟨k,c',e,z'.sameBut hs ?_⟩
     rintro rfl
     exact hj (Ra hN e1 (I.ok.inj _ _ _ e hc▸hi))
  .by_cases hcc:c'=c
   .subst hcc;exact⟨_,hc'⟩
   .obtain⟨w2,z2⟩:=I.cell y c' e
    exact⟨w2,z2.sameBut hs hcc⟩
  .obtain⟨e,n,ne,nf,d⟩:=I.pin p hp
   refine⟨(hs.2 p.1 ?_).trans e,n,ne,nf,d⟩
   intro q
   rw[q,hoc]at e
   have q':oc=p.2:=wR e
   exact d w' (by rw[<-q'];exact hocd)
def LI(I:Inv X pins σ H s)(hN:X.N.Nodup)(hi:X.N[i]?=Gc x)(hx:Loc X.env.scope x)(r:RelV v u)(h:∀s',Inv X pins (σ.set i (Gc v)) H s'->Q () s')(hf:zn (X.fn x=true\/X.env.scope.names.lookup x=Gc .local) x0):wpAny M A (storeName X.env x u) Q E s:=
 MK I hN hi hx r (λs' I' _=>h s' I') hf
def Inv.YQ{s':ui}{ch:Wp uf}(I:Inv X pins σ H s)(ho:s'.os=s.os)(u:Un (frs X.stack) ch H H' s.heap s'.heap)(hok:HOk X.prog X.w H' s'.heap)(hg:yz s'.gens)(hch:∀b∈ch,(b∈X.ex\/X.s₀.heap.objs.size<=b)/\b≠X.env.locals/\(∀x c,X.env.cells.lookup x=Gc c->c≠b)/\∀p∈X.pn++pins,p.1≠b):Inv X pins σ H' s':=by
 obtain⟨h',g',d',t',o'⟩:=s'
 have e:o'=s.os:=ho
 subst e
 exact I.call (g':=g') (t':=t') (d':=d') u hok hg hch
end
abbrev XK:=uX->uR uf->Hp->Prop
abbrev St:=Wp (uR V)
abbrev VK:=V->Hp->Prop
abbrev TE:=St->Hp->VK->Prop
abbrev TT:=St->Hp->(vZ->Hp->Prop)->Prop
abbrev TA:=St->Hp->(Wp V->Hp->Prop)->Prop
structure Ends where
 nx:St->Hp->Prop
 rt:VK
 bk:St->Hp->Prop:=λ_ _=>wH
 ct:St->Hp->Prop:=λ_ _=>wH
abbrev TS:=Ends->St->Hp->Prop
def EP(X:Cx)(pins:Wp (uf×Obj))(σ:St)(Q:VK)(u:uX)(s':ui):Prop:=∃v H',Inv X pins σ H' s'/\RelV v u/\Q v H'
def TP(X:Cx)(pins:Wp (uf×Obj))(σ:St)(Q:vZ->Hp->Prop)(b:vZ)(s':ui):Prop:=∃H',Inv X pins σ H' s'/\Q b H'
def AP(X:Cx)(pins:Wp (uf×Obj))(σ:St)(Q:Wp V->Hp->Prop)(us:Wp uX)(s':ui):Prop:=∃vs H',Inv X pins σ H' s'/\Vals vs us/\Q vs H'
def SP(X:Cx)(pins:Wp (uf×Obj))(D:Ends)(f:Flow)(s':ui):Prop:=
 match f with
 | .next=>∃σ' H',Inv X pins σ' H' s'/\D.nx σ' H'
 | .brk=>∃σ' H',Inv X pins σ' H' s'/\D.bk σ' H'
 | .cont=>∃σ' H',Inv X pins σ' H' s'/\D.ct σ' H'
 | .ret u=>∃v σ' H',Inv X pins σ' H' s'/\RelV v u/\D.rt v H'
def PE(X:Cx)(e:vi)(t:TE):Prop:=
 ∀(pins:Wp (uf×Obj)) (s:ui) (σ:St) (H:Hp) (Q:VK),Inv X pins σ H s->t σ H Q->wpAny (model X.prog X.w) X.A (eval e X.env) (EP X pins σ Q) X.xe s
def PT(X:Cx)(e:vi)(t:TT):Prop:=
 ∀(pins:Wp (uf×Obj)) (s:ui) (σ:St) (H:Hp) (Q:vZ->Hp->Prop),Inv X pins σ H s->t σ H Q->wpAny (model X.prog X.w) X.A (isTrue e X.env (eval e X.env)) (TP X pins σ Q) X.xe s
def PW(X:Cx)(e:vi)(t:TT):Prop:=
 ∀(whole:Sem uX) (pins:Wp (uf×Obj)) (s:ui) (σ:St) (H:Hp) (Q:vZ->Hp->Prop),Inv X pins σ H s->t σ H Q->wpAny (model X.prog X.w) X.A (isTrue e X.env whole) (TP X pins σ Q) X.xe s
def PW.pt{t:TT}(h:PW X e t):PT X e t:=h _
def PA(X:Cx)(es:Wp vi)(t:TA):Prop:=
 ∀(pos:Pos) (pins:Wp (uf×Obj)) (s:ui) (σ:St) (H:Hp) (Q:Wp V->Hp->Prop),Inv X pins σ H s->t σ H Q->wpAny (model X.prog X.w) X.A (spliced (backTo pos (ue es X.env))) (AP X pins σ Q) X.xe s
def PS(X:Cx)(st:vH)(t:TS):Prop:=
 ∀(pins:Wp (uf×Obj)) (s:ui) (σ:St) (H:Hp) (D:Ends),Inv X pins σ H s->t D σ H->wpAny (model X.prog X.w) X.A (exec st X.env) (SP X pins D) X.xe s
def PSs(X:Cx)(st:Wp vH)(t:TS):Prop:=
 ∀(pins:Wp (uf×Obj)) (s:ui) (σ:St) (H:Hp) (D:Ends),Inv X pins σ H s->t D σ H->wpAny (model X.prog X.w) X.A (execs st X.env) (SP X pins D) X.xe s
def thn{t:Sem α}{Q Q':α->ui->Prop}(h:wpAny M A t Q E s)(hQ:∀a s,Q a s->Q' a s):wpAny M A t Q' E s:=vo h hQ λ_ _ x=>x
end L2
namespace L2
open PySem PySem.Spec PyProof.Rows
section
variable{X:Cx}
noncomputable def sN(i:Nat):TE:=λσ H Q=>∃v,σ[i]?=Gc (Gc v)/\Q v H
noncomputable def tC(v:V):TE:=λ_ H Q=>Q v H
def IZ{pos:Pos}(hN:X.N[i]?=Gc x)(hv:Vis X.env.scope x)(hd:zn ((x==("__debug__":Str))=false) xz)(hcd:zn ((x==("__classdict__":Str))=false) xz):PE X (.Name x pos) (sN i):=by
 intro pins s σ H Q I h
 obtain⟨v,e,h⟩:=h
 obtain⟨m,hn,hl⟩:=I.loc
 obtain⟨u,r,l⟩:=hl i x v hN e hv
 have fin:EP X pins σ Q u s:=⟨v,H,I,r,h⟩
 rcases l with⟨hk,hm⟩|⟨hk,c,hc,hcell⟩
 .exact wpAny_Name (wpAny_loadName_local I.ok.kind hk hn hm fin) hd
 .rcases hk with hk|hk
  .exact wpAny_Name (wpAny_loadName_cell I.ok.kind hk hc hcell fin) hd
  .exact wpAny_Name (wpAny_loadName_free I.ok.kind hk hc hcell fin hcd) hd
def iA{i j pos}:PE X (.Constant (.int i) j pos) (tC (.int i)):=λ_ _ _ H _ I h=>wpAny_Constant_int ⟨.int i,H,I.tok _,⟨_,rfl⟩,h⟩
def oO{b j pos}:PE X (.Constant (.bool b) j pos) (tC (.bl b)):=λ_ _ _ H _ I h=>Constant_bool ⟨.bl b,H,I,rfl,h⟩
def kC{j pos}:PE X (.Constant .none j pos) (tC .non):=λ_ _ _ H _ I h=>Constant_none ⟨.non,H,I,rfl,h⟩
def Nd{x j pos}:PE X (.Constant (.str x) j pos) (tC (.str x)):=λ_ _ _ H _ I h=>Calls.Constant_str ⟨.str x,H,I.tok _,⟨_,rfl⟩,h⟩
def Gl(X:Cx)(x:Str):Prop:=X.env.kindOf x=Gc .globalImplicit
def H0{s:ui}{σ:St}(I:Inv X pins σ H s)(hg:Gl X x)(hm:X.mg x=Gc u)(h:Q u s)(hd:zn ((x==("__debug__":Str))=false) xz):wpAny (model X.prog X.w) X.A (eval (.Name x pos) X.env) Q E s:=
 xK I.ok.kind hg (y0 (by rw[I.ok.glob];exact I.mod.glob.keeps I.bk) hm h) hd
def NT{E:uX->ui->Prop}{σ:St}{u:uX}{pos:Pos}(I:Inv X pins σ H s)(hg:Gl X x)(hm:X.mg x=none)(hv:bootBuiltins x=Gc u)(h:Q u s)(hn:zn (x≠ "__name__") xz)(hd:zn ((x==("__debug__":Str))=false) xz):wpAny (model X.prog X.w) X.A (eval (.Name x pos) X.env) Q E s:=by
 obtain⟨mb,h1,h2⟩:=I.mod.blt
 exact xK I.ok.kind hg (Calls.loadGlobal_builtin (by rw[I.ok.glob];exact I.mod.glob.keeps I.bk) hm (by rw[I.ok.blt];exact h1.keeps I.bk) ((h2 x hn).trans hv) h) hd
def OI{pos:Pos}(hg:Gl X x)(hm:X.mg x=Gc u)(r:RelV v u)(hd:zn ((x==("__debug__":Str))=false) xz):PE X (.Name x pos) (tC v):=
 λ_ _ _ H _ I h=>H0 I hg hm ⟨v,H,I,r,h⟩ hd
def eL{pos:Pos}(hg:Gl X x)(hm:X.mg x=none)(hv:bootBuiltins x=Gc u)(r:RelV v u)(hn:zn (x≠ "__name__") xz)(hd:zn ((x==("__debug__":Str))=false) xz):PE X (.Name x pos) (tC v):=
 λ_ _ _ H _ I h=>NT I hg hm hv ⟨v,H,I,r,h⟩ hn hd
def t2I(ta tb:TE)(k:Int->Int->Hp->Prop):St->Hp->Prop:=λσ H=>ta σ H λx H1=>tb σ H1 λy H2=>∃i j,x=.int i/\y=.int j/\k i j H2
variable{a b:vi}{ta tb:TE}{pos:Pos}
noncomputable def tB(t:TE):TT:=λσ H Q=>t σ H λx H1=>∃c,x=.bl c/\Q c H1
def fM{e:vi}{t:TE}(h:PE X e t)(he:zn (∀whole,isTrue e X.env whole=(do let v<-whole;standAt e.pos;holding [v] (truthy v))) xL):PT X e (tB t):=by
 intro pins s σ H Q I hw
 refine isTrue_plain (thn (h pins s σ H _ I hw) λv s1 z=>?_) (he _)
 obtain⟨x,H1,I1,r1,q1⟩:=z
 obtain⟨d,rfl,q⟩:=q1
 cases r1
 exact w9 ⟨H1,I1,q⟩
variable{tA tB':TT}{rest:Wp vi}
noncomputable def sI(t u:TT):TT:=λσ H Q=>t σ H λc H1=>if c=true then u σ H1 Q else Q false H1
noncomputable def tOr(t u:TT):TT:=λσ H Q=>t σ H λc H1=>if c=true then Q true H1 else u σ H1 Q
noncomputable def sU(t:TT):TT:=λσ H Q=>t σ H λc H1=>Q (!c) H1
def cX(ha:PT X a tA):PW X (.BoolOp .And [a] pos) tA:=by
 intro wh pins s σ H Q I h
 refine isTrue_and (thn (ha pins s σ H Q I h) λc s1 e=>?_)
 cases c with
 |true=>exact isTrue_and_nil e
 |false=>exact e
def jv(ha:PT X a tA):PW X (.BoolOp .Or [a] pos) tA:=by
 intro wh pins s σ H Q I h
 refine isTrue_or (thn (ha pins s σ H Q I h) λc s1 e=>?_)
 cases c with
 |false=>exact isTrue_or_nil e
 |true=>exact e
def ff(ha:PT X a tA)(hb:PW X (.BoolOp .And (b::rest) pos) tB'):PW X (.BoolOp .And (a::b::rest) pos) (sI tA tB'):=by
 intro wh pins s σ H Q I h
 refine isTrue_and (thn (ha pins s σ H _ I h) λc s1 ⟨H1,I1,q1⟩=>?_)
 cases c with
 |true=>exact hb wh pins s1 σ H1 Q I1 q1
 |false=>exact⟨H1,I1,q1⟩
def pW(ha:PT X a tA)(hb:PW X (.BoolOp .Or (b::rest) pos) tB'):PW X (.BoolOp .Or (a::b::rest) pos) (tOr tA tB'):=by
 intro wh pins s σ H Q I h
 refine isTrue_or (thn (ha pins s σ H _ I h) λc s1 ⟨H1,I1,q1⟩=>?_)
 cases c with
 |true=>exact⟨H1,I1,q1⟩
 |false=>exact hb wh pins s1 σ H1 Q I1 q1
def jE(ha:PT X a tA):PT X (.UnaryOp .Not a pos) (sU tA):=by
 intro pins s σ H Q I h
 exact isTrue_not (ha pins s σ H (λc H1=>Q (!c) H1) I h)
noncomputable def oF(ta tb:TE):TE:=λσ H Q=>ta σ H λx H1=>∃c,x=.bl c/\if c=true then tb σ H1 Q else Q (.bl false) H1
noncomputable def rm(ta tb:TE):TE:=λσ H Q=>ta σ H λx H1=>∃c,x=.bl c/\if c=true then Q (.bl true) H1 else tb σ H1 Q
noncomputable def oV(ta:TE):TE:=λσ H Q=>ta σ H λx H1=>∃c,x=.bl c/\Q (.bl (!c)) H1
def iG{op}{t:TE}(h:PE X a t):PE X (.BoolOp op [a] pos) t:=λpins s σ H Q I hw=>BoolOp_one (h pins s σ H Q I hw)
def gA(ha:PE X a ta)(hb:PE X (.BoolOp .And (b::rest) pos) tb):PE X (.BoolOp .And (a::b::rest) pos) (oF ta tb):=by
 intro pins s σ H Q I h
 refine BoolOp_and (thn (ha pins s σ H _ I h) λv s1 z=>?_)
 obtain⟨x,H1,I1,r1,q1⟩:=z
 obtain⟨c,rfl,q1⟩:=q1
 cases r1
 refine w9 ?_
 cases c with
 |true=>exact hb pins s1 σ H1 Q I1 q1
 |false=>exact⟨.bl false,H1,I1,rfl,q1⟩
def oy(ha:PE X a ta)(hb:PE X (.BoolOp .Or (b::rest) pos) tb):PE X (.BoolOp .Or (a::b::rest) pos) (rm ta tb):=by
 intro pins s σ H Q I h
 refine BoolOp_or (thn (ha pins s σ H _ I h) λv s1 z=>?_)
 obtain⟨x,H1,I1,r1,q1⟩:=z
 obtain⟨c,rfl,q1⟩:=q1
 cases r1
 refine w9 ?_
 cases c with
 |false=>exact hb pins s1 σ H1 Q I1 q1
 |true=>exact⟨.bl true,H1,I1,rfl,q1⟩
def gW(ha:PE X a ta):PE X (.UnaryOp .Not a pos) (oV ta):=by
 intro pins s σ H Q I h
 refine UnaryOp_ (thn (ha pins s σ H _ I h) λv s1 z=>?_)
 obtain⟨x,H1,I1,r1,q1⟩:=z
 obtain⟨c,rfl,q1⟩:=q1
 cases r1
 exact not_of (w9 ⟨.bl (!c),H1,I1,rfl,q1⟩)
noncomputable def tIf(t:TT)(ta tb:TE):TE:=λσ H Q=>t σ H λc H1=>if c=true then ta σ H1 Q else tb σ H1 Q
def W7{c:vi}(hc:PT X c tA)(ha:PE X a ta)(hb:PE X b tb):PE X (.IfExp c a b pos) (tIf tA ta tb):=by
 intro pins s σ H Q I h
 refine wpAny_IfExp (thn (hc pins s σ H _ I h) λd s1 ⟨H1,I1,q1⟩=>?_)
 cases d with
 |true=>exact ha pins s1 σ H1 Q I1 q1
 |false=>exact hb pins s1 σ H1 Q I1 q1
end
end L2
namespace L2
open PySem PySem.Spec PyProof.Rows
def SqL(K:W1)(H:Hp)(a:uf)(xs:Wp V):Prop:=
 Rd H a (.lst xs)∨
  ∃(o:Obj) (its:yo uX) (n:Nat),K.lookup a=Gc o/\o.cls=.type "list" /\o.dict=none/\o.data=.seq its n/\its.size<=sizeLine/\Vals xs its.toList
def SqT(K:W1)(H:Hp)(a:uf)(xs:Wp V):Prop:=
 Rd H a (.tup xs)∨
  ∃(o:Obj) (its:yo uX) (n:Nat),K.lookup a=Gc o/\o.cls=.type "tuple" /\o.data=.seq its n/\its.size<=sizeLine/\Vals xs its.toList
noncomputable def sJ:uX->uR V
 | .none=>Gc .non
 | .bool b=>Gc (.bl b)
 | .int i _=>Gc (.int i)
 | .str x _=>Gc (.str x)
 | .bytes b _=>Gc (.byt b)
 | .float b _=>Gc (.flt b)
 | .ref a=>Gc (.ref a)
 | .type n=>Gc (.ty n)
 |_=>none
def RelV.abs{x:V}{u:uX}(r:RelV x u):sJ u=Gc x:=by
 cases x with
 |non=>cases r;rfl
 |bl _=>cases r;rfl
 |int _=>obtain⟨t,rfl⟩:=r;rfl
 |str _=>obtain⟨t,rfl⟩:=r;rfl
 |byt _=>obtain⟨t,rfl⟩:=r;rfl
 |flt _=>obtain⟨t,rfl⟩:=r;rfl
 |ref _=>cases r;rfl
 |ty _=>cases r;rfl
def RelV.inj{x y:V}{u:uX}(r:RelV x u)(q:RelV y u):x=y:=wR (r.abs.symm.trans q.abs)
theorem Vals.inj:∀{xs ys:Wp V} {us:Wp uX},Vals xs us->Vals ys us->xs=ys
 |_,_,_,.nil,.nil=>rfl
 |_,_,_,.cons r t,.cons r' t'=>by rw[r.inj r',Vals.inj t t']
section
variable{X:Cx}{pins:Wp (uf×Obj)}{σ:St}{H:Hp}{s:ui}{a:uf}{xs ys:Wp V}
def SqL.of{K:W1}(h:H a=Gc (.lst xs)):SqL K H a xs:=.inl (.inl h)
def SqT.of{K:W1}(h:H a=Gc (.tup xs)):SqT K H a xs:=.inl (.inl h)
def Inv.list(I:Inv X pins σ H s)(h:SqL X.K H a xs):∃its:Wp uX,Vals xs its/\PlainL s.heap a its.toArray/\xs.length<=sizeLine:=by
 rcases h with h|⟨o,its,n,hk,hc,hd,hs,hz,r⟩
 .obtain⟨z,its,n,r,e⟩:=h.ok I.hok
  exact⟨its,r,⟨_,n,e,rfl,rfl,rfl⟩,z⟩
 .refine⟨its.toList,r,⟨o,n,I.kIn a o hk,hc,hd,by simpa using hs⟩,?_⟩
  have e:=r.length
  simp only[zy]at e
  lia
def Inv.tuple(I:Inv X pins σ H s)(h:SqT X.K H a xs):∃its:Wp uX,Vals xs its/\IsTup s.heap a its.toArray/\xs.length<=sizeLine:=by
 rcases h with h|⟨o,its,n,hk,hc,hs,hz,r⟩
 .obtain⟨z,its,r,p⟩:=h.ok I.hok
  exact⟨its,r,p,z⟩
 .refine⟨its.toList,r,⟨o,I.kIn a o hk,hc,n,by simpa using hs⟩,?_⟩
  have e:=r.length
  simp only[zy]at e
  lia
def Inv.Rt(I:Inv X pins σ H s)(h:SqL X.K H a xs)(h':SqL X.K H a ys):xs=ys:=by
 obtain⟨its,r,⟨o,n,e,_,_,d⟩,_⟩:=I.list h
 obtain⟨its',r',⟨o',n',e',_,_,d'⟩,_⟩:=I.list h'
 rw[e]at e';cases e'
 rw[d]at d'
 injection d' with d1 _
 have:its=its':=by simpa using congrArg Array.toList d1
 subst this
 exact r.inj r'
def Inv.QF(I:Inv X pins σ H s)(h:SqT X.K H a xs)(h':SqT X.K H a ys):xs=ys:=by
 obtain⟨its,r,⟨o,e,_,n,d⟩,_⟩:=I.tuple h
 obtain⟨its',r',⟨o',e',_,n',d'⟩,_⟩:=I.tuple h'
 rw[e]at e';cases e'
 rw[d]at d'
 injection d' with d1 _
 have:its=its':=by simpa using congrArg Array.toList d1
 subst this
 exact r.inj r'
end
abbrev Cx.TM(X:Cx)(E:uX->ui->Prop):Cx:={X with xe:=E}
abbrev Cx.nox(X:Cx):Cx:=X.TM λ_ _=>wH
def Cx.Ok.TM{X:Cx}(ok:X.Ok)(E:uX->ui->Prop):(X.TM E).Ok:=
 ⟨ok.mod,ok.kind,ok.glob,ok.blt,ok.above,ok.inj,ok.has,ok.cab,ok.hd,ok.frames,ok.stk,ok.exf,ok.bs,ok.bsz,ok.Zb,ok.dI,ok.QS,ok.frf⟩
def Cx.Ok.K7{X:Cx}{E:uX->ui->Prop}(ok:(X.TM E).Ok):X.Ok:=
 ⟨ok.mod,ok.kind,ok.glob,ok.blt,ok.above,ok.inj,ok.has,ok.cab,ok.hd,ok.frames,ok.stk,ok.exf,ok.bs,ok.bsz,ok.Zb,ok.dI,ok.QS,ok.frf⟩
section
variable{X:Cx}{pins:Wp (uf×Obj)}{σ:St}{H:Hp}{s:ui}{E:uX->ui->Prop}
def Inv.TM(I:Inv X pins σ H s)(E:uX->ui->Prop):Inv (X.TM E) pins σ H s:=⟨I.ok.TM E,I.os,I.bare,I.base,I.loc,I.cell,I.free,I.HP,I.pin,I.hok,I.len⟩
def Inv.K7(I:Inv (X.TM E) pins σ H s):Inv X pins σ H s:=⟨I.ok.K7,I.os,I.bare,I.base,I.loc,I.cell,I.free,I.HP,I.pin,I.hok,I.len⟩
def SP.K7{s':ui}(h:SP (X.TM E) pins D f s'):SP X pins D f s':=by
 cases f with
 |next=>obtain⟨σ',H',I,q⟩:=h;exact⟨σ',H',I.K7,q⟩
 |brk=>obtain⟨σ',H',I,q⟩:=h;exact⟨σ',H',I.K7,q⟩
 |cont=>obtain⟨σ',H',I,q⟩:=h;exact⟨σ',H',I.K7,q⟩
 |ret u=>obtain⟨v,σ',H',I,r,q⟩:=h;exact⟨v,σ',H',I.K7,r,q⟩
def PSs.nox{st:Wp vH}{t:TS}(h:PSs X.nox st t):PSs X st t:=λpins s σ H D I hw=>
 vo (h pins s σ H D (I.TM _) hw) (λ_ _ q=>q.K7) λ_ _ z=>vX z
end
section
variable{X:Cx}{st:vH}{rest:Wp vH}{t u:TS}{e:vi}{te:TE}{pos:Pos}
noncomputable def pB:TS:=λD σ H=>D.nx σ H
noncomputable def pU(t u:TS):TS:=λD σ H=>t {D with nx:=u D} σ H
def bZ:PSs X [] pB:=λ_ _ σ H _ I h=>yw ⟨σ,H,I,h⟩
def OL(h1:PS X st t)(h2:PSs X rest u):PSs X (st::rest) (pU t u):=by
 intro pins s σ H D I h
 refine xy (thn (h1 pins s σ H {D with nx:=u D} I h) λf s1 q=>?_)
 cases f with
 |next=>
  obtain⟨σ',H',I',q⟩:=q
  exact h2 pins s1 σ' H' D I' q
 |ret v=>exact q
 |brk=>exact q
 |cont=>exact q
def KR(h1:PS X st t):PSs X [st] t:=by
 intro pins s σ H D I h
 refine xy (thn (h1 pins s σ H D I h) λf s1 q=>?_)
 cases f with
 |next=>exact yw q
 |ret v=>exact q
 |brk=>exact q
 |cont=>exact q
def Inv.quiet{pins:Wp (uf×Obj)}{σ:St}{s:ui}(I:Inv X pins σ H s):interactive X.env=false:=by simp[interactive,I.ok.kind]
noncomputable def c7(te:TE):TS:=λD σ H=>te σ H λ_ H1=>D.nx σ H1
def Ua(he:PE X e te)(hs:zn (swapsWith e none pos.line X.env=pure false) ww):PS X (.Expr e pos) (c7 te):=by
 intro pins s σ H D I h
 exact wpAny_Expr_any (thn (he pins s σ H _ I h) λv s1 ⟨x,H1,I1,r1,q1⟩=>⟨σ,H1,I1,q1⟩) I.quiet hs
noncomputable def sj(te:TE):TS:=λD σ H=>te σ H D.rt
def Ry(he:PE X e te):PS X (.Return (Gc e) pos) (sj te):=by
 intro pins s σ H D I h
 exact AAd (thn (he pins s σ H _ I h) λv s1 ⟨x,H1,I1,r1,q1⟩=>⟨x,σ,H1,I1,r1,q1⟩)
noncomputable def sk(c:TT)(t u:TS):TS:=λD σ H=>c σ H λb H1=>if b=true then t D σ H1 else u D σ H1
def mX{tc:TT}(hc:PT X c tc)(ha:PSs X a t)(hb:PSs X b u):PS X (.If c a b pos) (sk tc t u):=by
 intro pins s σ H D I h
 refine wpAny_If (thn (hc pins s σ H _ I h) λd s1 ⟨H1,I1,q1⟩=>?_)
 cases d with
 |true=>exact ha pins s1 σ H1 D I1 q1
 |false=>exact hb pins s1 σ H1 D I1 q1
end
abbrev TG:=V->St->Hp->(St->Hp->Prop)->Prop
abbrev TGs:=Wp V->St->Hp->(St->Hp->Prop)->Prop
def PG(X:Cx)(target:vi)(t:TG):Prop:=
 ∀(pins:Wp (uf×Obj)) (s:ui) (σ:St) (H:Hp) (v:V) (u:uX) (Q:St->Hp->Prop),Inv X pins σ H s->RelV v u->t v σ H Q->
  wpAny (model X.prog X.w) X.A (assign target X.env u) (λ_ s'=>∃σ' H',Inv X pins σ' H' s'/\Q σ' H') X.xe s
def PGs(X:Cx)(ts:Wp vi)(t:TGs):Prop:=
 ∀(pins:Wp (uf×Obj)) (s:ui) (σ:St) (H:Hp) (vs:Wp V) (us:Wp uX) (Q:St->Hp->Prop),Inv X pins σ H s->Vals vs us->t vs σ H Q->
  wpAny (model X.prog X.w) X.A (assignInOrder ((assignEach ts X.env).map (·.2)) us) (λ_ s'=>∃σ' H',Inv X pins σ' H' s'/\Q σ' H') X.xe s
abbrev nI:=V->V->V->Hp->(Hp->Prop)->Prop
def qc(X:Cx)(t:nI):Prop:=
 ∀(pins:Wp (uf×Obj)) (s:ui) (σ:St) (H:Hp) (o i v:V) (ov iv u:uX) (Q:Hp->Prop),Inv X pins σ H s->RelV o ov->RelV i iv->RelV v u->t o i v H Q->
  wpAny (model X.prog X.w) X.A (setItem ov iv u) (λ_ s'=>∃H',Inv X pins σ H' s'/\Q H') X.xe s
section
variable{X:Cx}{pos:Pos}
noncomputable def eK(i:Nat):TG:=λv σ H Q=>Q (σ.set i (Gc v)) H
def aJ{i:Nat}{x:Str}(hN:X.N.Nodup)(hi:X.N[i]?=Gc x)(hx:Loc X.env.scope x)(hf:zn (X.fn x=true\/X.env.scope.names.lookup x=Gc .local) x0):PG X (.Name x pos) (eK i):=by
 intro pins s σ H v u Q I r h
 exact wpAny_assign_Name (LI I hN hi hx r (λs' I'=>⟨_,H,I',h⟩) hf)
noncomputable def qi:TGs:=λvs σ H Q=>vs=[]/\Q σ H
noncomputable def fq(t:TG)(u:TGs):TGs:=λvs σ H Q=>∃v r,vs=v::r/\t v σ H λσ' H'=>u r σ' H' Q
def du:PGs X [] qi:=by
 intro pins s σ H vs us Q I r h
 obtain⟨e,h⟩:=h
 subst e
 cases r
 exact assignInOrder_nil ⟨σ,H,I,h⟩
def XC{u:TGs}(h1:PG X e t)(h2:PGs X es u)(hs:zn ((assignEach (e::es) X.env).map (·.2)=assign e X.env::(assignEach es X.env).map (·.2)) ww):PGs X (e::es) (fq t u):=by
 intro pins s σ H vs us Q I r h
 obtain⟨v,vr,e1,h⟩:=h
 subst e1
 cases r with
 |cons r rr=>
  rw[hs]
  refine AAK (thn (h1 pins s σ H _ _ _ I r h) λ_ s1 z=>?_)
  obtain⟨σ1,H1,I1,q1⟩:=z
  exact h2 pins s1 σ1 H1 _ _ Q I1 rr q1
noncomputable def sO(K:W1)(n:Nat)(t:TGs):TG:=λv σ H Q=>∃a xs,v=.ref a/\SqT K H a xs/\xs.length=n/\t xs σ H Q
def jZ{es:Wp vi}{k:Nat}{n:Nat}(hc:X.calm=true)(h:PGs X es t)(hn:zn ((assignEach es X.env).length=n) ww)(hst:zn ((assignEach es X.env).findIdx? (·.1)=none) ww):PG X (.Tuple es k pos) (sO X.K n t):=by
 intro pins s σ H v u Q I r hw
 obtain⟨a,xs,e1,hq,hl,hw⟩:=hw
 subst e1
 cases r
 obtain⟨its,rv,ht,hz⟩:=I.tuple hq
 refine assign_Tuple_tuple (I.ok.hd hc) ht (by simp[hn,<-hl,rv.length]) hst λh' hx=>?_
 have I1:Inv X pins σ H {s with heap:=h'}:=I.kept (t':=s.toks) λb o e=>hx b o (vE (uj e)) e
 exact h pins _ σ H xs _ Q I1 (by simpa using rv) hw
noncomputable def tL(to ti:TE)(t:nI):TG:=λv σ H Q=>to σ H λo H1=>ti σ H1 λi H2=>t o i v H2 λH3=>Q σ H3
def gJ {t:nI}(ho:PE X o to)(hi:PE X i ti)(hs:qc X t)(ha:zn (∀v,assign (.Subscript o i pos) X.env v=(do
      let ov ← holding [v] (eval o X.env)
      let iv ← holding [v, ov] (eval i X.env)
      standAt pos
      holding [v, ov, iv] (setItem ov iv v)
      release [v, ov, iv] [])) wv) : PG X (.Subscript o i pos) (tL to ti t) := by
  intro pins s σ H v u Q I r h
  rw [ha]
  refine uP (vw (thn (ho pins s σ H _ I h) fun ov s1 ⟨x, H1, I1, r1, q1⟩ => ?_))
  refine uP (vw (thn (hi pins s1 σ H1 _ I1 q1) fun iv s2 ⟨y, H2, I2, r2, q2⟩ => ?_))
  refine uP (xH (uP (vw (thn (hs pins s2 σ H2 x y v ov iv u _ I2 r1 r2 r q2) fun _ s3 ⟨H3, I3, q3⟩ => ?_))))
  exact wpAny_release ⟨σ, H3, I3, q3⟩
noncomputable def nv(te:TE)(g:TG):TS:=λD σ H=>te σ H λx H1=>g x σ H1 D.nx
def ZT{g:TG}(he:PE X e te)(hg:PG X tg g)(hs:zn (swapsWithSole [tg] e pos.line X.env=pure false) ww)(hw:zn (swappedStores [tg] e X.env=pure none) ww)(h1:zn ((assignEach [tg] X.env).map (·.2)=[assign tg X.env]) ww):PS X (.Assign [tg] e pos) (nv te g):=by
 intro pins s σ H D I h
 refine wpAny_Assign_stores (thn (he pins s σ H _ I h) λv s1 z=>?_) hs hw
 obtain⟨x,H1,I1,r1,q1⟩:=z
 rw[h1]
 exact thn (hg pins s1 σ H1 x v _ I1 r1 q1) λ_ s2 q=>q
def Zd(hN:X.N.Nodup)(hi:X.N[i]?=Gc x)(hx:Loc X.env.scope x)(he:PE X e te)(hs:zn (swapsWith e (Gc (.Name x pos')) pos.line X.env=pure false) ww)(hf:zn (X.fn x=true\/X.env.scope.names.lookup x=Gc .local) x0):PS X (.Assign [.Name x pos'] e pos) (nv te (eK i)):=by
 intro pins s σ H D I h
 refine wpAny_Assign_Name (thn (he pins s σ H _ I h) λv s1 z=>?_) hs
 obtain⟨y,H1,I1,r1,q1⟩:=z
 exact LI I1 hN hi hx r1 (λs2 I2=>⟨_,H1,I2,q1⟩) hf
noncomputable def si(i j:Nat)(ta:TA):TS:=λD σ H=>ta σ H λvs H1=>∃v w,vs=[v,w]/\D.nx ((σ.set i (Gc v)).set j (Gc w)) H1
def i0{kt k2 pt2}(hc:X.calm=true)(hN:X.N.Nodup)(hi:X.N[i]?=Gc x)(hj:X.N[j]?=Gc y)(hij:i≠j)(hx:X.env.scope.names.lookup x=Gc .local)(hy:X.env.scope.names.lookup y=Gc .local)(ha:PA X [a,b] ta)(hw:swappedStores [.Tuple [.Name x px,.Name y py] kt pt] (.Tuple [a,b] k2 pt2) X.env=pure (Gc [x,y]))(hs:zn (swapsWithSole [.Tuple [.Name x px,.Name y py] kt pt] (.Tuple [a,b] k2 pt2) pos.line X.env=pure false) ww):PS X (.Assign [.Tuple [.Name x px,.Name y py] kt pt] (.Tuple [a,b] k2 pt2) pos) (si i j ta):=by
 intro pins s σ H D I h
 rw[exec_Assign_arm]
 refine uP (xH ?_)
 rw[hs]
 refine uP (ug ?_)
 rw[vB (by decide)]
 refine uP (Tuple_ (thn (ha _ pins s σ H _ I h) λus s1 z=>?_))
 obtain⟨vs,H1,I1,r1,q1⟩:=z
 obtain⟨v,w,e1,q1⟩:=q1
 subst e1
 obtain⟨u1,u2,rfl,rv,rw'⟩:∃u1 u2,us=[u1,u2]/\RelV v u1/\RelV w u2:=by
  cases r1 with
  |cons p q=>
   cases q with
   |cons p' q'=>
    cases q'
    exact⟨_,_,rfl,p,p'⟩
 refine xA ?_ (by show 2<=sizeLine;decide)
 have I2:Inv X pins σ H1 {s1 with heap:=s1.heap.push {cls:=.type "tuple",data:=.seq [u1,u2].toArray}}:=I1.kept (t':=s1.toks) λb o e=>uQ _ e
 rw[hw]
 refine uP (ug ?_)
 show wpAny (model X.prog X.w) X.A (do rule "assign.swapped-stores"; let items<-unpackItems (.ref s1.heap.objs.size) 2 none;assignInOrder [λv=>bindName X.env y v,λv=>bindName X.env x v] items.reverse;pure Flow.next) _ _ _
 refine uP (AA3 (uP (unpackItems_tuple (items:= #[u1,u2]) (I.ok.hd hc) (yl s1.heap _) λh' hx'=>?_)))
 have I3:=I2.kept (h':=h') (t':=s1.toks) λb o e=>hx' b o (vE (uj e)) e
 show wpAny _ _ (assignInOrder [λv=>bindName X.env y v,λv=>bindName X.env x v] [u2,u1] >>= λ_=>pure Flow.next) _ _ _
 refine uP (AAK (wpAny_bindName (LI I3 hN hj (.inl hy) rw' (λs2 I4=>?_) (.inr hy))))
 refine AAK (wpAny_bindName (LI I4 hN hi (.inl hx) rv (λs3 I5=>assignInOrder_nil (ug ?_)) (.inr hx)))
 rw[List.set_comm _ _ (vh hij)]at I5
 exact⟨_,H1,I5,q1⟩
end
section
variable{X:Cx}{pos:Pos}
noncomputable def ig(c:TT)(tb:TS):TS:=λD σ H=>∃W:Nat->St->Hp->Prop,(∃m,W m σ H)/\∀m σ H,W m σ H->
 c σ H λb H1=>if b=true then∃N:St->Hp->Prop,(∀σ' H',N σ' H'->∃m',m'<m/\W m' σ' H')/\tb {D with nx:=N,ct:=N,bk:=D.nx} σ H1 else D.nx σ H1
def Wz{tb:TS}(hp:PassesOwn (model X.prog X.w) X.A X.env X.xe)(hc:PT X c tc)(hb:PSs X body tb):PS X (.While c body [] pos) (ig tc tb):=by
 intro pins s σ H D I h
 obtain⟨W,⟨m0,w0⟩,turn⟩:=h
 refine wpAny_While (codeAny_whileLoop (λn s'=>∃σ' H',Inv X pins σ' H' s'/\W n σ' H') ?_ m0 ⟨σ,H,I,w0⟩)
 rintro n s1 ⟨σ1,H1,I1,w1⟩
 refine xY hp (thn (hc pins s1 σ1 H1 _ I1 (turn n σ1 H1 w1)) λb s2 ⟨H2,I2,q2⟩=>?_)
 cases b with
 |true=>
  obtain⟨N,hN,q2⟩:=q2
  rw[vC rfl]
  refine xY hp (thn (hb pins s2 σ1 H2 _ I2 q2) λf s3 q3=>?_)
  cases f with
  |next=>
   obtain⟨σ3,H3,I3,n3⟩:=q3
   obtain⟨m',hm,w3⟩:=hN σ3 H3 n3
   exact⟨m',hm,σ3,H3,I3,w3⟩
  |cont=>
   obtain⟨σ3,H3,I3,n3⟩:=q3
   obtain⟨m',hm,w3⟩:=hN σ3 H3 n3
   exact⟨m',hm,σ3,H3,I3,w3⟩
  |brk=>exact q3
  |ret v=>exact q3
 |false=>
  rw[vB vY]
  exact yw ⟨σ1,H2,I2,q2⟩
end
structure It where
 go:Nat->Hp->Prop
 yld:Nat->Hp->V->Hp->Prop
 stop:Nat->Hp->Prop
def Qj(X:Cx)(pins:Wp (uf×Obj))(H:Hp)(b:uf):Prop:=
 H b=none/\b≠X.env.locals/\b∉X.fs/\(b∈X.ex\/X.s₀.heap.objs.size<=b)/\(∀x c,X.env.cells.lookup x=Gc c->c≠b)/\∀p∈X.pn++pins,p.1≠b
def Inv.aX{pins:Wp (uf×Obj)}{σ:St}{b:uf}(I:Inv X pins σ H s)(hb:s.heap.objs.size<=b)(hn:H' b=none):Qj X pins H' b:=by
 refine⟨hn,zA (uU I.lt hb),I.tq hb,.inr (uZ I.sz hb),λx c e z=>?_,λp hp z=>?_⟩
 .obtain⟨v,q⟩:=I.cell x c e
  exact absurd (uU q.lt (by rw[z];exact hb)) (v8 _)
 .exact absurd (uU (uj (I.pin p hp).1) (by rw[z];exact hb)) (v8 _)
structure Turn(P:va)(w:wG)(K:W1)(tg:vi)(J:It)(fp:Wp uf)(it:uf)(tn:Nat->vq->Prop):Prop where
 mem:it∈fp
 obj:∀i h,tn i h->∀b∈fp,∃o,h.get? b=Gc o/\∀v,o.data≠.cell v
 keep:∀i h h',tn i h->(∀b∈fp,∀o,h.get? b=Gc o->h'.get? b=Gc o)->tn i h'
 item:∀(X:Cx),X.prog=P->X.w=w->X.K=K->X.calm=true->∀(i:Nat) (pins:Wp (uf×Obj)) (s:ui) (σ:St) (H:Hp) (E:uX->ui->Prop),Inv X pins σ H s->(∀b∈fp,Qj X pins H b)->tn i s.heap->J.go i H->
  wpAny (model P w) X.A (pyNext (.ref it)) (λr s1=>∃u,r=Gc u/\
   wpAny (model P w) X.A (letOwnedTupleGo tg (.ref it) u) (λ_ s2=>∃x H',Inv X pins σ H' s2/\RelV x u/\J.yld i H x H'/\tn (i+1) s2.heap/\∀b∈fp,H' b=none) E s1) E s
 done:∀(X:Cx),X.prog=P->X.w=w->X.K=K->X.calm=true->∀(i:Nat) (pins:Wp (uf×Obj)) (s:ui) (σ:St) (H:Hp) (E:uX->ui->Prop),Inv X pins σ H s->(∀b∈fp,Qj X pins H b)->tn i s.heap->J.stop i H->
  wpAny (model P w) X.A (pyNext (.ref it)) (λr s1=>r=none/\Inv X pins σ H s1) E s
 self:∀(A:wy) (i:Nat) (s:ui) (Q:uX->ui->Prop) (E:uX->ui->Prop),tn i s.heap->Q (.ref it) s->wpAny (model P w) A (pyIter (.ref it)) Q E s
abbrev TI:=St->Hp->(It->Hp->Prop)->Prop
def PIE(X:Cx)(pins:Wp (uf×Obj))(σ:St)(tg:vi)(R:It->Hp->Prop)(itv:uX)(s2:ui):Prop:=
 ∃(it:uf) (fp:Wp uf) (tn:Nat->vq->Prop) (J:It) (H':Hp),itv=.ref it/\Inv X pins σ H' s2/\Turn X.prog X.w X.K tg J fp it tn/\tn 0 s2.heap/\(∀b∈fp,Qj X pins H' b)/\R J H'
def PI(X:Cx)(tg iter:vi)(wi:TI):Prop:=
 ∀(pins:Wp (uf×Obj)) (s:ui) (σ:St) (H:Hp) (R:It->Hp->Prop),Inv X pins σ H s->wi σ H R->
  wpAny (model X.prog X.w) X.A (eval iter X.env) (λv s1=>wpAny (model X.prog X.w) X.A (pyIter v) (PIE X pins σ tg R) X.xe s1) X.xe s
def bu(ho:s.heap.get? it=Gc o)(hc:o.cls=.type n)(hd:o.data=.fields vs)(hn:["enumerate","zip","dict_itemiterator","dict_reverseitemiterator","odict_iterator","itertools.zip_longest","itertools.pairwise"].contains n=false)(hQ:Q () s):wpAny M A (letOwnedTupleGo tg (.ref it) u) Q E s:=by
 unfold letOwnedTupleGo
 cases tg<;>first
  |exact ug hQ
  |(cases u<;>first
     |exact ug hQ
     |(refine uP (wpAny_load ho ?_)
       rw[hc,hd]
       show wpAny M A (if(["enumerate","zip","dict_itemiterator","dict_reverseitemiterator","odict_iterator","itertools.zip_longest","itertools.pairwise"].contains n && vs[0]?==Gc (rawInt _))=true then _ else _) Q E s
       rw[vB (by intro h;rw[hn,Bool.false_and]at h;cases h)]
       exact ug hQ))
noncomputable def Itl(K:W1)(a:uf):It:=
 ⟨λi H=>∃xs x,SqL K H a xs/\xs[i]?=Gc x,λi H x H'=>H'=H/\∀xs,SqL K H a xs->xs[i]?=Gc x,λi H=>∃xs,SqL K H a xs/\xs.length<=i⟩
noncomputable def Itt(K:W1)(a:uf):It:=
 ⟨λi H=>∃xs x,SqT K H a xs/\xs[i]?=Gc x,λi H x H'=>H'=H/\∀xs,SqT K H a xs->xs[i]?=Gc x,λi H=>∃xs,SqT K H a xs/\xs.length<=i⟩
noncomputable def Itr(lo:Int)(n:Nat):It:=⟨λi _=>i<n,λi H x H'=>H'=H/\x=.int (lo+i),λi _=>n<=i⟩
theorem Uk{K:W1}(a it:uf):Turn P w K tg (Itl K a) [it] it (λi h=>h.IsListIter it a i) where
 mem:=by simp
 obj:=λi h st b hb=>by
  have e:b=it:=by simpa using hb
  subst e
  obtain⟨o,e,c,d⟩:=st
  exact⟨o,e,λv z=>by rw[d]at z;cases z⟩
 keep:=λi h h' st k=>st.at λo e=>k it (by simp) o e
 item:=by
  intro X hP hw hK hc i pins s σ H E I hf st hg
  subst hP hw hK
  obtain⟨xs,x,hq,hx⟩:=hg
  obtain⟨its,rv,p,hz⟩:=I.list hq
  obtain⟨u,hu,ru⟩:=rv.get hx
  obtain⟨f0,f1,f2,f3,f4,f5⟩:=hf it (by simp)
  refine zB st p.isList (x:=u) (by simpa using hu) λh' st' sb=>?_
  have I1:Inv X pins σ H {s with heap:=h'}:=I.turned (t':=s.toks) (λb o hb e=>(sb.2 b hb).trans e) f0 f1 f3 f4 f5
  obtain⟨o,e,c,d⟩:=id st'
  exact⟨u,rfl,bu (s:={s with heap:=h'}) e c d (by decide) ⟨x,H,I1,ru,⟨rfl,λys hy=>by rw[I.Rt hy hq];exact hx⟩,st',λb hb=>(hf b hb).1⟩⟩
 done:=by
  intro X hP hw hK hc i pins s σ H E I hf st hg
  subst hP hw hK
  obtain⟨xs,hq,hx⟩:=hg
  obtain⟨its,rv,p,hz⟩:=I.list hq
  obtain⟨f0,f1,f2,f3,f4,f5⟩:=hf it (by simp)
  have hl:=rv.length
  exact zT (I.ok.hd hc) st p.isList (by simp;lia) λh' eb=>⟨rfl,I.turned (t':=s.toks) (λb o hb e=>eb b o hb e) f0 f1 f3 f4 f5⟩
 self:=λ_ _ _ _ _ st h=>ABP st h
theorem Tj{K:W1}(a it:uf):Turn P w K tg (Itt K a) [it] it (λi h=>h.IsTupleIter it a i) where
 mem:=by simp
 obj:=λi h st b hb=>by
  have e:b=it:=by simpa using hb
  subst e
  obtain⟨o,e,c,d⟩:=st
  exact⟨o,e,λv z=>by rw[d]at z;cases z⟩
 keep:=λi h h' st k=>st.at λo e=>k it (by simp) o e
 item:=by
  intro X hP hw hK hc i pins s σ H E I hf st hg
  subst hP hw hK
  obtain⟨xs,x,hq,hx⟩:=hg
  obtain⟨its,rv,p,hz⟩:=I.tuple hq
  obtain⟨u,hu,ru⟩:=rv.get hx
  obtain⟨f0,f1,f2,f3,f4,f5⟩:=hf it (by simp)
  refine wpAny_pyNext_tuple_item st (show s.heap.IsTuple a its.toArray from p) (x:=u) (by simpa using hu) λh' st' sb=>?_
  have I1:Inv X pins σ H {s with heap:=h'}:=I.turned (t':=s.toks) (λb o hb e=>(sb.2 b hb).trans e) f0 f1 f3 f4 f5
  obtain⟨o,e,c,d⟩:=id st'
  exact⟨u,rfl,bu (s:={s with heap:=h'}) e c d (by decide) ⟨x,H,I1,ru,⟨rfl,λys hy=>by rw[I.QF hy hq];exact hx⟩,st',λb hb=>(hf b hb).1⟩⟩
 done:=by
  intro X hP hw hK hc i pins s σ H E I hf st hg
  subst hP hw hK
  obtain⟨xs,hq,hx⟩:=hg
  obtain⟨its,rv,p,hz⟩:=I.tuple hq
  obtain⟨f0,f1,f2,f3,f4,f5⟩:=hf it (by simp)
  have hl:=rv.length
  exact wpAny_pyNext_tuple_end (I.ok.hd hc) st (show s.heap.IsTuple a its.toArray from p) (by simp;lia) λh' eb=>⟨rfl,I.turned (t':=s.toks) (λb o hb e=>eb b o hb e) f0 f1 f3 f4 f5⟩
 self:=λ_ _ _ _ _ st h=>wpAny_pyIter_tupleiter st h
theorem TB{K:W1} it lo n:Turn P w K tg (Itr lo n) [it] it (λi h=>IsRangeIter h it (lo+(i:Nat)*1) ((n:Int)-(i:Nat)) 1) where
 mem:=by simp
 obj:=λi h st b hb=>by
  have e:b=it:=by simpa using hb
  subst e
  exact⟨_,st,λv z=>by
   have z':Data.fields _=Data.cell v:=z
   cases z'⟩
 keep:=λi h h' st k=>k it (by simp) _ st
 item:=by
  intro X hP hw hK hc i pins s σ H E I hf st hg
  subst hP hw hK
  obtain⟨f0,f1,f2,f3,f4,f5⟩:=hf it (by simp)
  have W:=Walks.range (prog:=X.prog) (w:=X.w) (I.ok.hd hc) it lo 1 n
  refine W.item i s _ _ hg st λv h' tk hv st' kk=>?_
  obtain⟨t,rfl⟩:=hv
  have I1:Inv X pins σ H {s with heap:=h',toks:=tk}:=I.turned (λb o hb e=>kk b o (by simpa using hb) e) f0 f1 f3 f4 f5
  refine⟨_,rfl,bu (s:={s with heap:=h',toks:=tk}) (n:="range_iterator") st' rfl rfl (by decide) ⟨.int (lo+i),H,I1,⟨t,?_⟩,⟨rfl,rfl⟩,st',λb hb=>(hf b hb).1⟩⟩
  rw[Int.mul_one]
 done:=by
  intro X hP hw hK hc i pins s σ H E I hf st hg
  subst hP hw hK
  obtain⟨f0,f1,f2,f3,f4,f5⟩:=hf it (by simp)
  exact wpAny_pyNext_range_end (I.ok.hd hc) st (by have:n<=i:=hg;lia) λh' eb=>⟨rfl,I.turned (t':=s.toks) (λb o hb e=>eb b o hb e) f0 f1 f3 f4 f5⟩
 self:=λ_ _ _ _ _ st h=>wpAny_pyIter_rangeiter st h
end L2
namespace L2
open PySem PySem.Spec PyProof.Rows
section
variable{X:Cx}{tg:vi}
def YN{σ:St}{lo hi:Int}(I:Inv X pins σ H s)(h1: -(2^62)<=lo)(h2:lo<2^62)(h3: -(2^62)<=hi)(h4:hi<2^62)(q:R (Itr lo (hi-lo).toNat) H):wpAny (model X.prog X.w) X.A (pyIter (.ref s.heap.objs.size)) (PIE X pins σ tg R) E {s with heap:=s.heap.push {cls:=.type "range",data:=.fields #[.int lo t,.int hi u,.int 1 v]},toks:=tk}:=by
 refine wpAny_pyIter_range (IsRange.new ..) (small_one h1 h2 h3 h4) ?_
 have I1:Inv X pins σ H {s with heap:=s.heap.push {cls:=.type "range",data:=.fields #[.int lo t,.int hi u,.int 1 v]},toks:=tk}:=I.kept λb o e=>uQ _ e
 refine⟨(s.heap.push {cls:=.type "range",data:=.fields #[.int lo t,.int hi u,.int 1 v]}).objs.size,[(s.heap.push {cls:=.type "range",data:=.fields #[.int lo t,.int hi u,.int 1 v]}).objs.size],_,_,H,rfl,
  I1.kept (t':=tk) λb o e=>uQ _ e,TB _ lo (hi-lo).toNat,?_,λb hb=>?_,q⟩
 .have e1:lo+((0:Nat):Int)*1=lo:=by simp
  have e2:(((hi-lo).toNat:Nat):Int)-((0:Nat):Int)=Builtin.Range.rangeSize lo hi 1:=by rw[rangeSize_one];split<;>lia
  show IsRangeIter _ _ (lo+((0:Nat):Int)*1) ((((hi-lo).toNat:Nat):Int)-((0:Nat):Int)) 1
  rw[e1,e2]
  exact ux _ rfl
 .have e:b=(s.heap.push {cls:=.type "range",data:=.fields #[.int lo t,.int hi u,.int 1 v]}).objs.size:=by simpa using hb
  subst e
  exact I1.aX (uc _) (I1.hok.fresh (uc _))
noncomputable def nN(ta:TA):TI:=λσ H R=>ta σ H λvs H1=>∃j:Int,vs=[.int j]/\ -(2^62)<=j/\j<2^62/\R (Itr 0 j.toNat) H1
def UA{p pos:Pos}(hg:Gl X "range")(hm:X.mg "range"=none)(ha:PA X [a] ta)(hs:zn (ue [a] X.env=[(false,eval a X.env)]) ww):PI X tg (.Call (.Name "range" p) [a] [] pos) (nN ta):=by
 intro pins s σ H R I h
 refine Call_ (NT I hg hm boot_range (yT (thn (ha pos pins s σ H _ I h) λus s1 z=>?_) hs rfl))
 obtain⟨vs,H1,I1,r1,q1⟩:=z
 obtain⟨j,e,q1,q2,q⟩:=q1
 subst e
 cases r1 with
 |cons r rr=>
  cases rr
  obtain⟨t,rfl⟩:=r
  exact call_range_1 (YN I1 (by lia) (by lia) q1 q2 (by simpa using q))
noncomputable def sP(wi:TI)(g:TG)(tb:TS):TS:=λD σ H=>wi σ H λJ H1=>∃W:Nat->Nat->St->Hp->Prop,(∃m,W 0 m σ H1)/\∀i m σ H,W i m σ H->
 (J.stop i H/\D.nx σ H)\/(J.go i H/\∃N:St->Hp->Prop,(∀σ' H',N σ' H'->∃m',m'<m/\W (i+1) m' σ' H')/\∀x H',J.yld i H x H'->g x σ H' λσ2 H2=>tb {D with nx:=N,ct:=N,bk:=D.nx} σ2 H2)
noncomputable def Pl(fp:Wp uf)(h:vq):Wp (uf×Obj):=fp.filterMap λb=>(h.get? b).map λo=>(b,o)
def IH{o:Obj}(hb:b∈fp)(e:h.get? b=Gc o):(b,o)∈Pl fp h:=AB8.mpr ⟨b,hb,by rw[e];rfl⟩
def WR{p:uf×Obj}(hp:p∈Pl fp h):p.1∈fp/\h.get? p.1=Gc p.2:=by
 obtain⟨b,hb,e⟩:=AB8.mp hp
 cases q:h.get? b with
 |none=>rw[q]at e;cases e
 |some o=>
  rw[q]at e
  have e':(b,o)=p:=wR e
  subst e'
  exact⟨hb,q⟩
def Inv.pinned{σ:St}(I:Inv X pins σ H s)(hf:∀b∈fp,Qj X pins H b)(ho:∀b∈fp,∃o,s.heap.get? b=Gc o/\∀v,o.data≠.cell v):Inv X (pins++Pl fp s.heap) σ H s:=
 I.WJ λp hp=>(vD.mp hp).elim (λz=>I.pin p (vW _ z)) λz=>by
  obtain⟨hb,e⟩:=WR z
  obtain⟨f0,f1,f2,_⟩:=hf p.1 hb
  obtain⟨o,e',d⟩:=ho p.1 hb
  rw[e]at e';cases e'
  exact⟨e,f0,f1,f2,d⟩
def Inv.LN{pins pl:Wp (uf×Obj)}{σ:St}{s:ui}(I:Inv X (pins++pl) σ H s):Inv X pins σ H s:=I.WJ λp hp=>I.pin p (vW _ (zh _ hp))
def iX(hp:PassesOwn (model X.prog X.w) X.A X.env X.xe)(hc:X.calm=true)(hi:PI X tg iter wi)(hg:PG X tg g)(hb:PSs X body tb)(hs:zn (∀x,foldedSetIterable iter X.env x=pure x) xL):PS X (.For tg iter body [] pos) (sP wi g tb):=by
 intro pins s σ H D I h
 refine wpAny_For (thn (hi pins s σ H _ I h) λv s1 h1=>thn h1 λitv s2 h2=>?_) hs
 obtain⟨it,fp,tn,J,H2,e,I2,T,st2,f2,W,⟨m0,w0⟩,turn⟩:=h2
 subst e
 have stat:∀{H':Hp},(∀b∈fp,H' b=none)->∀b∈fp,Qj X pins H' b:=λhn b hb=>⟨hn b hb,(f2 b hb).2⟩
 refine codeAny_forLoop_any (λn s'=>∃i σ' H',Inv X pins σ' H' s'/\tn i s'.heap/\(∀b∈fp,H' b=none)/\W i n σ' H') ?_ m0 ⟨0,σ,H2,I2,st2,λb hb=>(f2 b hb).1,w0⟩
 rintro n s3 ⟨i,σ3,H3,I3,st3,fr3,w3⟩
 rcases turn i n σ3 H3 w3 with⟨stop,qn⟩|⟨go,N,hN,step⟩
 .refine xY hp (thn (T.done X rfl rfl rfl hc i pins s3 σ3 H3 X.xe I3 (stat fr3) st3 stop) λr s4 ⟨hr,I4⟩=>?_)
  subst hr
  exact yw ⟨σ3,H3,I4,qn⟩
 .refine xY hp (thn (T.item X rfl rfl rfl hc i pins s3 σ3 H3 X.xe I3 (stat fr3) st3 go) λr s4 ⟨u,hr,h4⟩=>?_)
  subst hr
  refine xY hp (thn h4 λ_ s5 z=>?_)
  obtain⟨x,H5,I5,r5,y5,st5,fr5⟩:=z
  have I5':=I5.pinned (stat fr5) (T.obj _ _ st5)
  refine xY hp (thn (hg _ s5 σ3 H5 x u _ I5' r5 (step x H5 y5)) λ_ s6 z=>?_)
  obtain⟨σ6,H6,I6,q6⟩:=z
  refine xY hp (thn (hb _ s6 σ6 H6 _ I6 q6) λf s7 q7=>?_)
  have again:∀{σ7:St} {H7:Hp},Inv X (pins++Pl fp s5.heap) σ7 H7 s7->N σ7 H7->∃m,m<n/\∃i σ' H',Inv X pins σ' H' s7/\tn i s7.heap/\(∀b∈fp,H' b=none)/\W i m σ' H':=λ{σ7 H7} I7 n7=>by
   obtain⟨m',hm,w7⟩:=hN σ7 H7 n7
   refine⟨m',hm,i+1,σ7,H7,I7.LN,T.keep _ _ _ st5 λb hb o e=>(I7.pin (b,o) (vW _ (vW _ (IH hb e)))).1,λb hb=>?_,w7⟩
   obtain⟨o,e,d⟩:=T.obj _ _ st5 b hb
   exact(I7.pin (b,o) (vW _ (vW _ (IH hb e)))).2.1
  cases f with
  |next=>obtain⟨σ7,H7,I7,n7⟩:=q7;exact again I7 n7
  |cont=>obtain⟨σ7,H7,I7,n7⟩:=q7;exact again I7 n7
  |brk=>obtain⟨σ7,H7,I7,q7⟩:=q7;exact⟨σ7,H7,I7.LN,q7⟩
  |ret v=>obtain⟨x7,σ7,H7,I7,r7,q7⟩:=q7;exact⟨x7,σ7,H7,I7.LN,r7,q7⟩
end
end L2
namespace L2
open PySem PySem.Spec PyProof.Rows
abbrev R2:=V->V->Hp->VK->Prop
def OpR(X:Cx)(f:uX->uX->Sem uX)(r:R2):Prop:=
 ∀(pins:Wp (uf×Obj)) (s:ui) (σ:St) (H:Hp) (x y:V) (v u:uX) (Q:VK),Inv X pins σ H s->RelV x v->RelV y u->r x y H Q->
  wpAny (model X.prog X.w) X.A (f v u) (EP X pins σ Q) X.xe s
def UnR(X:Cx)(f:uX->Sem uX)(r:V->Hp->VK->Prop):Prop:=
 ∀(pins:Wp (uf×Obj)) (s:ui) (σ:St) (H:Hp) (x:V) (v:uX) (Q:VK),Inv X pins σ H s->RelV x v->r x H Q->
  wpAny (model X.prog X.w) X.A (f v) (EP X pins σ Q) X.xe s
def Eg(X:Cx)(f:uX)(r:Wp V->Hp->VK->Prop):Prop:=
 ∀(pins:Wp (uf×Obj)) (s:ui) (σ:St) (H:Hp) (xs:Wp V) (us:Wp uX) (Q:VK),Inv X pins σ H s->Vals xs us->r xs H Q->
  wpAny (model X.prog X.w) X.A (call f us) (EP X pins σ Q) X.xe s
noncomputable def tOp(r:R2)(ta tb:TE):TE:=λσ H Q=>ta σ H λx H1=>tb σ H1 λy H2=>r x y H2 Q
noncomputable def tUn(r:V->Hp->VK->Prop)(ta:TE):TE:=λσ H Q=>ta σ H λx H1=>r x H1 Q
noncomputable def rI(C:Int->Int->Prop)(g:Int->Int->V):R2:=λx y H Q=>∃i j,x=.int i/\y=.int j/\C i j/\Q (g i j) H
noncomputable def rI0(g:Int->Int->V):R2:=λx y H Q=>∃i j,x=.int i/\y=.int j/\Q (g i j) H
def rU(g:Int->V):V->Hp->VK->Prop:=λx H Q=>∃i,x=.int i/\Q (g i) H
section
variable{X:Cx}{a b c:vi}{ta tb tc:TE}{pos:Pos}
def oH(ha:PE X a ta)(hb:PE X b tb){σ:St}{R:V->V->Hp->Prop}(I:Inv X pins σ H s)(h:ta σ H λx H1=>tb σ H1 λy H2=>R x y H2){f:uX->uX->Sem uX}(hf:∀v u s2 x y H2,Inv X pins σ H2 s2->RelV x v->RelV y u->R x y H2->wpAny (model X.prog X.w) X.A (f v u) Q X.xe s2):wpAny (model X.prog X.w) X.A (eval a X.env) (λv s₁=>wpAny (model X.prog X.w) X.A (eval b X.env) (λu s₂=>wpAny (model X.prog X.w) X.A (f v u) Q X.xe s₂) X.xe s₁) X.xe s:=by
 refine thn (ha pins s σ H _ I h) λv s1 z=>?_
 obtain⟨x,H1,I1,r1,q1⟩:=z
 refine thn (hb pins s1 σ H1 _ I1 q1) λu s2 z=>?_
 obtain⟨y,H2,I2,r2,q2⟩:=z
 exact hf v u s2 x y H2 I2 r1 r2 q2
def nQ{op:Operator}{r:R2}(ho:OpR X (binaryOp op) r)(ha:PE X a ta)(hb:PE X b tb):PE X (.BinOp a op b pos) (tOp r ta tb):=by
 intro pins s σ H Q I h
 exact wpAny_BinOp (oH ha hb I h λv u s2 x y H2 I2 rx ry q=>ho pins s2 σ H2 x y v u Q I2 rx ry q)
def nk{op:UnaryOp}{r:V->Hp->VK->Prop}(ho:UnR X (unaryOp op) r)(ha:PE X a ta):PE X (.UnaryOp op a pos) (tUn r ta):=by
 intro pins s σ H Q I h
 exact UnaryOp_ (thn (ha pins s σ H _ I h) λv s1 ⟨x,H1,I1,r1,q1⟩=>ho pins s1 σ H1 x v Q I1 r1 q1)
def opI{C:Int->Int->Prop}{g:Int->Int->Int}(rule:∀i j (t u:Tok) s Q E,C i j->Q (.int (g i j) s.toks) {s with toks:=s.toks+1}->wpAny (model X.prog X.w) X.A (f (.int i t) (.int j u)) Q E s):OpR X f (rI C λi j=>.int (g i j)):=by
 intro pins s σ H x y v u Q I rx ry h
 obtain⟨i,j,rfl,rfl,hc,q⟩:=h
 obtain⟨t,rfl⟩:=rx
 obtain⟨t',rfl⟩:=ry
 exact rule i j t t' s _ _ hc ⟨.int (g i j),H,I.tok _,⟨_,rfl⟩,q⟩
def rH{g:Int->Int->Int}(rule:∀i j (t u:Tok) s Q E,Q (.int (g i j) s.toks) {s with toks:=s.toks+1}->wpAny (model X.prog X.w) X.A (f (.int i t) (.int j u)) Q E s):OpR X f (rI0 λi j=>.int (g i j)):=by
 intro pins s σ H x y v u Q I rx ry h
 obtain⟨i,j,rfl,rfl,q⟩:=h
 obtain⟨t,rfl⟩:=rx
 obtain⟨t',rfl⟩:=ry
 exact rule i j t t' s _ _ ⟨.int (g i j),H,I.tok _,⟨_,rfl⟩,q⟩
def mG{g:Int->Int->vZ}(rule:∀i j (t u:Tok) s Q E,Q (.bool (g i j)) s->wpAny (model X.prog X.w) X.A (f (.int i t) (.int j u)) Q E s):OpR X f (rI0 λi j=>.bl (g i j)):=by
 intro pins s σ H x y v u Q I rx ry h
 obtain⟨i,j,rfl,rfl,q⟩:=h
 obtain⟨t,rfl⟩:=rx
 obtain⟨t',rfl⟩:=ry
 exact rule i j t t' s _ _ ⟨.bl (g i j),H,I,rfl,q⟩
def tV(i j:Int):Prop:=0<=j/\j<=1000000/\i.natAbs<2^64
def ny(i j:Int):Prop:=(-(2^64)<i/\i<2^64)\/(-(2^64)<j/\j<2^64)
def ny.ok{i j:Int}(h:ny i j):IntMulOk i j:=by
 rcases h with⟨h1,h2⟩|⟨h1,h2⟩
 .exact .of_left (intBits_le_64 h1 h2)
 .exact .of_right (intBits_le_64 h1 h2)
def jU:OpR X (binaryOp .Add) (rI0 λi j=>.int (i+j)):=rH λ_ _ _ _ _ _ _ q=>add_int q
def ju:OpR X (binaryOp .Sub) (rI0 λi j=>.int (i-j)):=rH λ_ _ _ _ _ _ _ q=>sub_int q
def Y1:OpR X (binaryOp .Mult) (rI ny λi j=>.int (i*j)):=opI λ_ _ _ _ _ _ _ hc q=>mul_int q hc.ok
def iO:OpR X (binaryOp .Mod) (rI (λ_ j=>0<j) λi j=>.int (i % j)):=opI λi j _ _ _ _ _ hc q=>by
 have h1:(0:Int)<j:=hc
 exact mod_int' (by lia) (by rw[Int.fmod_eq_emod_of_nonneg i (by lia)];exact q)
def jI:OpR X (binaryOp .Pow) (rI tV λi j=>.int (i^j.toNat)):=opI λ_ _ _ _ _ _ _ hc q=>pow_int_small hc.1 hc.2.1 hc.2.2 q
def unI{g:Int->Int}(rule:∀i (t:Tok) s Q E,Q (.int (g i) s.toks) {s with toks:=s.toks+1}->wpAny (model X.prog X.w) X.A (f (.int i t)) Q E s):UnR X f (rU λi=>.int (g i)):=by
 intro pins s σ H x v Q I rx h
 obtain⟨i,rfl,q⟩:=h
 obtain⟨t,rfl⟩:=rx
 exact rule i t s _ _ ⟨.int (g i),H,I.tok _,⟨_,rfl⟩,q⟩
def jx:UnR X (unaryOp .USub) (rU λi=>.int (-i)):=unI λ_ _ _ _ _ q=>neg_int q
end
section
variable{X:Cx}{a b c:vi}{ta tb tc:TE}{pos:Pos}
def Zi{σ:St}(I:Inv X pins σ H s)(q:Q (.bl k) H)(e:k=k'):EP X pins σ Q (.bool k') s:=by
 subst e
 exact⟨.bl k,H,I,rfl,q⟩
def iu:OpR X (compareOp .Lt) (rI0 λi j=>.bl (decide (i<j))):=mG λ_ _ _ _ _ _ _ q=>lt_int q
def YT:OpR X (compareOp .LtE) (rI0 λi j=>.bl (decide (i<=j))):=mG λ_ _ _ _ _ _ _ q=>le_int q
def nM:OpR X (compareOp .Gt) (rI0 λi j=>.bl (decide (j<i))):=mG λ_ _ _ _ _ _ _ q=>gt_int q
def ou:OpR X (compareOp .GtE) (rI0 λi j=>.bl (decide (j<=i))):=mG λ_ _ _ _ _ _ _ q=>ge_int q
def gM:OpR X (compareOp .Is) (λx y H Q=>y=.non/\Q (.bl (decide (x=.non))) H):=by
 intro pins s σ H x y v u Q I rx ry h
 obtain⟨rfl,q⟩:=h
 cases ry
 refine is_none_gen (Zi I q ?_)
 cases x<;>first
  |(cases rx;rfl)
  |(obtain⟨t,rfl⟩:=rx;rfl)
def bV:OpR X (compareOp .IsNot) (λx y H Q=>y=.non/\Q (.bl (!decide (x=.non))) H):=by
 intro pins s σ H x y v u Q I rx ry h
 obtain⟨rfl,q⟩:=h
 cases ry
 refine isnot_none_gen (Zi I q ?_)
 cases x<;>first
  |(cases rx;rfl)
  |(obtain⟨t,rfl⟩:=rx;rfl)
def dY{op:CmpOp}{r:R2}(ho:OpR X (compareOp op) r)(ha:PE X a ta)(hb:PE X b tb)(hm:behindInMarks op b=false):PE X (.Compare a [op] [b] pos) (tOp r ta tb):=by
 intro pins s σ H Q I h
 exact wpAny_Compare1 (oH ha hb I h λv u s2 x y H2 I2 rx ry q=>ho pins s2 σ H2 x y v u Q I2 rx ry q) hm
noncomputable def jA(t:TE):TT:=λσ H Q=>t σ H λx H'=>∃k,x=.bl k/\Q k H'
def VF{op:CmpOp}{r:R2}(ho:OpR X (compareOp op) r)(ha:PE X a ta)(hb:PE X b tb)(hm:behindInMarks op b=false):PT X (.Compare a [op] [b] pos) (jA (tOp r ta tb)):=by
 intro pins s σ H Q I h
 refine wpAny_isTrue_Compare1 (thn (ha pins s σ H _ I h) λv s1 ⟨x,H1,I1,r1,q1⟩=>thn (hb pins s1 σ H1 _ I1 q1) λu s2 ⟨y,H2,I2,r2,q2⟩=>
  thn (ho pins s2 σ H2 x y v u _ I2 r1 r2 q2) λc s3 ⟨z,H3,I3,r3,k,e,q3⟩=>?_) hm
 subst e
 cases r3
 exact w9 ⟨H3,I3,q3⟩
noncomputable def VQ(r r':R2)(ta tb tc:TE):TE:=λσ H Q=>ta σ H λx H1=>tb σ H1 λy H2=>r x y H2 λz H3=>∃k,z=.bl k/\
 (if k=true then tc σ H3 λw' H4=>r' y w' H4 Q else Q (.bl false) H3)
def R0{op op':CmpOp}{r r':R2}(ho:OpR X (compareOp op) r)(ho':OpR X (compareOp op') r')(ha:PE X a ta)(hb:PE X b tb)(hc:PE X c tc)(hm:zn (lastMarks [op,op'] [b,c]=false) wr):PE X (.Compare a [op,op'] [b,c] pos) (VQ r r' ta tb tc):=by
 intro pins s σ H Q I h
 refine Compare_chain (thn (ha pins s σ H _ I h) λv s1 ⟨x,H1,I1,r1,q1⟩=>chain_link (thn (hb pins s1 σ H1 _ I1 q1) λu s2 ⟨y,H2,I2,r2,q2⟩=>
  thn (ho pins s2 σ H2 x y v u _ I2 r1 r2 q2) λd s3 ⟨z,H3,I3,r3,k,e,q3⟩=>?_)) hm
 subst e
 cases r3
 refine w9 ?_
 cases k with
 |false=>exact ite_ff ⟨.bl false,H3,I3,rfl,q3⟩
 |true=>exact ite_tt (chain_last (thn (hc pins s3 σ H3 _ I3 q3) λw' s4 ⟨z',H4,I4,r4,q4⟩=>ho' pins s4 σ H4 y z' u w' Q I4 r2 r4 q4))
def PL:(sizeLine:Nat)<2^63:=by rw[xI];decide
def Sw:OpR X (binaryOp .Add) (λx y H Q=>∃i j,x=.str i/\y=.str j/\i.length+j.length<=sizeLine/\Q (.str (i++j)) H):=by
 intro pins s σ H x y v u Q I rx ry h
 obtain⟨i,j,rfl,rfl,hz,q⟩:=h
 obtain⟨t,rfl⟩:=rx
 obtain⟨t',rfl⟩:=ry
 exact add_str (λt' tk=>⟨.str (i++j),H,I.tok _,⟨_,rfl⟩,q⟩) hz
def vals1{x:V}{us:Wp uX}(r:Vals [x] us):∃u,us=[u]/\RelV x u:=by
 cases r with
 |cons r1 r2=>cases r2;exact⟨_,rfl,r1⟩
def vals2{x y:V}{us:Wp uX}(r:Vals [x,y] us):∃u w',us=[u,w']/\RelV x u/\RelV y w':=by
 cases r with
 |cons r1 r2=>
  cases r2 with
  |cons r3 r4=>cases r4;exact⟨_,_,rfl,r1,r3⟩
def Ye:Eg X (.builtin "abs") (λxs H Q=>∃i,xs=[.int i]/\Q (.int (if i<0 then-i else i)) H):=by
 intro pins s σ H xs us Q I r h
 obtain⟨i,rfl,q⟩:=h
 obtain⟨u,rfl,t,rfl⟩:=vals1 r
 exact call_abs_int λu tk=>⟨.int (if i<0 then-i else i),H,I.tok _,⟨_,rfl⟩,q⟩
def Uq(hc:X.calm=true):Eg X (.builtin "min") (λxs H Q=>∃i j,xs=[.int i,.int j]/\Q (.int (if j<i then j else i)) H):=by
 intro pins s σ H xs us Q I r h
 obtain⟨i,j,rfl,q⟩:=h
 obtain⟨u,w',rfl,⟨t,rfl⟩,⟨t',rfl⟩⟩:=vals2 r
 refine min_two_ints (I.ok.hd hc) λh' tk k=>⟨_,H,I.kept k,?_,q⟩
 by_cases hj:j<i
 .rw[vC hj,vC hj];exact⟨_,rfl⟩
 .rw[vB hj,vB hj];exact⟨_,rfl⟩
def Px:Eg X (.type "int") (λxs H Q=>(∃i,xs=[.int i]/\Q (.int i) H)\/∃k,xs=[.bl k]/\Q (.int (if k then 1 else 0)) H):=by
 intro pins s σ H xs us Q I r h
 rcases h with⟨i,rfl,q⟩|⟨k,rfl,q⟩
 .obtain⟨u,rfl,t,rfl⟩:=vals1 r
  exact call_int_int ⟨.int i,H,I,⟨_,rfl⟩,q⟩
 .obtain⟨u,rfl,r1⟩:=vals1 r
  cases r1
  exact call_int_bool ⟨.int (if k then 1 else 0),H,I.tok _,⟨_,rfl⟩,q⟩
end
end L2
namespace L2
open PySem PySem.Spec PyProof.Rows
structure cc(h:vq)(x dx C:uf)(mA:Str->uR uX):Prop where
 obj:h.get? x=Gc (xC C dx)
 ns:h.Ns1 dx mA
 ne:dx≠x
def QD{h:vq}{mA:Str->uR uX}(n:h.Ns1 dx mA):∃od,h.get? dx=Gc od/\∀name,AAL name od=Gc (mA name):=by
 obtain⟨o,es,ep,ho,hd,hk,_,hm⟩:=n
 refine⟨o,ho,λname=>?_⟩
 have e:=hm name
 unfold nsFind findBy at e
 rw[<-AB9]at e
 unfold AAL
 rw[hd]
 dsimp only
 split
 .rename_i y q
  rw[q]at e
  exact congrArg Gc e
 .rename_i q
  rw[q]at e
  have a:es.toList.any (·.refKey)=false:=by
   rw[List.any_eq_false]
   intro y hy
   obtain⟨z,t,hkey⟩:=hk y (Array.mem_toList_iff.mp hy)
   simp[DictEntry.refKey,hkey]
  have a':¬es.toList.any (·.refKey)=true:=by rw[a];exact vY
  rw[vB a']
  exact congrArg Gc e
def cc.look{mA:Str->uR uX}(I:cc h x dx C mA):∃od,zC h x (xC C dx) C (Gc od)/\∀name,AAL name od=Gc (mA name):=
 let⟨od,ho,hl⟩:=QD I.ns
 ⟨od,⟨I.obj,rfl,rfl,ho⟩,hl⟩
section
variable{prog:va}{w:wG}{A:wy}{E:uX->ui->Prop}{s:ui}{K:W1}{x dx C f:uf}{mA:Str->uR uX}{name:Str}{v:uX}
def get_map{expr:vZ}{Q:uX->ui->Prop}(X:K.In s.heap)(I:cc s.heap x dx C mA)(hg:ye K C name=true)(hh:yU K C=true)(ha:vA K (.ref C) name=Gc none)(hv:mA name=Gc v)(hv':AAr v=true)(h:Q v {s with toks:=s.toks+1}):wpAny (model prog w) A (getAttr (.ref x) name expr) Q E s:=by
 obtain⟨od,J,hl⟩:=I.look
 exact PySem.W.get_value X J (z5 hg).1 (ABq hh ha rfl (by rw[hl,hv])) hv' h
def XF{pl:Sem vZ}{Q:uX×Wp uX->ui->Prop}(X:K.In s.heap)(I:cc s.heap x dx C mA)(hg:ye K C name=true)(hf:vA K (.ref C) name=Gc (Gc (.ref f)))(ht:z8 K (.ref f)=true)(hv:mA name=none)(h:Q (.ref f,[.ref x]) s):wpAny (model prog w) A (getMethod (.ref x) name pl) Q E s:=by
 obtain⟨od,J,hl⟩:=I.look
 exact PySem.W.method_fn X J (z5 hg).1 (z5 hg).2 hf (wI.mp ht) (by show(AAL name od).map (·.isSome)=Gc false;rw[hl,hv];rfl) h
def bF{ns:Wp Str}{Q:Unit->ui->Prop}(X:K.In s.heap)(I:cc s.heap x dx C mA)(hs:vA K (.ref C) "__setattr__"=Gc (Gc (.builtin "object.__setattr__")))(hp:AAe K C=true)(ht:ABG K C name=Gc none)(hh:yU K C=true)(hw:PySem.Within mA ns)(hsz:ns.length<=sizeLine)(h:∀h',cc h' x dx C (λy=>if y=name then Gc v else mA y)->yE dx s.heap h'->Q () {s with heap:=h',toks:=s.toks+2}):wpAny (model prog w) A (setAttr (.ref x) name v) Q E s:=by
 obtain⟨od,J,hl⟩:=I.look
 refine PySem.W.set_plain X J hs (PySem.W.osa_open (s:={s with toks:=s.toks+1}) (r:=none) X J hp ht λb=>?_)
 obtain⟨cd,hc,hd'⟩:=PySem.W.any_some hh
 have hx:s.heap.get? x=Gc ⟨.ref C,Gc dx,.plain, #[]⟩:=I.obj
 refine uP (ug (uP (uP (wpAny_loadPart hx (uP (PySem.W.Looks.here (s:={s with toks:=s.toks+1}) (z6 X hc) ?_))))))
 rw[hd']
 refine ug (a:=Gc dx) (uP (ug (uP ?_)))
 refine wpAny_nsSet1 (s:={s with toks:=s.toks+1}) I.ns λh' hn2 hs2=>?_
 obtain⟨oD,esD,epD,hoD,hdD,hcD⟩:=hn2.count (PySem.Within.cons name v hw)
 refine uP (wpAny_lookBehind hoD (by rw[hdD];exact pastItsLine_dict (uZ hcD (by rw[vG];lia))) ?_)
 exact ug (h _ ⟨(hs2.2 _ (vh I.ne)).trans I.obj,hn2,I.ne⟩ hs2)
def YX{kw:Wp (Str×uX)}(X:K.In s.heap)(hm:ABH K C=true)(hi:vA K (.ref C) "__init__"=Gc (Gc (.ref f)))(hf:PySem.W.typeIn K (.ref f)=Gc (.type "function"))(h:codeAny (model prog w) (A.under (.builtin "type.__call__" ⟨.ref C::vs,kw⟩)) (.call (.ref f) ⟨.ref (s.heap.objs.size+1)::vs,kw⟩) (PySem.W.InitBack (s.heap.objs.size+1) R) {s with heap:=(s.heap.push wK).push (xC C s.heap.objs.size)}):codeAny (model prog w) A (.call (.ref C) ⟨vs,kw⟩) R s:=by
 obtain⟨hh,g,d,t,os⟩:=s
 exact PySem.W.make_core (PySem.W.makes_of X hm) (zk X hi) (λself=>PySem.W.bind_fn X self hf) (.inl rfl) h
end
noncomputable def NL(f:Str)(v:V):Wp (Str×V)->Wp (Str×V)
 | []=>[(f,v)]
 |(g,x)::r=>if g=f then(g,v)::r else(g,x)::NL f v r
theorem L9 f g(v:V):∀fs,(NL f v fs).lookup g=if g=f then Gc v else fs.lookup g
 | []=>by
   show vk g [(f,v)]=_
   by_cases h:g=f
   .have hb:(g==f)=true:=wI.mpr h
    simp only[vk,hb,vC h]
   .have hb:(g==f)=false:=vb.mpr h
    simp only[vk,hb,vB h]
 |(k,x)::r=>by
  have ih:=L9 f g v r
  rw[show NL f v ((k,x)::r)=(if k=f then(k,v)::r else(k,x)::NL f v r)from rfl]
  by_cases hk:k=f
  .rw[vC hk]
   by_cases h:g=k
   .have hb:(g==k)=true:=wI.mpr h
    simp only[vk,hb,vC (h.trans hk)]
   .have hb:(g==k)=false:=vb.mpr h
    simp only[vk,hb,vB (λe:g=f=>h (e.trans hk.symm))]
  .rw[vB hk]
   by_cases h:g=k
   .have hb:(g==k)=true:=wI.mpr h
    simp only[vk,hb,vB (λe:g=f=>hk (h.symm.trans e))]
   .have hb:(g==k)=false:=vb.mpr h
    simp only[vk,hb]
    exact ih
theorem MY f(v:V):∀fs,f∈(NL f v fs).map (·.1)/\∀g,g∈fs.map (·.1)->g∈(NL f v fs).map (·.1)
 | []=>⟨by simp[NL],λg h=>by simp at h⟩
 |(k,x)::r=>by
  obtain⟨i1,i2⟩:=MY f v r
  rw[show NL f v ((k,x)::r)=(if k=f then(k,v)::r else(k,x)::NL f v r)from rfl]
  by_cases hk:k=f
  .rw[vC hk]
   subst hk
   exact⟨by simp,λg h=>by simpa using h⟩
  .rw[vB hk]
   refine⟨?_,λg h=>?_⟩
   .rw[uw]
    exact uW _ i1
   .rw[uw]at h⊢
    rcases uY.mp h with e|e
    .exact uY.mpr (.inl e)
    .exact uW _ (i2 g e)
theorem Lb f(v:V):∀fs,(NL f v fs).length<=fs.length+1
 | []=>by simp[NL]
 |(k,x)::r=>by
  have ih:=Lb f v r
  rw[show NL f v ((k,x)::r)=(if k=f then(k,v)::r else(k,x)::NL f v r)from rfl]
  by_cases hk:k=f
  .rw[vC hk,vG,vG];lia
  .rw[vB hk,vG,vG];lia
def OY.some_of{v:V}{o:uR uX}(r:OY (Gc v) o):∃u,o=Gc u/\RelV v u:=by
 cases o with
 |none=>exact(show wH from r).elim
 |some u=>exact⟨u,rfl,r⟩
def OY.none_of{o:uR uX}(r:OY none o):o=none:=by
 cases o with
 |none=>rfl
 |some u=>exact(show wH from r).elim
def T8{v:V}{u:uX}(r:RelV v u):AAr u=true:=by
 cases v with
 |non=>cases (show u=vL from r);rfl
 |bl b=>cases (show u=AAG b from r);rfl
 |int i=>obtain⟨t,e⟩:=(show∃t,u=AAE i t from r);cases e;rfl
 |str x=>obtain⟨t,e⟩:=(show∃t,u=AAF x t from r);cases e;rfl
 |byt b=>obtain⟨t,e⟩:=(show∃t,u=Value.bytes b t from r);cases e;rfl
 |flt b=>obtain⟨t,e⟩:=(show∃t,u=Value.float b t from r);cases e;rfl
 |ref a=>cases (show u=u5 a from r);rfl
 |ty n=>cases (show u=AAH n from r);rfl
section
variable{P:va}{w:wG}{H H':Hp}{h h':vq}{a C dx:uf}{fs fs':Wp (Str×V)}
def Oc(hok:HOk P w H h)(e:H a=Gc (.ins C dx fs)):∃mA,cc h a dx C mA/\(∀f,OY (fs.lookup f) (mA f))/\PySem.Within mA (fs.map (·.1))/\fs.length<=1000/\H dx=Gc (.own a):=by
 obtain⟨d,z,ne,ob,mA,n,r,q⟩:=(show CT P w H h a (.ins C dx fs)from hok a _ e)
 exact⟨mA,⟨ob,n,ne⟩,r,q,z,d⟩
end
structure Cls(K:W1)(C:uf):Prop where
 pg:ye K C Str.empty=true
 hd:yU K C=true
 po:AAe K C=true
 sa:vA K (.ref C) "__setattr__"=Gc (Gc (.builtin "object.__setattr__"))
def Cls.get{K:W1}(c:Cls K C)(f:Str):ye K C f=true:=c.pg
def HU(K:W1)(C:uf)(f:Str):Prop:=vA K (.ref C) f=Gc none
def HU.pD{K:W1}{f:Str}(n:HU K C f):ABG K C f=Gc none:=by
 unfold ABG
 rw[show vA K (.ref C) f=Gc none from n]
 rfl
structure Con(K:W1)(C:uf)(f:Str)(v:V)(u:uX):Prop where
 at_:vA K (.ref C) f=Gc (Gc u)
 rel:RelV v u
 get:zD K u "__get__"=Gc none
 cp:PySem.W.copiedNames.contains f=false
structure Meth(K:W1)(C:uf)(m:Str)(f:uf):Prop where
 at_:vA K (.ref C) m=Gc (Gc (.ref f))
 fn:z8 K (.ref f)=true
 kp:vm K (.ref f)=true
section
variable{X:Cx}{pins:Wp (uf×Obj)}{σ:St}{H:Hp}{s:ui}{a C dx:uf}{fs:Wp (Str×V)}{f:Str}{v:V}{A:wy}{E:uX->ui->Prop}
def Sj{b:vZ}{Q:uX->ui->Prop}(I:Inv X pins σ H s)(e:H a=Gc (.ins C dx fs))(c:Cls X.K C)(n:HU X.K C f)(l:fs.lookup f=Gc v)(h:∀u s',Inv X pins σ H s'->RelV v u->Q u s'):wpAny (model X.prog X.w) A (getAttr (.ref a) f b) Q E s:=by
 obtain⟨mA,O,r,_,_,_⟩:=Oc I.hok e
 obtain⟨u,hu,ru⟩:=OY.some_of (v:=v) (o:=mA f) (by rw[<-l];exact r f)
 exact get_map I.kIn O (c.get f) c.hd n hu (T8 ru) (h u _ (I.tok _) ru)
def KP{Q:uX×Wp uX->ui->Prop}(I:Inv X pins σ H s)(e:H a=Gc (.ins C dx fs))(c:Cls X.K C)(k:Meth X.K C m g)(l:fs.lookup m=none)(h:Q (.ref g,[.ref a]) s):wpAny (model X.prog X.w) A (getMethod (.ref a) m pl) Q E s:=by
 obtain⟨mA,O,r,_,_,_⟩:=Oc I.hok e
 have hn:mA m=none:=OY.none_of (by rw[<-l];exact r m)
 exact XF I.kIn O (c.get m) k.at_ k.fn hn h
def SK{Q:Unit->ui->Prop}(I:Inv X pins σ H s)(e:H a=Gc (.ins C dx fs))(c:Cls X.K C)(n:HU X.K C f)(hl:fs.length<1000)(ry:RelV y u)(h:∀s',Inv X pins σ (upd H a (.ins C dx (NL f y fs))) s'->Q () s'):wpAny (model X.prog X.w) A (setAttr (.ref a) f u) Q E s:=by
 obtain⟨mA,O,r,wi,_,ho⟩:=Oc I.hok e
 have hz:(fs.map (·.1)).length<=sizeLine:=by rw[vN,xI];lia
 refine bF I.kIn O c.sa c.po n.pD c.hd wi hz λh' O' sb=>h _ ?_
 have hd:∃o,h'.get? dx=Gc o:=let⟨o,_,_,e',_⟩:=O'.ns;⟨o,e'⟩
 refine I.write (x:=a) (e:=dx) (by rw[e];exact xM) (.inr ho) (λb q hb z=>(sb.2 b hb).trans z) hd ?_
 refine⟨by rw[AM O.ne];exact ho,?_,O.ne,O'.obj,_,O'.ns,λg=>?_,λg hg=>?_⟩
 .have:=Lb f y fs;lia
 .show OY ((NL f y fs).lookup g) (if g=f then Gc u else mA g)
  rw[L9]
  by_cases q:g=f
  .rw[vC q,vC q];exact ry
  .rw[vB q,vB q];exact r g
 .by_cases q:g=f
  .rw[q];exact(MY f y fs).1
  .refine(MY f y fs).2 g (wi g λz=>hg ?_)
   show(if g=f then Gc u else mA g)=none
   rw[vB q];exact z
def Inv.made(I:Inv X pins σ H s):Inv X pins σ (upd (upd H s.heap.objs.size (.own (s.heap.objs.size+1))) (s.heap.objs.size+1) (.ins C s.heap.objs.size [])) {s with heap:=(s.heap.push wK).push (xC C s.heap.objs.size)}:=by
 have e1:(s.heap.push wK).get? s.heap.objs.size=Gc wK:=ux s.heap rfl
 have e2:((s.heap.push wK).push (xC C s.heap.objs.size)).get? (s.heap.objs.size+1)=Gc (xC C s.heap.objs.size):=by
  have:=ux (s.heap.push wK) (o:=xC C s.heap.objs.size) rfl
  rwa [v5]at this
 have e3:(s.heap.push wK).Ns s.heap.objs.size (λ_=>none):=⟨wK, #[],_,e1,rfl,(λe he=>absurd he (by simp)),λ_=>rfl⟩
 have I1:=I.laid (a:=s.heap.objs.size) (o:=.own (s.heap.objs.size+1)) (h':=s.heap.push wK) (t':=s.toks) (λb u q=>uQ _ q) (uc _) ⟨_,e1⟩
 refine I1.laid (a:=s.heap.objs.size+1) (o:=.ins C s.heap.objs.size []) (t':=s.toks) (λb u q=>uQ _ q) (Nat.le_of_eq (v5 _ _)) ?_
 have ne:s.heap.objs.size≠s.heap.objs.size+1:=vE (AAs _)
 refine⟨by rw[AM ne,AX],wL _,ne,e2,λ_=>none,(Heap.Ns1.of_empty e3).at λo q=>uQ _ q,λ_=>xM,λy hy=>absurd rfl hy⟩
def WV(hb:attributeBase e f env (eval e env)=eval e env)(h:wpAny (model prog w) A (eval e env) (λo s₁=>wpAny (model prog w) A (getAttr o f true) Q E s₁) E s):wpAny (model prog w) A (eval (.Attribute e f pos) env) Q E s:=
 Attribute_any_ h (by rw[arm_eval_Attribute,hb])
end
noncomputable def sf(K:W1)(ta:TE)(f:Str):TE:=λσ H Q=>ta σ H λx H1=>∃a C dx fs v,x=.ref a/\H1 a=Gc (.ins C dx fs)/\Cls K C/\HU K C f/\fs.lookup f=Gc v/\Q v H1
noncomputable def so(K:W1)(ta tv:TE)(f:Str):TS:=λD σ H=>tv σ H λy H1=>ta σ H1 λx H2=>∃a C dx fs,x=.ref a/\H2 a=Gc (.ins C dx fs)/\Cls K C/\HU K C f/\fs.length<1000/\
 D.nx σ (upd H2 a (.ins C dx (NL f y fs)))
section
variable{X:Cx}{o e value:vi}{f:Str}{pos pos' tpos:Pos}{ta tv:TE}
def f9(he:PE X e ta)(hb:attributeBase e f X.env (eval e X.env)=eval e X.env):PE X (.Attribute e f pos) (sf X.K ta f):=by
 intro pins s σ H Q I h
 refine WV hb (thn (he pins s σ H _ I h) λu s1 z=>?_)
 obtain⟨x,H1,I1,rx,a,C,dx,fs,v,ex,ea,c,n,l,q⟩:=z
 subst ex
 obtain rfl:u=u5 a:=rx
 exact Sj I1 ea c n l λu' s2 I2 ru=>⟨v,H1,I2,ru,q⟩
def fU(ha:PE X o ta)(hv:PE X value tv)(hs:swapsWith value (Gc (.Attribute o f pos')) pos.line X.env=pure false):PS X (.Assign [.Attribute o f pos'] value pos) (so X.K ta tv f):=by
 intro pins s σ H D I h
 refine zR (thn (hv pins s σ H _ I h) λu s1 ⟨y,H1,I1,ry,q⟩=>thn (ha pins s1 σ H1 _ I1 q) λov s2 z=>?_) hs
 obtain⟨x,H2,I2,rx,a,C,dx,fs,ex,ea,c,n,l,q2⟩:=z
 subst ex
 obtain rfl:ov=u5 a:=rx
 exact SK I2 ea c n l ry λs3 I3=>⟨σ,_,I3,q2⟩
end
section
variable{X:Cx}{pins:Wp (uf×Obj)}{σ:St}{H:Hp}{s:ui}{A:wy}{E:uX->ui->Prop}{Q:uX->ui->Prop}{c:uX}{b:vZ}
inductive T6(K:W1)(H:Hp):V->uX->Prop where
 |non:T6 K H .non (.type "NoneType")
 |bl (x:vZ):T6 K H (.bl x) (.type "bool")
 |int (i:Int):T6 K H (.int i) (.type "int")
 |str (x:Str):T6 K H (.str x) (.type "str")
 |flt (x:UInt64):T6 K H (.flt x) (.type "float")
 |lst {a:uf} {xs:Wp V} (e:H a=Gc (.lst xs)):T6 K H (.ref a) (.type "list")
 |frz {a:uf} {o:Obj} {xs:Wp V} (e:H a=Gc (.frz o (.lst xs))):T6 K H (.ref a) (.type "list")
 |tup {a:uf} {xs:Wp V} (e:H a=Gc (.tup xs)):T6 K H (.ref a) (.type "tuple")
 |dK {a:uf} {kvs:Wp (Key×V)} (e:H a=Gc (.dK kvs)):T6 K H (.ref a) (.type "dict")
 |dT {a:uf} {kvs:Wp (Wp Key×V)} (e:H a=Gc (.dT kvs)):T6 K H (.ref a) (.type "dict")
 |ins {a C dx:uf} {fs:Wp (Str×V)} (e:H a=Gc (.ins C dx fs)) (cl:Cls K C) (ha:vA K (.ref C) "__class__"=Gc (Gc (.builtin "object.__class__")))
   (hn:zD K (.builtin "object.__class__") "__get__"=Gc (Gc (.builtin "getset_descriptor.__get__"))) (htk:PySem.W.takesIn K (.builtin "object.__class__")=Gc true)
   (hm:xr K C (.type "object")=Gc true):T6 K H (.ref a) (.ref C)
def FG{x:V}{u t:uX}(I:Inv X pins σ H s)(rx:RelV x u)(ty:T6 X.K H x t)(e:xN X.K t c=Gc b)(h:∀tk,Q (.bool b) {s with toks:=tk}):wpAny (model X.prog X.w) A (call (.builtin "isinstance") [u,c]) Q E s:=by
 cases ty with
 |non=>cases (show u=vL from rx);exact v7 PySem.W.kitx_none I.kIn xM e (λz=>nomatch z) h
 |bl y=>cases (show u=AAG y from rx);exact v7 PySem.W.kitx_bool I.kIn xM e (λz=>nomatch z) h
 |int i=>obtain⟨t,q⟩:=(show∃t,u=AAE i t from rx);cases q;exact v7 PySem.W.kitx_int I.kIn xM e (λz=>nomatch z) h
 |str y=>obtain⟨t,q⟩:=(show∃t,u=AAF y t from rx);cases q;exact v7 PySem.W.kitx_str I.kIn xM e (λz=>nomatch z) h
 |flt y=>obtain⟨t,q⟩:=(show∃t,u=Value.float y t from rx);cases q;exact v7 PySem.W.kitx_float I.kIn xM e (λz=>nomatch z) h
 | @lst a xs ea=>
   cases (show u=u5 a from rx)
   obtain⟨_,_,n,_,h1⟩:=(show CT X.prog X.w H s.heap a (.lst xs)from I.hok a _ ea)
   exact v7 PySem.W.kitx_list I.kIn ⟨_,h1,rfl⟩ e (λz=>nomatch z) h
 | @frz a ob xs ea=>
   cases (show u=u5 a from rx)
   obtain⟨_,_,_,n,_,h1⟩:=(show CT X.prog X.w H s.heap a (.frz ob (.lst xs))from I.hok a _ ea)
   exact v7 PySem.W.kitx_list I.kIn ⟨_,h1,rfl⟩ e (λz=>nomatch z) h
 | @tup a xs ea=>
   cases (show u=u5 a from rx)
   obtain⟨_,_,_,p⟩:=(show CT X.prog X.w H s.heap a (.tup xs)from I.hok a _ ea)
   obtain⟨o,h1,h2,_⟩:=p
   exact v7 ACA I.kIn ⟨o,h1,h2⟩ e (λz=>nomatch z) h
 | @dK a kvs ea=>
   cases (show u=u5 a from rx)
   obtain⟨_,_,vs,_,p⟩:=(show CT X.prog X.w H s.heap a (.dK kvs)from I.hok a _ ea)
   obtain⟨o,es,ep,h1,h2,_⟩:=p
   exact v7 PySem.W.kitx_dict I.kIn ⟨o,h1,h2.1⟩ e (λz=>nomatch z) h
 | @dT a kvs ea=>
   cases (show u=u5 a from rx)
   obtain⟨_,_,xs,_,o,es,ep,h1,h2,_⟩:=(show CT X.prog X.w H s.heap a (.dT kvs)from I.hok a _ ea)
   exact v7 PySem.W.kitx_dict I.kIn ⟨o,h1,h2.1⟩ e (λz=>nomatch z) h
 | @ins a C dx fs ea cl ha hn htk hm=>
   cases (show u=u5 a from rx)
   obtain⟨mA,O,_⟩:=Oc I.hok ea
   obtain⟨od,J,_⟩:=O.look
   exact v7 (PySem.W.kitx_own (cl.get _) cl.hd ha hn htk hm) I.kIn J e (λz=>nomatch z) h
end
end L2
namespace L2
open PySem PySem.Spec PyProof.Rows
structure Cj(k:Nat)(A:wy):Prop where
 hd:A.handled=none
 dp:A.depth+3*k+5<recursionLimit
 un:A.units+16*k+200<cLine
def Cj.mono{j k:Nat}{A:wy}(r:Cj k A)(h:j<=k):Cj j A:=⟨r.hd,by have:=r.dp;lia,by have:=r.un;lia⟩
def Cj.deeper(r:Cj (k+1) A)(env:Env):Cj k (A.deeper env):=
 ⟨r.hd,by have:=r.dp;show A.depth+1+3*k+5<_;lia,by have:=r.un;show A.units+3+16*k+200<_;lia⟩
def Tc{A:wy}{kw:Wp (Str×uX)}:(A.under (.builtin "type.__call__" ⟨.ref C::us,kw⟩)).depth=A.depth+1:=by
 first|rfl|simp[Around.under,Code.weight,Code.isCreation,Code.isGuard,Code.isCaller,Code.frames,Code.isFrame,guardIds]
def Su{A:wy}{kw:Wp (Str×uX)}:(A.under (.builtin "type.__call__" ⟨.ref C::us,kw⟩)).units=A.units+1:=by
 first|rfl|simp[Around.under,Code.cUnits,Code.frames,Code.isFrame]
def Cj.make(r:Cj (k+1) A) C us kw:Cj k (A.under (.builtin "type.__call__" ⟨.ref C::us,kw⟩)):=
 ⟨r.hd,by have:=r.dp;rw[Tc];lia,by have:=r.un;rw[Su];lia⟩
def Cj.depth{k:Nat}{A:wy}(r:Cj k A):A.depth<recursionLimit:=by have:=r.dp;lia
noncomputable def oq:TA:=λ_ H Q=>Q [] H
noncomputable def jb(ta:TE)(tr:TA):TA:=λσ H Q=>ta σ H λx H1=>tr σ H1 λxs H2=>Q (x::xs) H2
section
variable{X:Cx}{e:vi}{es:Wp vi}{te:TE}{t:TA}{pos:Pos}
def NU:PA X [] oq:=λ_ _ _ _ H Q I h=>z7 ⟨[],H,I,.nil,h⟩
def F5(ha:PE X e te)(hr:PA X es t)(hs:zn (ue (e::es) X.env=(false,eval e X.env)::ue es X.env) ww):PA X (e::es) (jb te t):=by
 intro pos pins s σ H Q I h
 rw[hs]
 show wpAny _ _ (spliced ((false,eval e X.env)::backTo pos (ue es X.env))) _ _ s
 refine xE (thn (ha pins s σ H _ I h) λu s1 z=>?_)
 obtain⟨x,H1,I1,r1,q1⟩:=z
 exact thn (hr pos pins s1 σ H1 _ I1 q1) λus s2 ⟨xs,H2,I2,r2,q2⟩=>⟨x::xs,H2,I2,.cons r1 r2,q2⟩
noncomputable def rK(t:TA):TE:=λσ H Q=>t σ H λxs H1=>xs.length<=sizeLine/\∀p,H1 p=none->Q (.ref p) (upd H1 p (.tup xs))
noncomputable def tW(t:TA):TE:=λσ H Q=>t σ H λxs H1=>xs.length<=sizeLine/\∀p,H1 p=none->Q (.ref p) (upd H1 p (.lst xs))
def Uu{x1}(h:PA X es t):PE X (.Tuple es x1 pos) (rK t):=by
 intro pins s σ H Q I hq
 refine ABr (thn (h pos pins s σ H _ I hq) λus s1 ⟨xs,H1,I1,r,z,q⟩=>⟨by rw[<-r.length];exact z,?_⟩)
 have hf:H1 s1.heap.objs.size=none:=I1.hok.fresh (uc _)
 refine⟨.ref s1.heap.objs.size,upd H1 s1.heap.objs.size (.tup xs),I1.laid (t':=s1.toks) (λb u e=>uQ _ e) (uc _) ?_,rfl,q _ hf⟩
 exact⟨z,us,r,⟨_,ux _ rfl,rfl,_,rfl⟩⟩
def fX(h:PA X es t):PE X (.List es pos) (tW t):=by
 intro pins s σ H Q I hq
 refine wpAny_List_spliced (thn (h pos pins s σ H _ I hq) λus s1 ⟨xs,H1,I1,r,z,q⟩=>⟨by rw[<-r.length];exact z,?_⟩)
 have hf:H1 s1.heap.objs.size=none:=I1.hok.fresh (uc _)
 refine⟨.ref s1.heap.objs.size,upd H1 s1.heap.objs.size (.lst xs),I1.laid (t':=s1.toks) (λb u e=>uQ _ e) (uc _) ?_,rfl,q _ hf⟩
 exact⟨z,us,0,r,ux _ rfl⟩
end
abbrev Sp:=Wp V->Hp->VK->XK->Prop
abbrev CXT:=Wp Env->Hp->ui->XK->uX->ui->Prop
structure Y6(P:va)(w:wG)(K:W1)(mg:Str->uR uX)(base:vq)(A:wy)(outer:Wp Env)(s:ui)(H:Hp):Prop where
 frames:A.frames=Gc outer
 mod:Mod K mg base
 bs:∀b o,base.get? b=Gc o->s.heap.get? b=Gc o/\H b=none
 bsz:base.objs.size<=s.heap.objs.size
 QS:s.heap.FunFrames base outer
 frf:∀b∈frs outer,H b=none
 hok:HOk P w H s.heap
 bare:yz s.gens
def CE(outer:Wp Env)(P:va)(w:wG)(H:Hp)(s:ui)(Q:VK)(u:uX)(s':ui):Prop:=
 ∃v H',s'.os=s.os/\yz s'.gens/\Un (frs outer) [] H H' s.heap s'.heap/\HOk P w H' s'.heap/\RelV v u/\Q v H'
def CR(CX:CXT)(outer:Wp Env)(P:va)(w:wG)(H:Hp)(s:ui)(Q:VK)(E:XK)(r:Result)(s':ui):Prop:=
 match r with
 | .ok (.ret u)=>CE outer P w H s Q u s'
 | .ok _=>wH
 | .error e=>CX outer H s E e s'
structure Ji(P:va)(w:wG)(K:W1)(mg:Str->uR uX)(base:vq)(CX:CXT)(k:Nat)(f:uf)(fd:zE)(ps:Wp Str)(sp:Sp):Prop where
 len:∀vs H Q E,sp vs H Q E->vs.length=ps.length
 run:∀(A:wy) (outer:Wp Env) (s:ui) (H:Hp) (args:Args) (us:Wp uX) (vs:Wp V) (Q:VK) (E:XK),Cj k A->Y6 P w K mg base A outer s H->BindsTo s fd args (ps.zip us)->Vals vs us->sp vs H Q E->
  codeAny (model P w) A (.call (.ref f) args) (CR CX outer P w H s Q E) s
def Ji.mono{K:W1}(F:Ji P w K mg base CX j f fd ps sp)(h:j<=k):Ji P w K mg base CX k f fd ps sp:=⟨F.len,λA outer s H args us vs Q E hr=>F.run A outer s H args us vs Q E (hr.mono h)⟩
def Y6.make{K:W1}(e:Y6 P w K mg base A outer s H)(C:uf) us kw:Y6 P w K mg base (A.under (.builtin "type.__call__" ⟨.ref C::us,kw⟩)) outer s H:=⟨by first|exact e.frames|(simpa[Around.under,Code.envs,Code.isFrame,pushEnvs]using e.frames),e.mod,e.bs,e.bsz,e.QS,e.frf,e.hok,e.bare⟩
section
variable{X:Cx}{pins:Wp (uf×Obj)}{σ:St}{H:Hp}{s s':ui}
def Inv.Zr(I:Inv X pins σ H s):Y6 X.prog X.w X.K X.mg X.base X.A X.stack s H:=
 ⟨I.ok.frames,I.ok.mod,I.bs,uZ I.ok.bsz I.sz,I.stack,I.Qu,I.hok,I.bare⟩
def Inv.after{Q:VK}{u:uX}(I:Inv X pins σ H s)(h:CE X.stack X.prog X.w H s Q u s'):EP X pins σ Q u s':=by
 obtain⟨v,H',os,bare,un,hok,r,q⟩:=h
 obtain⟨hh,g,d,t,os'⟩:=s'
 obtain rfl:os'=s.os:=os
 exact⟨v,H',I.call (h':=hh) (g':=g) (d':=d) (t':=t) (ch:=[]) un hok bare (λb z=>absurd z (by simp)),r,q⟩
end
noncomputable def dQ(sp:Sp)(dvs:Wp V)(E:XK)(t:TA):TE:=λσ H Q=>t σ H λvs H1=>sp (vs++dvs) H1 Q E
noncomputable def fJ(C:uf)(m:Str)(sp:Sp)(dvs:Wp V)(E:XK)(ta:TE)(t:TA):TE:=λσ H Q=>ta σ H λx H1=>∃a dx fs,x=.ref a/\H1 a=Gc (.ins C dx fs)/\fs.lookup m=none/\
 t σ H1 λvs H2=>sp (x::(vs++dvs)) H2 Q E
noncomputable def nq(C:uf)(sp:Sp)(dvs:Wp V)(E:XK)(t:TA):TE:=λσ H Q=>t σ H λvs H1=>∀x dx,H1 x=none->H1 dx=none->dx≠x->
 sp (.ref x::(vs++dvs)) (upd (upd H1 dx (.own x)) x (.ins C dx [])) (λv H2=>v=.non/\Q (.ref x) H2) E
def Binds(K:W1)(fd:zE)(ps:Wp Str)(ds:Wp uX):Prop:=
 ∀(s:ui) (us:Wp uX),K.In s.heap->(us++ds).length=ps.length->BindsTo s fd ⟨us,[]⟩ (ps.zip (us++ds))
def Binds.all{K:W1}(h:∀us:Wp uX,us.length=ps.length->bindArgs fd ⟨us,[]⟩=pure (ps.zip us)):Binds K fd ps []:=λs us _ hl=>by
 rw[vt]at hl⊢
 exact .of_eq (h us hl)
def Passes(CX:CXT)(X:Cx)(E:XK):Prop:=∀(pins:Wp (uf×Obj)) (σ:St) (H:Hp) (s:ui) (e:uX) (s':ui),Inv X pins σ H s->CX X.stack H s E e s'->X.xe e s'
section
variable{X:Cx}{CX:CXT}{k:Nat}{f C:uf}{fd:zE}{ps:Wp Str}{sp:Sp}{dvs:Wp V}{ds:Wp uX}{E:XK}{x m:Str}{p pos apos:Pos}{e o:vi}{es:Wp vi}{ta:TE}{t:TA}
def Q7{σ:St}(F:Ji X.prog X.w X.K X.mg X.base CX k f fd ps sp)(hr:Cj k X.A)(hb:Binds X.K fd ps ds)(hd:Vals dvs ds)(hx:Passes CX X E)(I:Inv X pins σ H s)(r:Vals vs us)(h:sp (vs++dvs) H Q E):wpAny (model X.prog X.w) X.A (call (.ref f) us) (EP X pins σ Q) X.xe s:=by
 have r2:Vals (vs++dvs) (us++ds):=r.append hd
 have hl:(us++ds).length=ps.length:=by rw[<-r2.length];exact F.len _ _ _ _ h
 refine xt (yf (F.run X.A X.stack s H ⟨us,[]⟩ (us++ds) (vs++dvs) Q E hr I.Zr (hb s us I.kIn hl) r2 h) λr s' hq=>?_)
 cases r with
 |error e=>exact hx pins σ H s e s' I hq
 |ok fl=>
  cases fl with
  |ret u=>exact I.after hq
  |next=>exact vX hq
  |brk=>exact vX hq
  |cont=>exact vX hq
def aV(F:Ji X.prog X.w X.K X.mg X.base CX k f fd ps sp)(hr:Cj k X.A)(hg:Gl X x)(hm:X.mg x=Gc (.ref f))(hk:vm X.K (.ref f)=true)(hb:Binds X.K fd ps ds)(hd:Vals dvs ds)(hx:Passes CX X E)(ha:PA X (e::es) t)(hdb:zn ((x==("__debug__":Str))=false) xz)(he:zn (ue (e::es) X.env=(false,eval e X.env)::ue es X.env) ww)(hpl:zn ((backTo pos (ue es X.env)).any (·.1)=false) ww):PE X (.Call (.Name x p) (e::es) [] pos) (dQ sp dvs E t):=by
 intro pins s σ H Q I h
 refine wD (H0 I hg hm ?_ hdb)
 refine wj (h₀:=X.base) I.ok.mod.kin hk (thn (ha pos pins s σ H _ I h) λus s1 ⟨vs,H1,I1,r,q⟩=>⟨I1.kIn,?_⟩) he hpl
 exact Q7 F hr hb hd hx I1 r q
def dc {pl:Sem vZ}(he:PE X o ta)(c:Cls X.K C)(hm:Meth X.K C m f)(F:Ji X.prog X.w X.K X.mg X.base CX k f fd ps sp)(hr:Cj k X.A)(hb:Binds X.K fd ps ds)(hd:Vals dvs ds)(hx:Passes CX X E)(ha:PA X (e::es) t)(hst:zn (ue (e::es) X.env=(false,eval e X.env)::ue es X.env) ww)(hpl:zn ((backTo pos (ue es X.env)).any (·.1)=false) ww)(ht:zn (eval (.Call (.Attribute o m apos) (e::es) [] pos) X.env=(do
      let ov ← eval o X.env
      standAt apos.atName
      let (f, first) ← holding [ov] (getMethod ov m pl)
      callWith pos f first (backTo pos (ue (e :: es) X.env)) (backToKw pos (keywordEach [] X.env)))) ww) :
    PE X (.Call (.Attribute o m apos) (e::es) [] pos) (fJ C m sp dvs E ta t):=by
  intro pins s σ H Q I h
  refine yQ (pl:=pl) (thn (he pins s σ H _ I h) λu s1 z=>?_) ht
  obtain⟨x,H1,I1,rx,a,dx,fs,ex,ea,l,q⟩:=z
  subst ex
  obtain rfl:u=u5 a:=rx
  refine KP I1 ea c hm l ?_
  refine wj (first:=[.ref a]) (h₀:=X.base) I.ok.mod.kin hm.kp (thn (ha pos pins s1 σ H1 _ I1 q) λus s2 ⟨vs,H2,I2,r,q2⟩=>⟨I2.kIn,?_⟩) hst hpl
  exact Q7 (us:=.ref a::us) (vs:=.ref a::vs) F hr hb hd hx I2 (.cons rfl r) q2
def YK {pl:Sem vZ}(he:PE X o ta)(c:Cls X.K C)(hm:Meth X.K C m f)(F:Ji X.prog X.w X.K X.mg X.base CX k f fd ps sp)(hr:Cj k X.A)(hb:Binds X.K fd ps ds)(hd:Vals dvs ds)(hx:Passes CX X E)(ht:zn (eval (.Call (.Attribute o m apos) [] [] pos) X.env=(do
      let ov ← eval o X.env
      standAt apos.atName
      let (f, first) ← holding [ov] (getMethod ov m pl)
      callWith pos f first (backTo pos (ue [] X.env)) (backToKw pos (keywordEach [] X.env)))) ww) :
    PE X (.Call (.Attribute o m apos) [] [] pos) (fJ C m sp dvs E ta oq):=by
  intro pins s σ H Q I h
  refine yQ (pl:=pl) (thn (he pins s σ H _ I h) λu s1 z=>?_) ht
  obtain⟨x,H1,I1,rx,a,dx,fs,ex,ea,l,q⟩:=z
  subst ex
  obtain rfl:u=u5 a:=rx
  refine KP I1 ea c hm l ?_
  exact PySem.W.callWith_K0 (first:=[.ref a]) I1.kIn hm.kp (Q7 (us:=[.ref a]) (vs:=[.ref a]) F hr hb hd hx I1 (.cons rfl .nil) q)
structure Mk(K:W1)(C f:uf):Prop where
 makes:ABH K C=true
 init:vA K (.ref C) "__init__"=Gc (Gc (.ref f))
 fn:z8 K (.ref f)=true
 kp:vm K (.ref C)=true
def XZ{σ:St}(M:Mk X.K C f)(F:Ji X.prog X.w X.K X.mg X.base CX k f fd ps sp)(hr:Cj (k+1) X.A)(hb:Binds X.K fd ps ds)(hd:Vals dvs ds)(hx:Passes CX X E)(I:Inv X pins σ H s)(r:Vals vs us)(h:∀x dx,H x=none->H dx=none->dx≠x->sp (.ref x::(vs++dvs)) (upd (upd H dx (.own x)) x (.ins C dx [])) (λv H2=>v=.non/\Q (.ref x) H2) E):wpAny (model X.prog X.w) X.A (call (.ref C) us) (EP X pins σ Q) X.xe s:=by
 have hq:=h (s.heap.objs.size+1) s.heap.objs.size (I.hok.fresh (AAf _)) (I.hok.fresh (uc _)) (vE (AAs _))
 have I2:=Inv.made (C:=C) I
 have r2:Vals (V.ref (s.heap.objs.size+1)::(vs++dvs)) (u5 (s.heap.objs.size+1)::(us++ds)):=.cons rfl (r.append hd)
 have hl:(u5 (s.heap.objs.size+1)::us++ds).length=ps.length:=by
  have e:=r2.length
  rw[F.len _ _ _ _ hq]at e
  exact e.symm
 refine xt (YX (f:=f) I.kIn M.makes M.init (wI.mp M.fn) (yf (F.run _ X.stack _ _ ⟨u5 (s.heap.objs.size+1)::us,[]⟩ (u5 (s.heap.objs.size+1)::(us++ds)) _ _ E (hr.make C us [])
  (I2.Zr.make C us []) (hb _ (u5 (s.heap.objs.size+1)::us) I2.kIn hl) r2 hq) λr s' hq'=>?_))
 cases r with
 |error e=>exact hx pins σ _ _ e s' I2 hq'
 |ok fl=>
  cases fl with
  |ret u=>
   obtain⟨v,H',I3,rv,ev,q3⟩:=I2.after hq'
   subst ev
   exact⟨rv,⟨V.ref (s.heap.objs.size+1),H',I3,rfl,q3⟩⟩
  |next=>exact vX hq'
  |brk=>exact vX hq'
  |cont=>exact vX hq'
def eH(M:Mk X.K C f)(F:Ji X.prog X.w X.K X.mg X.base CX k f fd ps sp)(hr:Cj (k+1) X.A)(hg:Gl X x)(hm:X.mg x=Gc (.ref C))(hb:Binds X.K fd ps ds)(hd:Vals dvs ds)(hx:Passes CX X E)(ha:PA X (e::es) t)(hdb:zn ((x==("__debug__":Str))=false) xz)(he:zn (ue (e::es) X.env=(false,eval e X.env)::ue es X.env) ww)(hpl:zn ((backTo pos (ue es X.env)).any (·.1)=false) ww):PE X (.Call (.Name x p) (e::es) [] pos) (nq C sp dvs E t):=by
 intro pins s σ H Q I h
 refine wD (H0 I hg hm ?_ hdb)
 refine wj (h₀:=X.base) I.ok.mod.kin M.kp (thn (ha pos pins s σ H _ I h) λus s1 ⟨vs,H1,I1,r,q⟩=>⟨I1.kIn,?_⟩) he hpl
 exact XZ M F hr hb hd hx I1 r q
end
section
variable{X:Cx}{CX:CXT}{k:Nat}{f C:uf}{fd:zE}{ps ks:Wp Str}{sp:Sp}{E:XK}{x m:Str}{p pos apos kpos:Pos}{e o:vi}{es:Wp vi}{kws:Wp AAg}{te ta:TE}{t tk:TA}{nm:uR Str}
structure qE(K:W1)(fd:zE)(ps ks:Wp Str)(g:Wp uX->Wp uX->Wp uX)(gV:Wp V->Wp V->Wp V):Prop where
 to:∀(s:ui) (us ws:Wp uX),K.In s.heap->(g us ws).length=ps.length->BindsTo s fd ⟨us,ks.zip ws⟩ (ps.zip (g us ws))
 rel:∀{vs:Wp V} {us:Wp uX} {zs:Wp V} {ws:Wp uX},Vals vs us->Vals zs ws->Vals (gV vs zs) (g us ws)
variable{g:Wp uX->Wp uX->Wp uX}{gV:Wp V->Wp V->Wp V}
end
structure Aj(N P:Wp Str)(sc:wX):Prop where
 kind:sc.kind=.function
 co:sc.isCoroutine=false
 gen:sc.isGenerator=false
 nd:N.Nodup
 pre:N.take P.length=P
 par:∀x∈P,sc.names.lookup x=Gc .local\/sc.names.lookup x=Gc .cell
 kY:∀y∈sc.names,y.2≠.free
theorem PC{kindOf:Str->uR AAt}:∀{binds} {m:Str->uR uX},(∀v,(x,v)∉binds)->bindL kindOf binds m x=m x
 | [],_,_=>rfl
 |(n,v)::r,m,h=>by
  unfold bindL
  rw[PC λw hw=>h w (uW _ hw)]
  split
  .have:x≠n:=by rintro rfl;exact h v uk
   simp[this]
  .rfl
theorem Pa{kindOf:Str->uR AAt}:∀{binds} {m:Str->uR uX},(∀v,(x,v)∉binds)->bindC kindOf binds m x=m x
 | [],_,_=>rfl
 |(n,v)::r,m,h=>by
  unfold bindC
  rw[Pa λw hw=>h w (uW _ hw)]
  split
  .rfl
  .have:x≠n:=by rintro rfl;exact h v uk
   simp[this]
theorem O1{kindOf:Str->uR AAt}:∀{P:Wp Str} {vs:Wp uX} {i:Nat} {m},P.Nodup->P[i]?=Gc x->vs[i]?=Gc v->kindOf x=Gc .local->bindL kindOf (P.zip vs) m x=Gc v
 | [],_,_,_,_,h,_,_=>by simp at h
 |_::_,[],_,_,_,_,h,_=>by simp at h
 |p::P,w::vs,0,m,nd,h1,h2,hk=>by
  simp at h1 h2;subst h1;subst h2
  show bindL kindOf ((p,w)::P.zip vs) m p=_
  unfold bindL
  rw[PC λv hv=>(xD.mp nd).1 (wc hv).1,vC hk]
  simp
 |p::P,w::vs,i+1,m,nd,h1,h2,hk=>by
  show bindL kindOf ((p,w)::P.zip vs) m x=_
  unfold bindL
  exact O1 (i:=i) (xD.mp nd).2 (by simpa using h1) (by simpa using h2) hk
theorem PU{kindOf:Str->uR AAt}:∀{P:Wp Str} {vs:Wp uX} {i:Nat} {m},P.Nodup->P[i]?=Gc x->vs[i]?=Gc v->kindOf x≠Gc .local->bindC kindOf (P.zip vs) m x=Gc v
 | [],_,_,_,_,h,_,_=>by simp at h
 |_::_,[],_,_,_,_,h,_=>by simp at h
 |p::P,w::vs,0,m,nd,h1,h2,hk=>by
  simp at h1 h2;subst h1;subst h2
  show bindC kindOf ((p,w)::P.zip vs) m p=_
  unfold bindC
  rw[Pa λv hv=>(xD.mp nd).1 (wc hv).1,vB hk]
  simp
 |p::P,w::vs,i+1,m,nd,h1,h2,hk=>by
  show bindC kindOf ((p,w)::P.zip vs) m x=_
  unfold bindC
  exact PU (i:=i) (xD.mp nd).2 (by simpa using h1) (by simpa using h2) hk
noncomputable def start(N:Wp Str)(vs:Wp V):St:=vs.map Gc++uo (N.length-vs.length) none
noncomputable def IW(CX:CXT)(P:va)(w:wG)(K:W1)(mg:Str->uR uX)(base:vq)(N:Wp Str)(qual:Str)(scope:wX)(f:uf)(cd:uX)(A:wy)(outer:Wp Env)(s:ui)(H:Hp)(E:XK):Cx where
 prog:=P
 w:=w
 K:=K
 mg:=mg
 base:=base
 A:=A.deeper (envOfC qual scope s.heap.objs.size f cd)
 N:=N
 s₀:=s
 H₀:=H
 env:=envOfC qual scope s.heap.objs.size f cd
 outer:=outer
 stack:=envOfC qual scope s.heap.objs.size f cd::outer
 ex:=[]
 calm:=true
 fn:=λ_=>true
 pn:=[]
 xe:=λe s'=>wpAny (model P w) (A.deeper (envOfC qual scope s.heap.objs.size f cd)) (leaving (envOfC qual scope s.heap.objs.size f cd) e) (λ_ s''=>CX outer H s E e s'') (λe' s''=>CX outer H s E e' s'') s'
def LK{sc:wX}{x:Str}(h:sc.names.lookup x=Gc .cell):∃c,(cellsFrom n sc.names []).lookup x=Gc c:=by
 have q:=zF sc.names n [] (.inl h)
 exact Option.isSome_iff_exists.mp q
def O8{CX:CXT}{P:va}{w:wG}{K:W1}{mg:Str->uR uX}{base:vq}{N ps:Wp Str}{qual:Str}{scope:wX}{f:uf}{cd:uX}{A:wy}{outer:Wp Env}{s s1:ui}{H:Hp}{E:XK}{us:Wp uX}{vs:Wp V}(S:Aj N ps scope)(hd:A.handled=none)(e0:Y6 P w K mg base A outer s H)(hl:vs.length=ps.length)(r:Vals vs us)(x:InCallC s s.heap.objs.size (bindL (envOfC qual scope s.heap.objs.size f cd).kindOf (ps.zip us) λ_=>none) (cellsFrom (s.heap.objs.size+1) scope.names []) (bindC (envOfC qual scope s.heap.objs.size f cd).kindOf (ps.zip us) λ_=>none) s1):Inv (IW CX P w K mg base N qual scope f cd A outer s H E) [] (start N vs) H s1:=by
 have hpl:ps.length<=N.length:=by have:=congrArg ya S.pre;rw[zV]at this;lia
 obtain⟨h1,tk,rfl,hk⟩:=x.done
 have noA:∀b:uf,b∉(IW CX P w K mg base N qual scope f cd A outer s H E).ex:=λb z=>absurd (show b∈([]:Wp uf)from z) (by simp)
 refine⟨⟨e0.mod,S.kind,rfl,rfl,uc _,λy z c h1 h2=>?_,λy hy=>?_,λy c _ h=>?_,λ_=>hd,ABX e0.frames,.inr ⟨rfl,rfl⟩,λb z=>absurd z (noA b),e0.bs,e0.bsz,λb _ _=>noA b,λb z=>absurd z (noA b),e0.QS,e0.frf⟩,
  rfl,e0.bare,Un.kept hk,⟨_,x.toInCall.ns,λi y v h1 h2 h3=>?_⟩,λy c h=>⟨_,x.cell y c h⟩,e0.hok.fresh (uc _),λy c h=>?_,λp hp=>absurd (show p∈([]:Wp (uf×Obj))from hp) (by simp),e0.hok.kept hk,?_⟩
 .exact name_of_addr x.apart (vR h1) (vR h2)
 .have hy:scope.names.lookup y=Gc .cell\/scope.names.lookup y=Gc .free:=hy
  rcases hy with hy|hy
  .exact LK hy
  .exact absurd rfl (S.kY _ (vR hy))
 .exact yd (x.above y c (vR h))
 .have hi:i<vs.length:=by
   unfold start at h2
   by_cases hi:i<vs.length
   .exact hi
   .rw[vI (by simpa using hi)]at h2
    rw[y7]at h2
    split at h2<;>cases h2
  have ha:vs[i]?=Gc v:=by
   unfold start at h2
   rw[uT (by simpa using hi),um]at h2
   cases e:vs[i]? with
   |none=>rw[e]at h2;cases h2
   |some a=>rw[e]at h2;cases h2;rfl
  obtain⟨u,hu,rv⟩:=r.get ha
  have hp:ps[i]?=Gc y:=by
   rw[<-S.pre,AAl (by lia)];exact h1
  have ndP:ps.Nodup:=by rw[<-S.pre];exact S.nd.sublist (List.take_sublist _ _)
  refine⟨u,rv,?_⟩
  rcases S.par y (uv hp)with k|k
  .exact .inl ⟨k,O1 ndP hp hu k⟩
  .obtain⟨c,e⟩:=LK (n:=s.heap.objs.size+1) k
   refine .inr ⟨.inl k,c,e,?_⟩
   have q:=x.cell y c e
   rw[PU ndP hp hu (by show scope.names.lookup y≠_;rw[k];decide)]at q
   exact q
 .exact e0.hok.fresh (yd (x.above y c (vR h)))
 .unfold start
  show _=N.length
  rw[vp,vN,List.length_replicate]
  lia
def X3{CX:CXT}{P:va}{w:wG}{K:W1}{mg:Str->uR uX}{base:vq}{k:Nat}{f:uf}{name qual:Str}{params:Arguments}{body:Wp vH}{scope:wX}{dV kV doc pm cdv ct oc:uX}{an od:uR uf}{osl:yo (uR uX)}{N ps:Wp Str}{sp:Sp}(lk:K.lookup f=Gc ⟨oc,od,.func (wY name qual params body scope dV kV doc pm an cdv ct),osl⟩)(hcd:x5 K cdv qual=true)(S:Aj N ps scope)(len:∀vs H Q E,sp vs H Q E->vs.length=ps.length)(hbody:∀(A:wy) (outer:Wp Env) (s:ui) (H:Hp) (vs:Wp V) (Q:VK) (E:XK),Cj k (A.deeper (envOfC qual scope s.heap.objs.size f cdv))->sp vs H Q E->∃t,PSs (IW CX P w K mg base N qual scope f cdv A outer s H E) body t/\t {nx:=λ_ H'=>Q .non H',rt:=Q} (start N vs) H):Ji P w K mg base CX (k+1) f (wY name qual params body scope dV kV doc pm an cdv ct) ps sp:=by
 refine⟨len,λA outer s H args us vs Q E hr e0 hb r hsp=>?_⟩
 have hl:=len _ _ _ _ hsp
 have KX:K.In s.heap:=e0.mod.kin.keeps λb o e=>(e0.bs b o e).1
 have lim:s.heap.NoLimit:=e0.mod.nolimit.keeps λb o e=>(e0.bs b o e).1
 have hkind:∀y∈ps.zip us,scope.names.lookup y.1=Gc .local\/(scope.names.lookup y.1=Gc .cell/\((cellsFrom (s.heap.objs.size+1) scope.names []).lookup y.1).isSome=true):=λ⟨n,v⟩ hy=>by
  rcases S.par n (wc hy).1 with q|q
  .exact .inl q
  .exact .inr ⟨q,zF _ _ _ (.inl q)⟩
 refine ABQ hr.depth (KX _ _ lk) rfl S.co S.gen rfl (ACB KX hcd) (hb _ _ _ _ ?_)
 refine AAM S.kind hkind λenv he s1 x=>?_
 subst he
 refine⟨lim.keeps x.toInCall.keep,codeAny_func ?_⟩
 obtain⟨t,ht,hq⟩:=hbody A outer s H vs Q E (hr.deeper _) hsp
 have I:Inv (IW CX P w K mg base N qual scope f cdv A outer s H E) [] (start N vs) H s1:=O8 S hr.hd e0 hl r x
 refine vo (ht [] s1 (start N vs) H _ I hq) (λfl s' hs=>?_) λe s' hs=>hs
 have fin:∀{σ':St} {H':Hp} {v:V} {u:uX},Inv (IW CX P w K mg base N qual scope f cdv A outer s H E) [] σ' H' s'->RelV v u->Q v H'->CE outer P w H s Q u s':=
  λ{σ' H' v u} J rv q=>⟨v,H',J.os,J.bare,J.base,J.hok,rv,q⟩
 cases fl with
 |ret u=>
  obtain⟨v,σ',H',J,rv,q⟩:=hs
  exact fin J rv q
 |next=>
  obtain⟨σ',H',J,q⟩:=hs
  exact fin (v:=V.non) (u:=vL) J rfl q
 |brk=>
  obtain⟨_,_,_,q⟩:=hs
  exact vX q
 |cont=>
  obtain⟨_,_,_,q⟩:=hs
  exact vX q
end L2
namespace L2
open PySem PySem.Spec PyProof.Rows
section
variable{X:Cx}{x:Str}{p pos:Pos}{e:vi}{es:Wp vi}{t:TA}{id T:xq}{r:Wp V->Hp->VK->Prop}
noncomputable def tCB(r:Wp V->Hp->VK->Prop)(t:TA):TE:=λσ H Q=>t σ H λvs H1=>r vs H1 Q
def YF(hc:Eg X (.builtin id) r)(hg:Gl X x)(hm:X.mg x=none)(hv:bootBuiltins x=Gc (.builtin id))(ha:PA X (e::es) t)(hn:zn (x≠ "__name__") xz)(hdb:zn ((x==("__debug__":Str))=false) xz)(he:zn (ue (e::es) X.env=(false,eval e X.env)::ue es X.env) ww)(hpl:zn ((backTo pos (ue es X.env)).any (·.1)=false) ww):PE X (.Call (.Name x p) (e::es) [] pos) (tCB r t):=by
 intro pins s σ H Q I h
 refine wD (NT I hg hm hv ?_ hn hdb)
 exact PyProof.Rows.callWith_builtin1 (thn (ha pos pins s σ H _ I h) λus s1 ⟨vs,H1,I1,r1,q1⟩=>hc pins s1 σ H1 vs us Q I1 r1 q1) he hpl
def UG(hc:Eg X (.type T) r)(hg:Gl X x)(hm:X.mg x=none)(hv:bootBuiltins x=Gc (.type T))(ha:PA X (e::es) t)(hn:zn (x≠ "__name__") xz)(hdb:zn ((x==("__debug__":Str))=false) xz)(he:zn (ue (e::es) X.env=(false,eval e X.env)::ue es X.env) ww)(hpl:zn ((backTo pos (ue es X.env)).any (·.1)=false) ww):PE X (.Call (.Name x p) (e::es) [] pos) (tCB r t):=by
 intro pins s σ H Q I h
 refine wD (NT I hg hm hv ?_ hn hdb)
 exact yT (thn (ha pos pins s σ H _ I h) λus s1 ⟨vs,H1,I1,r1,q1⟩=>hc pins s1 σ H1 vs us Q I1 r1 q1) he hpl
end
end L2
namespace HT
open PySem PyProof.Rows
section
open PySem.SeqAt
open PySem.AutoSeq1 (wpAny_loadPart')
open PySem.MeetsSeq PySem.MeetsSeq2 PySem.MeetsSeq3
end
section
variable{prog:va}{w:wG}{A:wy}{E:uX->ui->Prop}{s:ui}
def ar{Q:uX->ui->Prop}(ht:IsTup s.heap t vs.toArray)(hb:IsTup s.heap b ws.toArray)(hv:vs≠[])(h1:ws=[]->Q (.ref t) s)(h2:ws≠[]->Q (.ref s.heap.objs.size) {s with heap:=s.heap.push {cls:=.type "tuple",data:=.seq (vs++ws).toArray}})(hsz:vs.length+ws.length<=sizeLine):wpAny (model prog w) A (binaryOp .Add (.ref t) (.ref b)) Q E s:=by
 obtain⟨⟨cls,dd,data,sl⟩,ho,hc,n,hd⟩:=id ht
 obtain⟨⟨cls2,dd2,data2,sl2⟩,ho2,hc2,n2,hd2⟩:=id hb
 simp only at hc hd hc2 hd2
 subst hc hd hc2 hd2
 have e:vs.toArray++ws.toArray=(vs++ws).toArray:=by simp
 by_cases hw:ws=[]
 .exact concat_meets ⟨_,ho,rfl⟩ ⟨_,ho2,rfl⟩ AAu AB3 zG y8 (yp _ _)
   (tuple_addW1 t b vs.toArray ws.toArray n n2 dd dd2 sl sl2 (by simpa using hv) (by simp[hw])) ⟨ho,ho2,h1 hw⟩
 .refine concat_meets ⟨_,ho,rfl⟩ ⟨_,ho2,rfl⟩ AAu AB3 zG y8 (yp _ _)
   (tuple_addW2 t b vs.toArray ws.toArray n n2 dd dd2 sl sl2 (by simpa using hv) (by simpa using hw) (by rw[uq,uq];exact hsz)) ⟨ho,ho2,?_⟩
  rw[e]
  exact h2 hw
noncomputable def sIx(n d:Nat):uR Int->Nat
 |none=>d
 |some v=>if v<0 then(v+(n:Int)).toNat else min v.toNat n
def Qn(n d k:Nat):sIx n d (Gc (k:Int))=min k n:=by
 show(if(k:Int)<0 then((k:Int)+(n:Int)).toNat else min (k:Int).toNat n)=min k n
 rw[vB (by lia),xh]
def gw(n d:Nat)(hd:d<=n)(o:uR Int):sIx n d o<=n:=by
 cases o with
 |none=>exact hd
 |some v=>
  show(if v<0 then(v+(n:Int)).toNat else min v.toNat n)<=n
  by_cases hv:v<0
  .rw[vC hv];lia
  .rw[vB hv];exact zW _ _
def N1(v:Int)(n:Nat)(hv:¬v<0):min v (n:Int)=((min v.toNat n:Nat):Int):=by
 obtain⟨k,rfl⟩:=Int.eq_ofNat_of_zero_le (Int.not_lt.mp hv)
 rcases Nat.le_total k n with h|h
 .exact(ABI (Int.ofNat_le.mpr h)).trans (congrArg Nat.cast (yL h)).symm
 .exact(Int.min_eq_right (Int.ofNat_le.mpr h)).trans (congrArg Nat.cast (Nat.min_eq_right h)).symm
def UX(v:Int)(n d:Nat):(if v<0 then max (v+(n:Int)) 0 else min v (n:Int))=((sIx n d (Gc v):Nat):Int):=by
 show(if v<0 then max (v+(n:Int)) 0 else min v (n:Int))=(((if v<0 then(v+(n:Int)).toNat else min v.toNat n):Nat):Int)
 by_cases hv:v<0
 .simp only[vC hv];exact(ABJ _).symm
 .simp only[vB hv];exact N1 v n hv
def SG(lo hi:uR Int)(n:Nat):yi lo hi 1 (n:Int)=(((sIx n 0 lo:Nat):Int),((sIx n n hi:Nat):Int)):=by
 have h1:¬((1:Int)<0):=by lia
 unfold yi
 simp only[h1,AAN]
 refine Prod.ext ?_ ?_
 .cases lo with
  |none=>rfl
  |some v=>exact UX v n 0
 .cases hi with
  |none=>rfl
  |some v=>exact UX v n n
def SJ(i j:Nat):xW (i:Int) (j:Int) 1=j-i:=by
 unfold xW
 have h1:(1:Int)>0:=by lia
 simp only[h1,zf,Int.ediv_one]
 split<;>lia
def Nx{Q:uR Int->ui->Prop}(p:AA4 v o)(h:Q o s):wpAny (model prog w) A (Builtin.Slice.slicePartIndex v) Q E s:=by
 cases p with
 |none=>exact slicePart_none h
 |int i t=>exact slicePart_int h
def G8{lo hi:uR Int}{n:Nat}(hs:s.heap.IsSliceOf sl vl vu .none)(pl:AA4 vl lo)(pu:AA4 vu hi)(h:Q (((sIx n 0 lo:Nat):Int),1,sIx n n hi-sIx n 0 lo) s):wpAny (model prog w) A (AAO (.ref sl) (pure (n:Int))) Q E s:=by
 obtain⟨os,hos,hcs,hds⟩:=id hs
 unfold AAO Builtin.Slice.sliceFields
 refine uP (uP (wM hos hds (x:=vl) rfl (uP (wM hos hds (x:=vu) rfl (uP (wM hos hds (x:=.none) rfl (ug ?_)))))))
 refine uP (slicePart_none ?_)
 show wpAny _ _ (if((1:Int)==0)=true then _ else _) _ _ s
 rw[vB (by decide)]
 refine uP (Nx pl (uP (Nx pu (uP (ug ?_)))))
 show wpAny _ _ (match yi lo hi 1 (n:Int)with|(lo,hi)=>pure (lo,(1:Int),xW lo hi 1)) _ _ s
 rw[SG lo hi n]
 show wpAny _ _ (pure (((sIx n 0 lo:Nat):Int),(1:Int),xW ((sIx n 0 lo:Nat):Int) ((sIx n n hi:Nat):Int) 1)) _ _ s
 rw[SJ]
 exact ug h
def YA(xs:yo uX)(i k:Nat):((u6 k).filterMap λ(m:Nat)=>xs[((i:Int)+(m:Int)*1).toNat]?).toArray=((xs.toList.drop i).take k).toArray:=by
 have e:(λ(m:Nat)=>xs[((i:Int)+(m:Int)*1).toNat]?)=λm=>xs[i+m]?:=by
  funext m
  have:((i:Int)+(m:Int)*1).toNat=i+m:=by lia
  rw[this]
 rw[e]
 have:=pick_run xs i k
 rw[List.filterMap_map]at this
 have e2:((λx=>xs[x]?)∘λx=>i+x)=λm=>xs[i+m]?:=rfl
 rw[e2]at this
 rw[this]
def KD{lo hi:uR Int}(ht:IsTup s.heap t items)(hs:s.heap.IsSliceOf sl vl vu .none)(pl:AA4 vl lo)(pu:AA4 vu hi)(hw:¬(sIx items.size 0 lo=0/\sIx items.size items.size hi=items.size))(h:Q (.ref s.heap.objs.size) {s with heap:=s.heap.push {cls:=.type "tuple",data:=.seq ((items.toList.drop (sIx items.size 0 lo)).take (sIx items.size items.size hi-sIx items.size 0 lo)).toArray}})(hsz:items.size<=sizeLine):wpAny (model prog w) A (getItem (.ref t) (.ref sl)) Q E s:=by
 have htake:sizeOk (.seq ((items.toList.drop (sIx items.size 0 lo)).take (sIx items.size items.size hi-sIx items.size 0 lo)).toArray):=by
  show((items.toList.drop (sIx items.size 0 lo)).take (sIx items.size items.size hi-sIx items.size 0 lo)).toArray.size<=sizeLine
  rw[uq,zV,AAv,zy]
  exact uZ (zW _ _) (uZ (Nat.sub_le _ _) hsz)
 have hj:sIx items.size items.size hi<=items.size:=gw _ _ (uc _) hi
 obtain⟨os,hos,hcs,hds⟩:=id hs
 have hTs:s.TypeIs (.ref sl) "slice":=⟨os,hos,hcs⟩
 unfold getItem
 try with_reducible refine vw ?_
 first|refine uP (ug ?_)|skip
 refine uP (wpAny_sequenceKey ht.typeIs (by decide) ?_)
 refine uP (wW (name:=u7 "__getitem__") ht.typeIs vg
  (wk vg ht.typeIs ABs ?_ (ACC _ _)))
 show wpAny _ _ (AAP (.ref t) >>= _) _ _ s
 refine uP (tupleItemsOf_ ht ?_)
 refine uP (AA5 hTs ?_)
 rw[vC (by decide)]
 refine uP (G8 hs pl pu ?_)
 have hno:¬((((sIx items.size 0 lo:Nat):Int)==0 && (1:Int)==1 && (sIx items.size items.size hi-sIx items.size 0 lo)==items.size)=true):=by
  intro q
  rw[ub,ub]at q
  have q1:((sIx items.size 0 lo:Nat):Int)=0:=eq_of_beq q.1.1
  have q2:sIx items.size items.size hi-sIx items.size 0 lo=items.size:=eq_of_beq q.2
  exact hw ⟨by lia,by lia⟩
 show wpAny _ _ (if(((sIx items.size 0 lo:Nat):Int)==0 && (1:Int)==1 && (sIx items.size items.size hi-sIx items.size 0 lo)==items.size)=true then _ else _) _ _ s
 rw[vB hno,YA]
 first
  |exact uP (m:=xu _) (xA (ug ⟨_,rfl,ug h⟩) htake)
  |exact uP (m:=xu _) (xA (uP (ug (ug ⟨_,rfl,ug h⟩))) htake)
  |exact uP (uP (m:=xu _) (xA (ug (ug ⟨_,rfl,ug h⟩)) htake))
  |exact uP (uP (m:=xu _) (xA (ug ⟨_,rfl,ug h⟩) htake))
end
end HT
namespace L2
open PySem PySem.Spec PyProof.Rows
abbrev TO:=St->Hp->(uR Int->Hp->Prop)->Prop
def PO(X:Cx)(e:uR vi)(t:TO):Prop:=
 ∀(pins:Wp (uf×Obj)) (s:ui) (σ:St) (H:Hp) (Q:uR Int->Hp->Prop),Inv X pins σ H s->t σ H Q->
  wpAny (model X.prog X.w) X.A (evalPart e X.env) (λu s'=>∃o H',Inv X pins σ H' s'/\AA4 u o/\Q o H') X.xe s
noncomputable def de:TO:=λ_ H Q=>Q none H
noncomputable def oM(t:TE):TO:=λσ H Q=>t σ H λx H1=>∃i,x=.int i/\Q (Gc i) H1
def intsAre_of{ns:Wp Int}:∀{us:Wp uX},Vals (ns.map V.int) us->yq us ns:=by
 induction ns with
 |nil=>intro us r;rw[wF]at r;cases r;exact .nil
 |cons n ns ih=>
  intro us r
  rw[uw]at r
  cases r with
  |cons r1 r2=>
   obtain⟨t,e⟩:=r1
   subst e
   exact .cons n t (ih r2)
section
variable{X:Cx}{e:vi}{te:TE}{lo hi:uR vi}{tl th:TO}{pos p2:Pos}
def Wb:PO X none de:=by
 intro pins s σ H Q I h
 rw[evalPart_none]
 exact ug ⟨none,H,I,.none,h⟩
def Oq(h:PE X e te):PO X (Gc e) (oM te):=by
 intro pins s σ H Q I hw
 rw[evalPart_some]
 refine thn (h pins s σ H _ I hw) λu s1 z=>?_
 obtain⟨x,H1,I1,r1,q1⟩:=z
 obtain⟨i,rfl,q⟩:=q1
 obtain⟨t,rfl⟩:=r1
 exact⟨Gc i,H1,I1,.int i t,q⟩
def SlR(X:Cx)(r:V->uR Int->uR Int->Hp->VK->Prop):Prop:=
 ∀(pins:Wp (uf×Obj)) (s:ui) (σ:St) (H:Hp) (x:V) (v vl vu:uX) (lo hi:uR Int) (sl:uf) (Q:VK),Inv X pins σ H s->RelV x v->s.heap.IsSliceOf sl vl vu .none->AA4 vl lo->AA4 vu hi->r x lo hi H Q->
  ∃T id,typeLookup (.type T) "__getitem__"=pure (Gc (.builtin id))/\s.TypeIs v T/\wpAny (model X.prog X.w) X.A (getItem v (.ref sl)) (EP X pins σ Q) X.xe s
noncomputable def tSl(r:V->uR Int->uR Int->Hp->VK->Prop)(te:TE)(tl th:TO):TE:=λσ H Q=>te σ H λx H1=>tl σ H1 λl H2=>th σ H2 λu H3=>r x l u H3 Q
def N4{r:V->uR Int->uR Int->Hp->VK->Prop}(hr:SlR X r)(he:PE X e te)(hl:PO X lo tl)(hu:PO X hi th):PE X (.Subscript e (.Slice lo hi none p2) pos) (tSl r te tl th):=by
 intro pins s σ H Q I h
 refine Subscript_ (thn (he pins s σ H _ I h) λv s1 z=>?_)
 obtain⟨x,H1,I1,r1,q1⟩:=z
 refine wpAny_Slice (thn (hl pins s1 σ H1 _ I1 q1) λvl s2 ⟨l,H2,I2,pl,q2⟩=>thn (hu pins s2 σ H2 _ I2 q2) λvu s3 z=>?_)
 obtain⟨u,H3,I3,pu,q3⟩:=z
 rw[evalPart_none]
 refine ug ?_
 have I4:Inv X pins σ H3 {s3 with heap:=s3.heap.push {cls:=.type "slice",data:=.fields #[vl,vu,.none]}}:=I3.kept (t':=s3.toks) λb ob q=>uQ _ q
 obtain⟨T,id,hT,ht,hg⟩:=hr pins {s3 with heap:=s3.heap.push {cls:=.type "slice",data:=.fields #[vl,vu,.none]}} σ H3 x v vl vu l u s3.heap.objs.size Q I4 r1 (Heap.IsSliceOf.new ..) pl pu q3
 show wpAny (model X.prog X.w) X.A (subscriptTail e (.Slice lo hi none p2) v (.ref s3.heap.objs.size)) (EP X pins σ Q) X.xe {s3 with heap:=s3.heap.push {cls:=.type "slice",data:=.fields #[vl,vu,.none]}}
 exact tail_any (ops:=[.ref s3.heap.objs.size,v]) ht hT hg (by with_unfolding_all rfl)
noncomputable def Y0(xs:Wp V)(lo hi:uR Int):Wp V:=(xs.drop (HT.sIx xs.length 0 lo)).take (HT.sIx xs.length xs.length hi-HT.sIx xs.length 0 lo)
def MD(xs:Wp V)(lo hi:uR Int):(Y0 xs lo hi).length<=xs.length:=by
 unfold Y0
 rw[zV,AAv]
 exact uZ (zW _ _) (Nat.sub_le _ _)
def sM(K:W1):V->uR Int->uR Int->Hp->VK->Prop:=λx lo hi H Q=>∃a xs,x=.ref a/\SqT K H a xs/\
 ¬(HT.sIx xs.length 0 lo=0/\HT.sIx xs.length xs.length hi=xs.length)/\∀p,H p=none->Q (.ref p) (upd H p (.tup (Y0 xs lo hi)))
def gm:SlR X (sM X.K):=by
 intro pins s σ H x v vl vu lo hi sl Q I rx hs pl pu h
 obtain⟨a,xs,rfl,hx,hw,q⟩:=h
 cases rx
 obtain⟨its,r,ht,hz⟩:=I.tuple hx
 have hlen:its.toArray.size=xs.length:=by rw[uq];exact r.length.symm
 refine⟨"tuple",_,vg.lookup,ht.typeIs,?_⟩
 refine HT.KD ht hs pl pu (by rw[hlen];exact hw) ?_ (by rw[hlen];exact hz)
 rw[hlen]
 refine⟨.ref s.heap.objs.size,_,I.laid (t':=s.toks) (o:=.tup (Y0 xs lo hi)) (λb ob q=>uQ _ q) (uc _) ?_,rfl,q _ (I.hok.fresh (uc _))⟩
 exact⟨uZ (MD xs lo hi) hz,_,(r.drop (HT.sIx xs.length 0 lo)).take (HT.sIx xs.length xs.length hi-HT.sIx xs.length 0 lo),yl _ _⟩
noncomputable def pM(K:W1):R2:=λx y H Q=>∃a b xs ys,x=.ref a/\y=.ref b/\SqT K H a xs/\SqT K H b ys/\xs≠[]/\xs.length+ys.length<=sizeLine/\
 (ys=[]->Q (.ref a) H)/\(ys≠[]->∀p,H p=none->Q (.ref p) (upd H p (.tup (xs++ys))))
def Vals.N2{xs:Wp V}{us:Wp uX}(r:Vals xs us):us=[]↔xs=[]:=by
 cases r with
 |nil=>simp
 |cons _ _=>simp
def cW:OpR X (binaryOp .Add) (pM X.K):=by
 intro pins s σ H x y v u Q I rx ry h
 obtain⟨a,b,xs,ys,rfl,rfl,ha,hb,hx,hz,q1,q2⟩:=h
 cases rx
 cases ry
 obtain⟨its,r1,p1,_⟩:=I.tuple ha
 obtain⟨its2,r2,p2,_⟩:=I.tuple hb
 refine HT.ar p1 p2 (λz=>hx (r1.N2.mp z)) (λz=>⟨.ref a,H,I,rfl,q1 (r2.N2.mp z)⟩) (λz=>?_) (by rw[<-r1.length,<-r2.length];exact hz)
 refine⟨.ref s.heap.objs.size,_,I.laid (t':=s.toks) (o:=.tup (xs++ys)) (λb ob q=>uQ _ q) (uc _) ?_,rfl,q2 (λw=>z (r2.N2.mpr w)) _ (I.hok.fresh (uc _))⟩
 exact⟨by rw[vp];exact hz,_,r1.append r2,yl _ _⟩
end
end L2
namespace L2
open PySem PySem.Spec PyProof.Rows
noncomputable def ixN(n:Nat)(i:Int):uR Nat:=if 0<=i then(if i<n then Gc i.toNat else none)else if-(n:Int)<=i then Gc (i+n).toNat else none
noncomputable def atI{α:Type}(xs:Wp α)(i:Int):uR α:=(ixN xs.length i).bind λj=>xs[j]?
def Vf{j:Nat}(h:ixN n i=Gc j):seqIndex? i n=Gc j/\j<n/\ -(n:Int)<=i/\i<n:=by
 unfold ixN at h
 by_cases h0:0<=i
 .rw[vC h0]at h
  by_cases h1:i<n
  .rw[vC h1]at h
   have e:i.toNat=j:=wR h
   exact⟨by rw[seqIndex_of h0 h1,e],by lia,by lia,h1⟩
  .rw[vB h1]at h;cases h
 .rw[vB h0]at h
  by_cases h1: -(n:Int)<=i
  .rw[vC h1]at h
   have e:(i+n).toNat=j:=wR h
   exact⟨by rw[seqIndex_neg (by lia) h1,e],by lia,h1,by lia⟩
  .rw[vB h1]at h;cases h
def UL{v:α}(h:atI xs i=Gc v):∃j,seqIndex? i xs.length=Gc j/\xs[j]?=Gc v/\j<xs.length/\ -(xs.length:Int)<=i/\i<xs.length:=by
 unfold atI at h
 cases e:ixN xs.length i with
 |none=>rw[e]at h;cases h
 |some j=>
  rw[e]at h
  obtain⟨h1,h2,h3,h4⟩:=Vf e
  exact⟨j,h1,h,h2,h3,h4⟩
def aM{j:Nat}{v:α}(h:xs[j]?=Gc v):atI xs (j:Int)=Gc v:=by
 have hj:j<xs.length:=(ua.mp h).1
 have e:ixN xs.length (j:Int)=Gc j:=by
  unfold ixN
  rw[vC (by lia),vC (by lia)];simp
 unfold atI;rw[e];exact h
def OX{α:Type}(xs:Wp α)(v:α):atI (xs++[v]) (-1)=Gc v:=by
 have hl:(xs++[v]).length=xs.length+1:=by simp
 have e:ixN (xs++[v]).length (-1)=Gc xs.length:=by
  unfold ixN
  rw[hl,vB (by decide),vC (by lia)]
  congr 1
  lia
 unfold atI
 rw[e]
 show(xs++[v])[xs.length]?=Gc v
 simp
def OS(b:vi):Prop:=∀o i,subscripted b false o i=operate [o,i] (getItem o i)
def IxR(X:Cx)(r:R2):Prop:=
 ∀(value slice:vi) (pins:Wp (uf×Obj)) (s:ui) (σ:St) (H:Hp) (x y:V) (v u:uX) (Q:VK),Inv X pins σ H s->RelV x v->RelV y u->r x y H Q->
  subscripted slice false v u=operate [v,u] (getItem v u)->wpAny (model X.prog X.w) X.A (subscriptTail value slice v u) (EP X pins σ Q) X.xe s
def MtR(X:Cx)(id:xq)(r:V->Wp V->Hp->VK->Prop):Prop:=
 ∀(pins:Wp (uf×Obj)) (s:ui) (σ:St) (H:Hp) (x:V) (xs:Wp V) (v:uX) (us:Wp uX) (Q:VK),Inv X pins σ H s->RelV x v->Vals xs us->r x xs H Q->
  wpAny (model X.prog X.w) X.A (call (.builtin id) (v::us)) (EP X pins σ Q) X.xe s
section
variable{X:Cx}{a b:vi}{ta tb:TE}{pos:Pos}
def bJ{r:R2}(hr:IxR X r)(ha:PE X a ta)(hb:PE X b tb)(hs:OS b):PE X (.Subscript a b pos) (tOp r ta tb):=by
 intro pins s σ H Q I h
 exact Subscript_ (oH ha hb I h λv u s2 x y H2 I2 rx ry q=>hr a b pins s2 σ H2 x y v u Q I2 rx ry q (hs _ _))
noncomputable def sH(K:W1):R2:=λx y H Q=>∃p xs i v,x=.ref p/\y=.int i/\SqL K H p xs/\atI xs i=Gc v/\Q v H
noncomputable def rZ(K:W1):R2:=λx y H Q=>∃p xs i v,x=.ref p/\y=.int i/\SqT K H p xs/\atI xs i=Gc v/\Q v H
def cu:IxR X (sH X.K):=by
 intro value slice pins s σ H x y v u Q I rx ry h hs
 obtain⟨p,xs,i,z,rfl,rfl,hq,he,q⟩:=h
 cases rx
 obtain⟨t,rfl⟩:=ry
 obtain⟨its,r,pl,hz⟩:=I.list hq
 obtain⟨j,h1,h2,h3,h4,h5⟩:=UL he
 obtain⟨w,ew,rw'⟩:=r.get h2
 have hl:=r.length
 have hn:=PL
 have fin:EP X pins σ Q w s:=⟨z,H,I,rw',q⟩
 by_cases h0:0<=i
 .have hj:i.toNat=j:=by
   rw[seqIndex_of h0 h5]at h1
   exact wR h1
  exact item_listR pl.isList h0 (by lia) (by rw[hj];simpa using ew) fin hs
 .have hj:(i+(its.toArray.size:Int)).toNat=j:=by
   rw[seqIndex_neg (by lia) h4]at h1
   rw[uq,<-hl]
   exact wR h1
  exact AA6 (x:=w) pl.isList.typeIs slot_list_getitem.lookup
   (wpAny_getItem_list_neg (Q:=λr s'=>r=w/\EP X pins σ Q r s') pl.isList (by lia) (by rw[uq]<;>lia) (by lia) (by rw[hj];simpa using ew) ⟨rfl,fin⟩) hs
def kT:IxR X (rZ X.K):=by
 intro value slice pins s σ H x y v u Q I rx ry h hs
 obtain⟨p,xs,i,z,rfl,rfl,hq,he,q⟩:=h
 cases rx
 obtain⟨t,rfl⟩:=ry
 obtain⟨its,r,pl,hz⟩:=I.tuple hq
 obtain⟨j,h1,h2,h3,h4,h5⟩:=UL he
 obtain⟨w,ew,rw'⟩:=r.get h2
 have hl:=r.length
 have hn:=PL
 have fin:EP X pins σ Q w s:=⟨z,H,I,rw',q⟩
 exact AA6 (x:=w) pl.typeIs vg.lookup
  (getItem_tuple (j:=j) (Q:=λr s'=>r=w/\EP X pins σ Q r s') pl (by lia) (by lia) (by rw[uq,<-hl];exact h1) (by simpa using ew) ⟨rfl,fin⟩) hs
def Th(its:Wp uX) n j(u:uX):AAQ (·.setIfInBounds j u) {cls:=.type "list",data:=.seq its.toArray n}={cls:=.type "list",data:=.seq (its.set j u).toArray n}:=by
 simp[AAQ]
def Inv.lst{σ:St}(I:Inv X pins σ H s)(h:H p=Gc (.lst xs)):∃(its:Wp uX) (n:Nat),Vals xs its/\s.heap.get? p=Gc {cls:=.type "list",data:=.seq its.toArray n}/\xs.length<=sizeLine:=by
 obtain⟨z,its,n,r,e⟩:=I.hok p _ h
 exact⟨its,n,r,e,z⟩
def Inv.jP{σ:St}{its its':Wp uX}(I:Inv X pins σ H s)(h:H p=Gc (.lst xs))(ho:s.heap.get? p=Gc {cls:=.type "list",data:=.seq its.toArray n})(hf:f {cls:=.type "list",data:=.seq its.toArray n}={cls:=.type "list",data:=.seq its'.toArray n'})(r:Vals ys its')(hz:ys.length<=sizeLine)(t:Nat):Inv X pins σ (upd H p (.lst ys)) {s with heap:=s.heap.update p f,toks:=t}:=by
 have e:(s.heap.update p f).get? p=Gc {cls:=.type "list",data:=.seq its'.toArray n'}:=by
  rw[wB f ho (by rw[hf]<;>rfl),hf]
 refine I.write (x:=p) (e:=p) (by rw[h];trivial) (.inl rfl) (λb u hb q=>(vn _ _ (vh hb)).trans q) ⟨_,e⟩ ?_
 exact⟨hz,its',n',r,e⟩
def nR:V->V->V->Hp->(Hp->Prop)->Prop:=λo i v H Q=>∃p xs k j,o=.ref p/\i=.int k/\H p=Gc (.lst xs)/\ixN xs.length k=Gc j/\Q (upd H p (.lst (xs.set j v)))
def set_list:qc X nR:=by
 intro pins s σ H o i v ov iv u Q I ro ri rv h
 obtain⟨p,xs,k,j,rfl,rfl,hp,hj,q⟩:=h
 cases ro
 obtain⟨t,rfl⟩:=ri
 obtain⟨its,n,r,ho,hz⟩:=I.lst hp
 obtain⟨h1,h2,h3,h4⟩:=Vf hj
 have hl:=r.length
 have hn:=PL
 have I':Inv X pins σ (upd H p (.lst (xs.set j v))) {s with heap:=s.heap.update p (AAQ (·.setIfInBounds j u))}:=
  I.jP hp ho (Th its n j u) (r.set rv j) (by rw[wU];exact hz) s.toks
 by_cases h0:0<=k
 .have hk:k.toNat=j:=by
   rw[seqIndex_of h0 h4]at h1
   exact wR h1
  exact PySem.W.ki_setAt ho h0 (by lia) (by rw[uq,<-hl];exact h4) (by rw[hk];exact⟨_,I',q⟩)
 .have hk:(k+(its.toArray.size:Int)).toNat=j:=by
   rw[seqIndex_neg (by lia) h3]at h1
   rw[uq,<-hl]
   exact wR h1
  exact PySem.W.ki_setBack ho (by lia) (by rw[uq,<-hl];exact h3) (by lia) (by rw[hk];exact⟨_,I',q⟩)
def Pc(lo hi:uR Int)(n:Nat):(sliceBounds lo hi none n).1=((HT.sIx n 0 lo:Nat):Int)/\(sliceBounds lo hi none n).2.1=((HT.sIx n n hi:Nat):Int)/\(sliceBounds lo hi none n).2.2=1:=by
 refine⟨?_,?_,rfl⟩
 .cases lo with
  |none=>simp[sliceBounds,HT.sIx]
  |some i=>
   simp only[sliceBounds,HT.sIx,Option.getD_none,show(1:Int)>0 by decide,zf]
   by_cases h:i<0
   .simp only[h,zf];rw[ABI (AAR (by rw[AA7];exact zH h)),Int.max_comm,ABJ]
   .simp only[h,AAN];rw[HT.N1 i n h,Int.max_eq_right (ACD _)]
 .cases hi with
  |none=>simp[sliceBounds,HT.sIx]
  |some i=>
   simp only[sliceBounds,HT.sIx,Option.getD_none,show(1:Int)>0 by decide,zf]
   by_cases h:i<0
   .simp only[h,zf];rw[ABI (AAR (by rw[AA7];exact zH h)),Int.max_comm,ABJ]
   .simp only[h,AAN];rw[HT.N1 i n h,Int.max_eq_right (ACD _)]
def OV(its:Wp uX)(lo hi:uR Int):slicePick its.toArray lo hi none=((its.drop (HT.sIx its.length 0 lo)).take (HT.sIx its.length its.length hi-HT.sIx its.length 0 lo)).toArray:=by
 obtain⟨h1,h2,h3⟩:=Pc lo hi its.toArray.size
 unfold slicePick
 rw[h1,h2,h3]
 simp only[sliceRange_one,pick_run,uq]<;>rfl
def rJ(K:W1):V->uR Int->uR Int->Hp->VK->Prop:=λx lo hi H Q=>∃a xs,x=.ref a/\SqL K H a xs/\∀p,H p=none->Q (.ref p) (upd H p (.lst (Y0 xs lo hi)))
def aj:SlR X (rJ X.K):=by
 intro pins s σ H x v vl vu lo hi sl Q I rx hs pl pu h
 obtain⟨a,xs,rfl,hx,q⟩:=h
 cases rx
 obtain⟨its,r,ht,hz⟩:=I.list hx
 have hlen:=r.length
 refine⟨"list",_,slot_list_getitem.lookup,ht.isList.typeIs,?_⟩
 refine wpAny_getItem_list_slice ht.isList hs pl pu .none (by simp) ?_ (by rw[uq]<;>lia)
 rw[OV,<-hlen]
 refine⟨.ref s.heap.objs.size,_,I.laid (t':=s.toks) (o:=.lst (Y0 xs lo hi)) (λb ob q=>uQ _ q) (uc _) ?_,rfl,q _ (I.hok.fresh (uc _))⟩
 exact⟨uZ (MD xs lo hi) hz,_,0,(r.drop (HT.sIx xs.length 0 lo)).take (HT.sIx xs.length xs.length hi-HT.sIx xs.length 0 lo),ux _ rfl⟩
noncomputable def MS:V->vZ
 | .non=>true
 | .bl _=>true
 | .int _=>true
 | .str _=>true
 |_=>false
noncomputable def eqV:V->V->vZ
 | .non,.non=>true
 | .bl a,.bl b=>a==b
 | .bl a,.int b=>(if a then 1 else 0)==b
 | .int a,.bl b=>a==(if b then 1 else 0)
 | .int a,.int b=>a==b
 | .str a,.str b=>a==b
 |_,_=>false
def iJ{u v:uX}(ry:RelV y u)(rx:RelV x v)(fy:MS y=true)(fx:MS x=true):SeqAt.EqAt A s u v (eqV y x):=by
 cases y with
 |non=>
  cases ry
  cases x with
  |non=>cases rx;exact SeqAt.EqAt.same _
  |bl b=>cases rx;exact SeqAt.EqAt.none_bool b
  |int b=>obtain⟨t,rfl⟩:=rx;exact SeqAt.EqAt.none_int b t
  |str b=>obtain⟨t,rfl⟩:=rx;exact SeqAt.EqAt.none_str b t
  |_=>exact absurd (show false=true from fx) vY
 |bl a=>
  cases ry
  cases x with
  |non=>cases rx;exact SeqAt.EqAt.bool_none a
  |bl b=>cases rx;exact SeqAt.EqAt.bool_bool a b
  |int b=>obtain⟨t,rfl⟩:=rx;exact SeqAt.EqAt.bool_int a b t
  |str b=>obtain⟨t,rfl⟩:=rx;exact SeqAt.EqAt.bool_str a b t
  |_=>exact absurd (show false=true from fx) vY
 |int a=>
  obtain⟨t',rfl⟩:=ry
  cases x with
  |non=>cases rx;exact SeqAt.EqAt.int_none a t'
  |bl b=>cases rx;exact SeqAt.EqAt.int_bool a t' b
  |int b=>obtain⟨t,rfl⟩:=rx;exact SeqAt.EqAt.int_int a t' b t
  |str b=>obtain⟨t,rfl⟩:=rx;exact AB6 a t' b t
  |_=>exact absurd (show false=true from fx) vY
 |str a=>
  obtain⟨t',rfl⟩:=ry
  cases x with
  |non=>cases rx;exact SeqAt.EqAt.str_none a t'
  |bl b=>cases rx;exact SeqAt.EqAt.str_bool a t' b
  |int b=>obtain⟨t,rfl⟩:=rx;exact AB7 a t' b t
  |str b=>obtain⟨t,rfl⟩:=rx;exact SeqAt.EqAt.str_str a t' b t
  |_=>exact absurd (show false=true from fx) vY
 |_=>exact absurd (show false=true from fy) vY
noncomputable def eqU(x:V)(u:uX):vZ:=match u with
 | .none=>eqV .non x
 | .bool b=>eqV (.bl b) x
 | .int i _=>eqV (.int i) x
 | .str z _=>eqV (.str z) x
 |_=>false
def Y3{x y:V}{u:uX}(r:RelV y u)(f:MS y=true):eqU x u=eqV y x:=by
 cases y with
 |non=>cases r;rfl
 |bl b=>cases r;rfl
 |int i=>obtain⟨t,rfl⟩:=r;rfl
 |str z=>obtain⟨t,rfl⟩:=r;rfl
 |_=>exact absurd (show false=true from f) vY
theorem MI:∀{xs} {us:Wp uX},Vals xs us->xs.all MS=true->us.any (eqU x)=xs.any λy=>eqV y x
 |_,_,.nil,_=>rfl
 |y::xs,u::us,.cons r t,f=>by
  rw[yN,ub]at f
  rw[xJ,xJ,Y3 r f.1,MI t f.2]
theorem Jh(rx:RelV x v)(fx:MS x=true):∀{xs} {us:Wp uX},Vals xs us->xs.all MS=true->∀u∈us,SeqAt.EqAt A s u v (eqU x u)
 |_,_,.nil,_=>λu hu=>by cases hu
 |y::xs,u::us,.cons r t,f=>λu' hu=>by
  rw[yN,ub]at f
  rcases uY.mp hu with rfl|hu
  .rw[Y3 r f.1];exact iJ r rx f.1 fx
  .exact Jh rx fx t f.2 u' hu
noncomputable def inV(x:V)(xs:Wp V):vZ:=xs.any λy=>eqV y x
noncomputable def rIn(K:W1)(neg:vZ):R2:=λx y H Q=>∃p xs,y=.ref p/\(SqL K H p xs\/SqT K H p xs)/\MS x=true/\xs.all MS=true/\Q (.bl (if neg then !inV x xs else inV x xs)) H
def Wd:OpR X (compareOp .In) (rIn X.K false):=by
 intro pins s σ H x y v u Q I rx ry h
 obtain⟨p,xs,rfl,hq,fx,fs,q⟩:=h
 cases ry
 rcases hq with hq|hq
 .obtain⟨its,r,pl,hz⟩:=I.list hq
  refine SeqAt.in_listAt (eqU x) pl.isList (λw hw=>Jh rx fx r fs w (by simpa using hw)) ⟨.bl _,H,I,rfl,?_⟩
  rw[show its.toArray.any (eqU x)=its.any (eqU x) by simp,MI r fs]
  exact q
 .obtain⟨its,r,pl,hz⟩:=I.tuple hq
  refine SeqAt.in_tupleAt (eqU x) pl (λw hw=>Jh rx fx r fs w (by simpa using hw)) ⟨.bl _,H,I,rfl,?_⟩
  rw[show its.toArray.any (eqU x)=its.any (eqU x) by simp,MI r fs]
  exact q
def P6:OpR X (compareOp .NotIn) (rIn X.K true):=by
 intro pins s σ H x y v u Q I rx ry h
 obtain⟨p,xs,rfl,hq,fx,fs,q⟩:=h
 cases ry
 rcases hq with hq|hq
 .obtain⟨its,r,pl,hz⟩:=I.list hq
  refine SeqAt.notIn_listAt (eqU x) pl.isList (λw hw=>Jh rx fx r fs w (by simpa using hw)) ⟨.bl _,H,I,rfl,?_⟩
  rw[show its.toArray.any (eqU x)=its.any (eqU x) by simp,MI r fs]
  exact q
 .obtain⟨its,r,pl,hz⟩:=I.tuple hq
  refine SeqAt.notIn_tupleAt (eqU x) pl (λw hw=>Jh rx fx r fs w (by simpa using hw)) ⟨.bl _,H,I,rfl,?_⟩
  rw[show its.toArray.any (eqU x)=its.any (eqU x) by simp,MI r fs]
  exact q
def PK:Eg X (.builtin "len") (λxs H Q=>∃p ys,xs=[.ref p]/\(SqL X.K H p ys\/SqT X.K H p ys)/\Q (.int ys.length) H):=by
 intro pins s σ H xs us Q I r h
 obtain⟨p,ys,rfl,hq,q⟩:=h
 obtain⟨u,rfl,rx⟩:=vals1 r
 cases rx
 have hn:=PL
 rcases hq with hq|hq
 .obtain⟨its,r',pl,hz⟩:=I.list hq
  have hlen:=r'.length
  exact Calls.call_len_list pl.isList (by simp only[uq]<;>lia) ⟨.int ys.length,H,I.tok _,⟨s.toks+1,by rw[uq,hlen]⟩,q⟩
 .obtain⟨its,r',pl,hz⟩:=I.tuple hq
  have hlen:=r'.length
  exact len_tuple pl (by simp only[uq]<;>lia) ⟨.int ys.length,H,I.tok _,⟨s.toks+1,by rw[uq,hlen]⟩,q⟩
def QA:Eg X (.builtin "len") (λxs H Q=>∃z,xs=[.str z]/\z.length<=sizeLine/\Q (.int z.length) H):=by
 intro pins s σ H xs us Q I r h
 obtain⟨z,rfl,hz,q⟩:=h
 obtain⟨u,rfl,t,rfl⟩:=vals1 r
 have hn:=PL
 exact len_str (by lia) ⟨.int z.length,H,I.tok _,⟨_,rfl⟩,q⟩
def QE:Eg X (.type "list") (λxs H Q=>∃p ys,xs=[.ref p]/\(SqL X.K H p ys\/SqT X.K H p ys)/\∀l,H l=none->Q (.ref l) (upd H l (.lst ys))):=by
 intro pins s σ H xs us Q I r h
 obtain⟨p,ys,rfl,hq,q⟩:=h
 obtain⟨u,rfl,rx⟩:=vals1 r
 cases rx
 have fin:∀(its:Wp uX),Vals ys its->ys.length<=sizeLine->∀(h':vq) (c':Nat),(∀b o',s.heap.get? b=Gc o'->h'.get? b=Gc o')->
   h'.get? s.heap.objs.size=Gc {cls:=.type "list",dict:=none,data:=.seq its.toArray c',slots:= #[]}->EP X pins σ Q (.ref s.heap.objs.size) {s with heap:=h'}:=λits r' hz h' c' kp e=>
  ⟨.ref s.heap.objs.size,_,I.laid (t':=s.toks) kp (uc _) (show CT X.prog X.w _ h' _ (.lst ys)from⟨hz,its,c',r',e⟩),rfl,q _ (I.hok.fresh (uc _))⟩
 rcases hq with hq|hq
 .obtain⟨its,r',pl,hz⟩:=I.list hq
  have hlen:=r'.length
  obtain⟨o,ho,hc,n,hd⟩:=pl.isList
  exact call_list_seq p (.inl rfl) ho hc hd (λh' c' kp e=>fin its r' hz h' c' kp e) (by simp only[uq]<;>lia)
 .obtain⟨its,r',pl,hz⟩:=I.tuple hq
  have hlen:=r'.length
  obtain⟨o,ho,hc,n,hd⟩:=pl
  exact call_list_seq p (.inr rfl) ho hc hd (λh' c' kp e=>fin its r' hz h' c' kp e) (by simp only[uq]<;>lia)
def Om:Eg X (.type "tuple") (λxs H Q=>∃p ys,xs=[.ref p]/\((SqL X.K H p ys/\∀l,H l=none->Q (.ref l) (upd H l (.tup ys)))\/(SqT X.K H p ys/\Q (.ref p) H))):=by
 intro pins s σ H xs us Q I r h
 obtain⟨p,ys,rfl,h⟩:=h
 obtain⟨u,rfl,rx⟩:=vals1 r
 cases rx
 rcases h with⟨hq,q⟩|⟨hq,q⟩
 .obtain⟨its,r',pl,hz⟩:=I.list hq
  have hlen:=r'.length
  refine call_tuple_list pl.isList (λh' kp=>?_) (by simp only[uq]<;>lia)
  have I1:Inv X pins σ H {s with heap:=h'}:=I.kept (t':=s.toks) kp
  have I2:Inv X pins σ (upd H h'.objs.size (.tup ys)) {s with heap:=h'.push {cls:=.type "tuple",data:=.seq its.toArray}}:=
   I1.laid (t':=s.toks) (λb o e=>uQ _ e) (uc _) (show CT X.prog X.w _ _ _ (.tup ys)from⟨hz,its,r',yl _ _⟩)
  exact⟨.ref h'.objs.size,_,I2,rfl,q _ (I1.hok.fresh (uc _))⟩
 .obtain⟨its,r',pl,hz⟩:=I.tuple hq
  exact call_tuple_same pl ⟨.ref p,H,I,rfl,q⟩
def tyV(K:W1)(T:xq)(x:V)(H:Hp):Prop:=match x with
 | .str _=>T="str"
 | .int _=>T="int"
 | .ref p=>(T="list" /\∃xs,SqL K H p xs)\/(T="tuple" /\∃o,K.lookup p=Gc o/\o.cls=.type "tuple" /\o.dict=none)∨ (T="dict" /\((∃kvs,H p=Gc (.dK kvs))\/∃kvs,H p=Gc (.dT kvs)))\/(T="set" /\∃S n,H p=Gc (.set S n))
 |_=>wH
def jS{σ:St}(I:Inv X pins σ H s)(r:RelV x v)(ty:tyV X.K T x H):s.TypeIs v T/\∀a,v=.ref a->∃ob,s.heap.get? a=Gc ob/\ob.dict=none:=by
 cases x with
 |str z=>
  obtain⟨t,rfl⟩:=r
  cases (show T="str" from ty)
  exact⟨AA8 s z t,λ_ e=>nomatch e⟩
 |int i=>
  obtain⟨t,rfl⟩:=r
  cases (show T="int" from ty)
  exact⟨zX s i t,λ_ e=>nomatch e⟩
 |ref p=>
  cases r
  rcases ty with⟨rfl,xs,hq⟩|⟨rfl,o,hk,hc,hd⟩|⟨rfl,hk⟩|⟨rfl,S,n,hk⟩
  .obtain⟨its,_,pl,_⟩:=I.list hq
   refine⟨pl.isList.typeIs,λa e=>?_⟩
   cases e
   obtain⟨o,n,e,c,hd,_⟩:=pl
   exact⟨o,e,hd⟩
  .refine⟨⟨o,I.kIn p o hk,hc⟩,λa e=>?_⟩
   cases e
   exact⟨o,I.kIn _ o hk,hd⟩
  .have z:∃o,s.heap.get? p=Gc o/\o.ExactDict:=by
    rcases hk with⟨kvs,hk⟩|⟨kvs,hk⟩
    .obtain⟨_,_,_,_,o,_,_,e,ex,_⟩:=I.hok p _ hk
     exact⟨o,e,ex⟩
    .obtain⟨_,_,_,_,o,_,_,e,ex,_⟩:=I.hok p _ hk
     exact⟨o,e,ex⟩
   obtain⟨o,e,ex⟩:=z
   refine⟨⟨o,e,ex.1⟩,λa e2=>?_⟩
   cases e2
   exact⟨o,e,ex.2.1⟩
  .obtain⟨o,_,_,_,e,ex,_⟩:=I.hok p _ hk
   refine⟨⟨o,e,ex.1⟩,λa e2=>?_⟩
   cases e2
   exact⟨o,e,ex.2.1⟩
 |_=>exact vX ty
noncomputable def tBM(K:W1)(T:xq)(r:V->Wp V->Hp->VK->Prop)(to:TE)(t:TA):TE:=λσ H Q=>to σ H λx H1=>tyV K T x H1/\t σ H1 λxs H2=>r x xs H2 Q
variable{o e:vi}{es:Wp vi}{to:TE}{t:TA}{name:Str}{apos cpos:Pos}{T id:xq}{r:V->Wp V->Hp->VK->Prop}
def nJ(pa:PlainAttrs T)(slot:Slot T name id)(hty:typeOf (.builtin id)=pure (.type "method_descriptor"))(hm:MtR X id r)(ho:PE X o to)(ha:PA X (e::es) t)(hbase:zn (attributeBase o name X.env (eval o X.env)=eval o X.env) ww)(hfew:zn (((backTo cpos (ue (e::es) X.env)).all (λx=> !x.1) && (backToKw cpos (keywordEach [] X.env)).all (λx=>x.1.isSome) && decide ((e::es).length+([]:Wp AAg).length+(if([]:Wp AAg).isEmpty then 0 else 1)<30))=true) ww)(hline:zn ((apos.endLine==cpos.line)=true) ww)(hs:zn (ue (e::es) X.env=(false,eval e X.env)::ue es X.env) ww)(hplain:zn ((backTo cpos (ue es X.env)).any (·.1)=false) ww):PE X (.Call (.Attribute o name apos) (e::es) [] cpos) (tBM X.K T r to t):=by
 intro pins s σ H Q I h
 refine wpAny_Call_method_late hbase hfew hline rfl (thn (ho pins s σ H _ I h) λv s1 z=>?_)
 obtain⟨x,H1,I1,r1,ty,q1⟩:=z
 obtain⟨h1,h2⟩:=jS I1 r1 ty
 refine⟨T,id,pa,slot,hty,h1,h2,?_⟩
 have hA:=ha cpos pins s1 σ H1 _ I1 q1
 rw[hs]at hA⊢
 refine zI (by show(false||(backTo cpos (ue es X.env)).any (·.1))=false;rw[hplain]<;>rfl) (xj ?_)
 exact thn hA λus s2 ⟨vs,H2,I2,r2,q2⟩=>hm pins s2 σ H2 x vs v us Q I2 r1 r2 q2
end
end L2
namespace L2
open PySem PySem.Spec PyProof.Rows
def MtM(X:Cx)(id:xq)(r:V->Wp V->Hp->VK->Prop):Prop:=
 ∀(pins:Wp (uf×Obj)) (s:ui) (σ:St) (H:Hp) (x:V) (xs:Wp V) (v:uX) (us:Wp uX) (Q:VK),Inv X pins σ H s->RelV x v->Vals xs us->r x xs H Q->
  wpAny (model X.prog X.w) X.A (call (.builtin id) (v::us)) (EP X pins σ Q) X.xe s
def Vals.one:∀{x:V} {us:Wp uX},Vals [x] us->∃u,us=[u]/\RelV x u:=λh=>by
 cases h with
 |cons r t=>cases t;exact⟨_,rfl,r⟩
def Vals.two:∀{x y:V} {us:Wp uX},Vals [x,y] us->∃u v,us=[u,v]/\RelV x u/\RelV y v:=λh=>by
 cases h with
 |cons r t=>
  cases t with
  |cons q t=>cases t;exact⟨_,_,rfl,r,q⟩
theorem Vals.rep(h:Vals xs us):∀k:Nat,Vals (uo k xs).flatten (uo k us).flatten
 |0=>.nil
 |k+1=>by
  rw[wJ,wJ,xk,xk]
  exact Vals.append h (Vals.rep h k)
theorem foldl_rep its:∀k (acc:Wp uX),ACE (λx1 x2=>x1++x2) acc.toArray (uo k its.toArray)=(acc++(uo k its).flatten).toArray
 |0,acc=>by simp
 |k+1,acc=>by
  have e:acc.toArray++its.toArray=(acc++its).toArray:=by simp
  have e2:(acc++its)++(uo k its).flatten=acc++(uo (k+1) its).flatten:=by
   rw[wJ,xk,zJ]
  rw[<-e2,<-foldl_rep its k (acc++its),<-e,wJ,List.foldl_cons]
section
variable{X:Cx}{pins:Wp (uf×Obj)}{σ:St}{H:Hp}{s:ui}{l b:uf}{xs ys zs:Wp V}
def Inv.mY{its its':Wp uX}{t':Nat}(I:Inv X pins σ H s)(hH:H l=Gc (.lst xs))(e:s.heap.get? l=Gc {cls:=.type "list",data:=.seq its.toArray n})(hf:f its.toArray=its'.toArray)(hv:Vals ys its')(hz:ys.length<=sizeLine):Inv X pins σ (upd H l (.lst ys)) {s with heap:=s.heap.update l (AAQ f),toks:=t'}:=by
 have q:=PySem.IsL.update e f
 rw[hf]at q
 refine I.write (x:=l) (e:=l) (by rw[hH];exact trivial) (.inl rfl) (λb' u hb hu=>(vn s.heap (AAQ f) (vh hb)).trans hu) ⟨_,q⟩ ?_
 exact⟨hz,its',_,hv,q⟩
def Inv.rE{its:Wp uX}{t':Nat}(I:Inv X pins σ H s)(hv:Vals ys its)(hz:ys.length<=sizeLine):Inv X pins σ (upd H s.heap.objs.size (.lst ys)) {s with heap:=s.heap.push {cls:=.type "list",data:=.seq its.toArray},toks:=t'}:=
 I.laid (λ_ _ q=>uQ _ q) (uc _) ⟨hz,its,0,hv,ux _ rfl⟩
def Inv.fresh(I:Inv X pins σ H s):H s.heap.objs.size=none:=I.hok.fresh (uc _)
def Inv.ZD(I:Inv X pins σ H s)(hH:H l=Gc (.lst xs)):xs.length<=sizeLine/\∃(its:Wp uX) (n:Nat),Vals xs its/\xs.length=its.length/\s.heap.get? l=Gc {cls:=.type "list",data:=.seq its.toArray n}:=by
 obtain⟨z,its,n,r,e⟩:=I.hok l _ hH
 exact⟨z,its,n,r,r.length,e⟩
def Ot{n:Nat}(h:n<=sizeLine):wN n=false:=by
 unfold wN
 exact yJ (by lia)
end
section
variable{X:Cx}
def aL:V->Wp V->Hp->VK->Prop:=λx vs H Q=>∃l xs y,x=.ref l/\vs=[y]/\H l=Gc (.lst xs)/\xs.length<sizeLine/\Q .non (upd H l (.lst (xs++[y])))
def PF:MtM X "list.append" aL:=by
 intro pins s σ H x vs v us Q I rx rv h
 obtain⟨l,xs,y,rfl,rfl,hH,hz,q⟩:=h
 cases rx
 obtain⟨u,rfl,ru⟩:=rv.one
 obtain⟨z,its,n,r,hl,e⟩:=I.ZD hH
 refine zY ABR ⟨_,e,rfl⟩ F.entry_list_append (F.args_list_append_2 _ _) (PySem.list_append l its.toArray n u (by rw[uq];lia)) ⟨e,?_⟩
 refine⟨.non,_,I.mY (its':=its++[u]) hH e (by simp) (r.append (.cons ru .nil)) ?_,rfl,q⟩
 rw[vp,ABS]
 lia
def bX:V->Wp V->Hp->VK->Prop:=λx vs H Q=>∃l b xs zs,x=.ref l/\vs=[.ref b]/\H l=Gc (.lst xs)/\H b=Gc (.lst zs)/\xs.length+zs.length<=sizeLine/\Q .non (upd H l (.lst (xs++zs)))
def Ug:MtM X "list.extend" bX:=by
 intro pins s σ H x vs v us Q I rx rv h
 obtain⟨l,b,xs,zs,rfl,rfl,hH,hB,hz,q⟩:=h
 cases rx
 obtain⟨u,rfl,ru⟩:=rv.one
 cases ru
 obtain⟨z,its,n,r,hl,e⟩:=I.ZD hH
 obtain⟨z2,its2,n2,r2,hl2,e2⟩:=I.ZD hB
 have hsz:its.toArray.size+its2.toArray.size<=sizeLine:=by rw[uq,uq];lia
 have hlong:¬(!its.toArray.isEmpty && wN (its.toArray.size+its2.toArray.size))=true:=by
  rw[Ot hsz,AAS]
  exact vY
 refine zY ACF ⟨_,e,rfl⟩ ABt (ABY _ _)
  (AutoSeq1.list_extend_list_list_0 l its.toArray n b its2.toArray n2 hlong (by rw[uq];lia) (by lia)) ⟨e,e2,?_⟩
 refine⟨.non,_,I.mY (its':=its++its2) hH e (by simp) (r.append r2) ?_,rfl,q⟩
 rw[vp]
 lia
noncomputable def rX:R2:=λx y H Q=>∃l b xs zs,x=.ref l/\y=.ref b/\H l=Gc (.lst xs)/\H b=Gc (.lst zs)/\xs.length+zs.length<=sizeLine/\∀p,H p=none->Q (.ref p) (upd H p (.lst (xs++zs)))
def jg:OpR X (binaryOp .Add) rX:=by
 intro pins s σ H x y v u Q I rx ry h
 obtain⟨l,b,xs,zs,rfl,rfl,hH,hB,hz,q⟩:=h
 cases rx
 cases ry
 obtain⟨z,its,n,r,hl,e⟩:=I.ZD hH
 obtain⟨z2,its2,n2,r2,hl2,e2⟩:=I.ZD hB
 refine PySem.P.add_list e e2 ?_ (by rw[uq,uq];lia)
 have ea:its.toArray++its2.toArray=(its++its2).toArray:=by simp
 rw[ea]
 exact⟨.ref _,_,I.rE (t':=s.toks) (r.append r2) (by rw[vp];lia),rfl,q _ I.fresh⟩
noncomputable def tU:R2:=λx y H Q=>∃l k xs,x=.ref l/\y=.int k/\H l=Gc (.lst xs)/\ -(2^63)<=k/\k<2^63/\xs.length*k.toNat<=sizeLine/\
 ∀p,H p=none->Q (.ref p) (upd H p (.lst (uo k.toNat xs).flatten))
def len_rep{α:Type}(xs:Wp α)(k:Nat):(uo k xs).flatten.length=k*xs.length:=by
 induction k with
 |zero=>simp
 |succ k ih=>rw[wJ,xk,vp,ih,Nat.succ_mul,AA9]
def kA:OpR X (binaryOp .Mult) tU:=by
 intro pins s σ H x y v u Q I rx ry h
 obtain⟨l,k,xs,rfl,rfl,hH,h1,h2,hz,q⟩:=h
 cases rx
 obtain⟨t,rfl⟩:=ry
 obtain⟨z,its,n,r,hl,e⟩:=I.ZD hH
 have hlen:its.toArray.size*k.toNat<=sizeLine:=by rw[uq,<-hl];exact hz
 have hcap:¬its.toArray.size*k.toNat>(2^63-1) / 8:=by
  have:(sizeLine:Nat)<=(2^63-1) / 8:=by decide
  lia
 have hfit:¬(!Builtin.List.listFitsIndex k)=true:=by
  rw[fitsIndex_both h1 h2]
  exact vY
 have hlong:¬wN (its.toArray.size*k.toNat)=true:=by
  rw[Ot hlen]
  exact vY
 have hnew:ACE (λx1 x2=>x1++x2) #[] (uo (if its.toArray.isEmpty=true then 0 else k.toNat) its.toArray)=(uo k.toNat its).flatten.toArray:=by
  have f0:∀m:Nat,ACE (λx1 x2=>x1++x2) #[] (uo m its.toArray)=(uo m its).flatten.toArray:=λm=>by
   have:=foldl_rep its m []
   rw[vK]at this
   exact this
  rw[f0]
  cases its with
  |nil=>simp
  |cons a r'=>rw[vB (by simp)]
 refine yj (T:="list") (U:="int") (by decide) ⟨_,e,rfl⟩ (λs'=>zX s' k t) noFill_list_mul ABK yM repeat_list AAw.lookup
  (zY yM (zX s k t) AAx (AAh _ _) (int___rmul___int_list k t l its.toArray n)
    ⟨e,rfl,⟨_,e,rfl⟩,zY F.slot_list_mul ⟨_,e,rfl⟩ F.entry_list_mul (F.args_list_mul_2 _ _) (AutoListH.list___mul___list_int_3 l its.toArray n k t hfit hcap hlong) ⟨e,?_⟩⟩)
 rw[hnew]
 exact⟨.ref _,_,I.rE (t':=s.toks) (r.rep k.toNat) (by rw[len_rep,yF];exact hz),rfl,q _ I.fresh⟩
end
section
variable{prog:va}{w:wG}{A:wy}{E:uX->ui->Prop}{s:ui}
end
section
variable{X:Cx}
end
end L2
namespace Att
open PySem PySem.W PySem.Calls PyProof.Rows
def ints_of_wellAll:∀ns (vs:Wp uX),WellAll P h vs (ns.map WData.int)->yq vs ns:=by
 intro ns
 induction ns with
 |nil=>
  intro vs w
  rw[wF]at w
  cases w
  exact .nil
 |cons n ns ih=>
  intro vs w
  rw[uw]at w
  cases w with
  |cons a b=>
   cases a
   exact .cons _ _ (ih _ b)
def script_of{l:AA2}(hn:l.most=Gc n)(hpre:l.row.toRowW.claim.pre args=true)(hwl:WellAll P h vals args):∃a vs ns,vals=[u5 a]/\args=[WData.list (ns.map WData.int)]/\h.get? a=Gc {cls:=.type "list",data:=.seq vs.toArray}/\yq vs ns/\ns.length<=n:=by
 have hsh:WShape.hasAll [] args [.list .int]=true:=(pre_splitW hpre).1
 have hc:l.pre.holds [] {args:=args}=true:=(pre_splitW hpre).2
 obtain⟨d,r,rfl,h1,h2⟩:=hasAllW_cons hsh
 obtain rfl:=hasAllW_nil h2
 obtain⟨xs,rfl,h3⟩:=hasW_list h1
 obtain⟨ns,rfl⟩:=items_int h3
 have hlen:ns.length<=n:=by
  unfold OpenLaw.pre at hc
  have h4:(WTm.not (.lt (.lit (.int (n:Int))) (.len (.arg 0)))).holds [] {args:=[.list (ns.map .int)]}=true:=by
   have h4:=(holds_andW hc).1
   rw[hn]at h4
   exact h4
  have h5:=condW_of h4 (w_not (w_lt w_lit (w_len_list (w_arg rfl))))
  rw[vN]at h5
  refine Nat.le_of_not_lt λq=>?_
  have q':(n:Int)<((ns.length:Nat):Int):=by lia
  first
   |(rw[xO q']at h5;exact absurd h5 (by decide))
   |(simp at h5;lia)
 cases hwl with
 |cons w1 w2=>
  cases w2
  cases w1 with
  |list ho hall=>exact⟨_,_,ns,rfl,rfl,ho,ints_of_wellAll ns _ hall,hlen⟩
def post_true(l:AA2)(args:Wp WData):l.row.toRowW.claim.post args (.bool true) args=true:=
 postW_of (r:=l.row.toRowW) (X:=(true==true))
  (show WShape.has [] (.bool true) .bool=true by first|rfl|decide|simp[WShape.has,WShape.arms,WShape.armsAll])
  (show(WTm.eq .res (.lit (.bool true))).value [] {args:=args,res:=Gc (.bool true),after:=args}=Gc (.bool (true==true))from w_eq_bool (w_res rfl) w_lit) rfl
def attach_call{l:AA2}(hn:l.most=Gc n)(hdf:d.params.defaults=[])(call:∀w s₀ s₁ mg mb fa o pm cd doc a vs ns,Ground q loose [] XP w s₀ mg mb s₁.heap->YP w s₁.heap->s₁.heap.get? fa=Gc o->o.data=.func (docDef d.name d.params d.body d.scope pm cd doc)->s₁.heap.CodeRec cd d.name->mg d.name=Gc (.ref fa)->s₁.heap.get? a=Gc {cls:=.type "list",data:=.seq vs.toArray}->yq vs ns->ns.length<=n->s₁.gens= #[]->codeAny (model l.prog w) callerA (.call (.ref fa) ⟨[.ref a],[]⟩) (λr s'=>r=.ok (.ret (.bool true))/\OldK s₁.heap s'.heap/\s'.os=s₁.os/\yz s'.gens) s₁):WalkO q loose XP YP l.row.toRowW d [] (λf vs=>PySem.call f vs):=by
 intro w s₀ s₁ mg mb G Y fa o pm cd doc dV kV ho hd hcd hD hmg hg args vals as hpre hlay hrd hwl hlo
 obtain rfl:dV=.none:=Dflts.none hD hdf
 obtain rfl:kV=.none:=Dflts.noKw hD
 obtain⟨a,vs,ns,rfl,rfl,hobj,hints,hlen⟩:=script_of hn hpre hwl
 refine enter_call (yf (call w s₀ s₁ mg mb fa o pm cd doc a vs ns G Y ho (fd_plain hd) hcd hmg hobj hints hlen hg) λr s' hq=>?_)
 obtain⟨rfl,h2,h3,h4⟩:=hq
 exact⟨.inl ⟨.bool true,.bool true,[],rfl,λ_=>rfl,.bool true,post_true l _,λ_=>⟨List.Pairwise.nil,λ_ hm=>(nomatch hm)⟩⟩,h2,h3,h4⟩
section
variable{prog:va}{w:wG}{A:wy}{E:uX->ui->Prop}{s:ui}{K:W1}
end
end Att
namespace L2
open PySem PySem.Spec PyProof.Rows
theorem QG:∀{vs:Wp uX} {ns:Wp Int},yq vs ns->Vals (ns.map V.int) vs
 |_,_,.nil=>.nil
 |_,_,.cons n t h=>.cons ⟨t,rfl⟩ (QG h)
end L2
namespace L2
open PySem PySem.Spec PyProof.Rows
abbrev KOf{K:W1}{h:vq}(_:K.In h):W1:=K
end L2
namespace L2
open PySem PySem.Spec PyProof.Rows
noncomputable def inClass(s:vH)(j:Nat):vH:=match s with
 | .ClassDef _ _ _ body _ _ _ _ _ _ _=>body.getD j (.Pass ⟨0,0,0,0⟩)
 |_=>.Pass ⟨0,0,0,0⟩
noncomputable def F2(s:vH):Arguments:=match s with
 | .FunctionDef _ a _ _ _ _ _ _ _ _=>a
 |_=>{posonlyargs:=[],args:=[],vararg:=none,kwonlyargs:=[],kw_defaults:=[],kwarg:=none,defaults:=[]}
noncomputable def Ar(s:vH):Wp vH:=match s with
 | .FunctionDef _ _ b _ _ _ _ _ _ _=>b
 |_=>[]
noncomputable def AB(s:vH):wX:=match s with
 | .FunctionDef _ _ _ _ _ _ sc _ _ _=>sc
 |_=>{kind:=.function,names:=[],isGenerator:=false,isCoroutine:=false}
abbrev CX0:CXT:=λ_ _ _ _ _ _=>wH
abbrev E0:XK:=λ_ _ _=>wH
def UH{X:Cx}:Passes CX0 X E0:=λ_ _ _ _ _ _ _ h=>h.elim
structure Fun(K:W1)(x qual:Str)(st:vH)(f:uf)(fd:zE):Prop where
 ex:∃(oc:uX) (od:uR uf) (kV doc pm:uX) (an:uR uf) (cdv ct:uX) (osl:yo (uR uX)),
  fd=wY x qual (F2 st) (Ar st) (AB st) .none kV doc pm an cdv ct/\K.lookup f=Gc ⟨oc,od,.func fd,osl⟩/\x5 K cdv qual=true
 kp:vm K (.ref f)=true
section
variable{P:va}{w:wG}{K:W1}{mg:Str->uR uX}{base:vq}
def Fun.ok{st:vH}(F:Fun K x qual st f fd)(S:Aj N ps (AB st))(len:∀vs H Q E,sp vs H Q E->vs.length=ps.length)(hbody:∀cdv A outer s H vs Q E,Cj k (A.deeper (envOfC qual (AB st) s.heap.objs.size f cdv))->sp vs H Q E->∃t,PSs (IW CX0 P w K mg base N qual (AB st) f cdv A outer s H E).nox (Ar st) t/\t {nx:=λ_ H'=>Q .non H',rt:=Q} (start N vs) H):Ji P w K mg base CX0 (k+1) f fd ps sp:=by
 obtain⟨oc,od,kV,doc,pm,an,cdv,ct,osl,rfl,lk,hcd⟩:=F.ex
 refine X3 lk hcd S len λA outer s H vs Q E hr hsp=>?_
 obtain⟨t,h,q⟩:=hbody cdv A outer s H vs Q E hr hsp
 exact⟨t,h.nox,q⟩
def Fun.binds{st:vH}(F:Fun K x qual st f fd)(h:∀kV doc pm an cdv ct us,us.length=ps.length->bindArgs (wY x qual (F2 st) (Ar st) (AB st) .none kV doc pm an cdv ct) ⟨us,[]⟩=pure (ps.zip us)):Binds K fd ps []:=by
 obtain⟨oc,od,kV,doc,pm,an,cdv,ct,osl,rfl,lk,hcd⟩:=F.ex
 exact .all (h kV doc pm an cdv ct)
def VI{st:vH}{kV doc pm cdv ct:uX}(l:K.lookup f=Gc ⟨oc,od,.func (wY x qual (F2 st) (Ar st) (AB st) .none kV doc pm an cdv ct),osl⟩)(c:x5 K cdv qual=true)(k:vm K (.ref f)=true):Fun K x qual st f (wY x qual (F2 st) (Ar st) (AB st) .none kV doc pm an cdv ct):=⟨⟨oc,od,kV,doc,pm,an,cdv,ct,osl,rfl,l,c⟩,k⟩
end
section
variable{X:Cx}
end
def Ze{A B:Prop}(h:B):if false=true then A else B:=by
 rw[vB vY]
 exact h
def Yy{A B:Prop}(h:A):if true=true then A else B:=by
 rw[vC rfl]
 exact h
def Bq(H H':Hp):Prop:=∀b o,H b=Gc o->H' b=Gc o
end L2
end
noncomputable section
namespace L2
open PySem PySem.Spec PyProof.Rows
noncomputable def FI(cells:Wp (Str×uf)):Wp (Str×AAt)->Wp (Str×uf)->Wp (Str×uf)
 | [],cs=>cs
 |(n,k)::r,cs=>if(k==vx)=true then FI cells r ((n,(cells.lookup n).getD 0)::cs)else FI cells r cs
def Pk:∀names cs,(∀y∈names,y.2=.free->∃a,env.cells.lookup y.1=Gc a)->(forIn names cs λx r=>match x with|(name,kind)=>if(kind==vx)=true then(do let a<-cellOf env name;pure (zt ((name,a)::r)))else pure (zt r):Sem (Wp (Str×uf)))=pure (FI env.cells names cs)
 | [],cs,_=>by simp[FI]
 |(n,k)::r,cs,h=>by
  rw[ABL]
  have ih:=λcs=>Pk r cs λy hy=>h y (uW _ hy)
  by_cases hk:(k==vx)=true
  .obtain⟨a,ha⟩:=h (n,k) uk (by simpa using hk)
   have ha':env.cells.lookup n=Gc a:=ha
   have e:cellOf env n=pure a:=by unfold cellOf;rw[ha']
   simp only[hk,zf,e,pure_bind,FI,ha',Option.getD_some]
   exact ih _
  .simp only[hk,AAN,pure_bind,FI]
   exact ih _
def OA(h:∀y∈scope.names,y.2=.free->∃a,env.cells.lookup y.1=Gc a):closureFor scope env=pure (FI env.cells scope.names []):=by
 unfold closureFor
 have:=Pk (env:=env) scope.names [] h
 simp only[bind_pure]at this⊢
 exact this
theorem Jz:∀{names} {cs},(∀y∈names,y.2=.free->∃a,cells.lookup y.1=Gc a)->(FI cells names cs).lookup x=Gc c->cs.lookup x=Gc c\/cells.lookup x=Gc c
 | [],cs,_,h=>.inl h
 |(n,k)::r,cs,hh,h=>by
  have hr:∀y∈r,y.2=.free->∃a,cells.lookup y.1=Gc a:=λy hy=>hh y (uW _ hy)
  unfold FI at h
  by_cases hk:(k==vx)=true
  .rw[vC hk]at h
   rcases Jz hr h with q|q
   .obtain⟨a,ha⟩:=hh (n,k) uk (by simpa using hk)
    have ha':cells.lookup n=Gc a:=ha
    rw[vT]at q
    cases hx:x==n with
    |true=>
     rw[hx,ha']at q
     have e:x=n:=by simpa using hx
     subst e
     cases q
     exact .inr ha'
    |false=>
     rw[hx]at q
     exact .inl q
   .exact .inr q
  .rw[vB hk]at h
   exact Jz hr h
theorem GS:∀{names} {cs},((x,vx)∈names\/∃c,cs.lookup x=Gc c)->∃c,(FI cells names cs).lookup x=Gc c
 | [],cs,h=>h.elim (λz=>nomatch z) id
 |(n,k)::r,cs,h=>by
  unfold FI
  by_cases hk:(k==vx)=true
  .rw[vC hk]
   refine GS ?_
   by_cases hx:x=n
   .subst hx
    exact .inr ⟨_,by rw[vT,AAy]⟩
   .rcases h with h|⟨c,h⟩
    .rcases uY.mp h with e|e
     .cases e;exact absurd rfl hx
     .exact .inl e
    .refine .inr ⟨c,?_⟩
     rw[vT,show(x==n)=false by simpa using hx]
     exact h
  .rw[vB hk]
   refine GS ?_
   rcases h with h|h
   .rcases uY.mp h with e|e
    .cases e;exact absurd rfl hk
    .exact .inl e
   .exact .inr h
theorem K0{env:Env}:∀{names:Wp (Str×AAt)},names.lookup x=Gc .free->(names.map λ(n,k)=>if(k==vx && env.scope.kind== .function && env.kindOf n==Gc .cell)then(n,yO)else(n,k)).lookup x=Gc .cell\/(names.map λ(n,k)=>if(k==vx && env.scope.kind== .function && env.kindOf n==Gc .cell)then(n,yO)else(n,k)).lookup x=Gc .free
 | [],h=>by simp at h
 |(n,k)::r,h=>by
  have ih:= @K0 x env r
  show vk x ((if(k==vx && env.scope.kind== .function && env.kindOf n==Gc .cell)=true then(n,yO)else(n,k))::_)=_\/vk x ((if(k==vx && env.scope.kind== .function && env.kindOf n==Gc .cell)=true then(n,yO)else(n,k))::_)=_
  cases hx:x==n with
  |true=>
   simp only[vT,hx]at h
   cases h
   by_cases hc:(vx==vx && env.scope.kind== .function && env.kindOf n==Gc .cell)=true
   .rw[vC hc];simp only[vT,hx];exact .inl trivial
   .rw[vB hc];simp only[vT,hx];exact .inr trivial
  |false=>
   simp only[vT,hx]at h
   by_cases hc:(k==vx && env.scope.kind== .function && env.kindOf n==Gc .cell)=true
   .rw[vC hc];simp only[vT,hx];exact ih h
   .rw[vB hc];simp only[vT,hx];exact ih h
def MO(hk:k'=.cell\/k'=.free)(h:(relabel scope env).names.lookup x=Gc k'):(x,vx)∈scope.names\/(x,yO)∈scope.names:=by
 have hm:=vR h
 obtain⟨⟨n,k⟩,hy,e⟩:=vS.mp (show(x,k')∈scope.names.map _ from hm)
 by_cases hc:(k==vx && env.scope.kind== .function && env.kindOf n==Gc .cell)=true
 .simp only[hc,zf]at e
  cases e
  have:k=.free:=by
   have:=((ub _ _).mp hc).1
   exact wI.mp ((ub _ _).mp this).1
  subst this
  exact .inl hy
 .simp only[hc,AAN]at e
  cases e
  rcases hk with rfl|rfl
  .exact .inr hy
  .exact .inl hy
theorem Bf:∀names n cs,cellsFrom n names cs=cellsFrom n names []++cs
 | [],_,_=>rfl
 |(x,k)::r,n,cs=>by
  unfold cellsFrom
  split
  .rw[Bf r _ ((x,n)::cs),Bf r _ [(x,n)]];simp
  .exact Bf r n cs
theorem Gh:∀{names} {n},(x,c)∈cellsFrom n names []->(x,yO)∈names
 | [],_,h=>nomatch h
 |(y,k)::r,n,h=>by
  unfold cellsFrom at h
  split at h
  .rename_i hk
   rw[Bf]at h
   rcases vD.mp h with z|z
   .exact uW _ (Gh z)
   .have e:=vQ.mp z
    cases e
    rw[wI.mp hk]
    exact uk
  .exact uW _ (Gh h)
def Kp(hQ:∀h',h'.Ns s.heap.objs.size (λ_=>none)->(∀b o,s.heap.get? b=Gc o->h'.get? b=Gc o)->CellsOk h' (s.heap.objs.size+1) (cellsFrom (s.heap.objs.size+1) scope.names [])->Q (newEnv scope s.heap.objs.size globals (cellsFrom (s.heap.objs.size+1) scope.names cl) qual none .none (Gc env) builtinsNs) {s with heap:=h'}):wpAny M A (newFunctionEnv scope globals cl [] qual none .none (Gc env)) Q E s:=by
 simp only[newFunctionEnv,Option.isSome_some,zf]
 refine uP (wpAny_alloc ?_)
 refine uP (wpAny_layCells _ (λname kind cells=>by cases hkc:kind==yO<;>simp[hkc]) _ _ _ _ ?_)
 have ok:=cellsFrom_ok scope.names (s.heap.push {cls:=.type "dict",data:=.dict #[]}) (s.heap.objs.size+1) [] ⟨λ_ _ hm=>(nomatch hm),List.Pairwise.nil⟩ (by rw[v5];exact uc _)
 rw[v5]at ok
 rw[show({s with heap:=s.heap.push {cls:=.type "dict",data:=.dict #[]}}:ui).heap.objs.size=s.heap.objs.size+1 from v5 ..]
 rw[ABZ]
 refine uP (ug (ug ?_))
 exact hQ _ ((Heap.Ns.new s.heap (.type "dict")).keeps (pushCells_keeps _ _)) (λb o e=>pushCells_keeps _ _ b o (uQ _ e)) ok
end L2
end
noncomputable section
namespace L2
open PySem PySem.Spec PyProof.Rows
noncomputable def Ru(N:Wp Str)(osc scope:wX):Wp Str->Wp (uR Nat)->vZ
 | [],[]=>true
 |_::r,none::q=>Ru N osc scope r q
 |x::r,Gc i::q=>decide (N[i]?=Gc x) && (decide (osc.names.lookup x=Gc .cell)||decide (osc.names.lookup x=Gc .free)) && decide (scope.names.lookup x=Gc .free) && Ru N osc scope r q
 |_,_=>false
theorem WK:∀{N'} {ix},Ru N osc scope N' ix=true->ix.length=N'.length
 | [],[],_=>rfl
 |_::r,none::q,h=>by
  unfold Ru at h
  simp[WK h]
 |x::r,Gc i::q,h=>by
  unfold Ru at h
  have:=((ub _ _).mp h).2
  simp[WK this]
 | [],_::_,h=>by simp[Ru]at h
 |_::_,[],h=>by simp[Ru]at h
theorem aQ:∀{N'} {ix},Ru N osc scope N' ix=true->∀{j i:Nat} {x},N'[j]?=Gc x->ix[j]?=Gc (Gc i)->N[i]?=Gc x/\(osc.names.lookup x=Gc .cell\/osc.names.lookup x=Gc .free)/\scope.names.lookup x=Gc .free
 | [],[],_,j,_,_,h,_=>by simp at h
 |_::r,none::q,h,j,i,x,h1,h2=>by
  unfold Ru at h
  cases j with
  |zero=>simp at h2
  |succ j=>exact aQ h (by simpa using h1) (by simpa using h2)
 |y::r,Gc k::q,h,j,i,x,h1,h2=>by
  unfold Ru at h
  obtain⟨ha,hr⟩:=(ub _ _).mp h
  obtain⟨ha,h3⟩:=(ub _ _).mp ha
  obtain⟨h4,h5⟩:=(ub _ _).mp ha
  cases j with
  |zero=>
   simp at h1 h2
   subst h1 h2
   refine⟨ur h4,?_,ur h3⟩
   rcases(vv _ _).mp h5 with z|z
   .exact .inl (ur z)
   .exact .inr (ur z)
  |succ j=>exact aQ hr (by simpa using h1) (by simpa using h2)
 | [],_::_,h,_,_,_,_,_=>by simp[Ru]at h
 |_::_,[],h,_,_,_,_,_=>by simp[Ru]at h
structure AO(N:Wp Str)(osc:wX)(N':Wp Str)(ix:Wp (uR Nat))(scope:wX):Prop where
 kind:scope.kind=.function
 cells:∀y∈scope.names,y.2=.cell->scope.names.lookup y.1=Gc .cell
 names:∀y∈scope.names,y.2=.local->scope.names.lookup y.1=Gc .local
 free:∀y∈scope.names,y.2=.free->(osc.names.lookup y.1=Gc .cell\/osc.names.lookup y.1=Gc .free)
 ok:Ru N osc scope N' ix=true
noncomputable def sig(ix:Wp (uR Nat))(σ:St):St:=ix.map λo=>o.bind λi=>(σ[i]?).join
noncomputable def Hd(X:Cx)(N':Wp Str)(scope:wX)(s:ui)(H:Hp)(fp:Wp uf):Cx where
 prog:=X.prog
 w:=X.w
 K:=X.K
 mg:=X.mg
 base:=X.base
 A:=X.A
 N:=N'
 s₀:=s
 H₀:=H
 env:=compEnvC scope (cellsFrom (s.heap.objs.size+1) scope.names (FI X.env.cells scope.names [])) s.heap.objs.size X.env
 outer:=X.stack
 stack:=X.stack
 ex:=fp
 fn:=λx=>decide (scope.names.lookup x=Gc .cell)
 calm:=true
 pn:=[]
 xe:=λ_ _=>wH
section
variable{X:Cx}{σ:St}{H:Hp}{s:ui}{N':Wp Str}{scope:wX}{fp:Wp uf}
def Inv.cellsOf(I:Inv X pins σ H s)(S:AO X.N X.env.scope N' ix scope):∀y∈scope.names,y.2=.free->∃a,X.env.cells.lookup y.1=Gc a:=λy hy hk=>I.ok.has y.1 (S.free y hy hk)
def Xk(S:AO X.N X.env.scope N' ix scope)(hc:X.calm=true)(I:Inv X pins σ H s)(hf:∀b∈fp,Qj X pins H b)(hlt:∀b∈fp,b<s.heap.objs.size)(hn:h1.Ns s.heap.objs.size m1)(hk:∀b o,s.heap.get? b=Gc o->h1.get? b=Gc o)(hC:CellsOk h1 (s.heap.objs.size+1) (cellsFrom (s.heap.objs.size+1) scope.names [])):Inv (Hd X N' scope s H fp) [] (sig ix σ) H {s with heap:=h1,toks:=tk}:=by
 have hcl:=I.cellsOf S
 have sub:∀{x:Str} {c:uf},(FI X.env.cells scope.names []).lookup x=Gc c->X.env.cells.lookup x=Gc c:=λ{x c} h=>by
  rcases Jz hcl h with z|z
  .simp at z
  .exact z
 have old:∀{x:Str} {c:uf},X.env.cells.lookup x=Gc c->c<s.heap.objs.size:=λ{x c} h=>by
  obtain⟨v,oc,ho,_⟩:=I.cell x c h
  exact uj ho
 have look:∀{x:Str} {c:uf},(cellsFrom (s.heap.objs.size+1) scope.names (FI X.env.cells scope.names [])).lookup x=Gc c->(x,c)∈cellsFrom (s.heap.objs.size+1) scope.names []\/X.env.cells.lookup x=Gc c:=λ{x c} h=>by
  rw[Bf,yx]at h
  cases e:(cellsFrom (s.heap.objs.size+1) scope.names []).lookup x with
  |some a=>rw[e]at h;cases h;exact .inl (vR e)
  |none=>rw[e]at h;exact .inr (sub h)
 refine⟨⟨I.ok.mod,S.kind,I.ok.glob,I.ok.blt,uc _,λx y c h1 h2=>?_,λx hx=>?_,λx c hx h=>?_,λ_=>I.ok.hd hc,I.ok.frames,.inl rfl,λb hb=>?_,I.bs,uZ I.ok.bsz I.sz,λb o e hb=>?_,λb hb hs=>?_,I.stack,I.Qu⟩,
  rfl,I.bare,Un.kept hk,⟨m1,hn,λj x v h1 h2 h3=>?_⟩,λx c h=>?_,I.hok.fresh (uc _),λx c h=>?_,λp hp=>absurd (show p∈([]:Wp (uf×Obj))from hp) (by simp),I.hok.kept hk,?_⟩
 . -- inj
   rcases look h1 with a|a<;>rcases look h2 with b|b
   .exact name_of_addr hC.apart a b
   .exact absurd (uU (old b) (yV (hC.empty _ _ a).2)) (v8 _)
   .exact absurd (uU (old a) (yV (hC.empty _ _ b).2)) (v8 _)
   .exact I.ok.inj x y c a b
 . -- has
   have hx':(relabel scope X.env).names.lookup x=Gc .cell\/(relabel scope X.env).names.lookup x=Gc .free:=hx
   show∃c,(cellsFrom (s.heap.objs.size+1) scope.names (FI X.env.cells scope.names [])).lookup x=Gc c
   rw[Bf,yx]
   cases e:(cellsFrom (s.heap.objs.size+1) scope.names []).lookup x with
   |some a=>exact⟨a,rfl⟩
   |none=>
    rcases(hx'.elim (MO (.inl rfl)) (MO (.inr rfl)))with z|z
    .exact GS (.inl z)
    .obtain⟨c,hc⟩:=LK (n:=s.heap.objs.size+1) (S.cells _ z rfl)
     rw[e]at hc;cases hc
 . -- cab
   obtain⟨c',hc'⟩:=LK (n:=s.heap.objs.size+1) (ur hx)
   have h:(cellsFrom (s.heap.objs.size+1) scope.names (FI X.env.cells scope.names [])).lookup x=Gc c:=h
   rw[Bf,yx,hc']at h
   cases h
   exact yV (hC.empty _ _ (vR hc')).2
 . -- exf
   refine⟨vE (hlt b hb),λx c h=>?_⟩
   rcases look h with a|a
   .exact λe=>absurd (uU (e▸hlt b hb) (yV (hC.empty _ _ a).2)) (v8 _)
   .exact(hf b hb).2.2.2.2.1 x c a
 . -- Zb
   rcases(hf b hb).2.2.2.1 with z|z
   .exact I.ok.Zb b o e z
   .exact absurd (uU (uj (I.ok.bs b o e).1) z) (v8 _)
 . -- dI
   rcases uY.mp (I.U4 b hs)with z|z
   .exact(hf b hb).2.1 z
   .exact(hf b hb).2.2.1 z
 . -- loc
   unfold sig at h2
   rw[um]at h2
   cases e:ix[j]? with
   |none=>rw[e]at h2;cases h2
   |some o=>
    rw[e]at h2
    cases o with
    |none=>cases h2
    |some i=>
     have h2':(σ[i]?).join=Gc v:=by simpa using h2
     have h4:σ[i]?=Gc (Gc v):=by
      cases e4:σ[i]? with
      |none=>rw[e4]at h2';cases h2'
      |some q=>rw[e4]at h2';exact congrArg Gc h2'
     obtain⟨q1,q2,q3⟩:=aQ S.ok h1 e
     obtain⟨m,_,hl⟩:=I.loc
     obtain⟨u,r,l⟩:=hl i x v q1 h4 (q2.elim (λz=>.inr (.inl z)) λz=>.inr (.inr z))
     refine⟨u,r,?_⟩
     rcases l with⟨l,_⟩|⟨_,c,lc,z⟩
     .have l':X.env.scope.names.lookup x=Gc .local:=l
      rcases q2 with z|z<;>(rw[z]at l';cases l')
     .refine .inr ⟨K0 q3,?_⟩
      obtain⟨c',hc'⟩:=GS (cells:=X.env.cells) (cs:=[]) (.inl (vR q3))
      have ec:=sub hc'
      rw[lc]at ec
      cases ec
      have no:(cellsFrom (s.heap.objs.size+1) scope.names []).lookup x=none:=by
       cases e:(cellsFrom (s.heap.objs.size+1) scope.names []).lookup x with
       |none=>rfl
       |some a=>
        have q:=S.cells _ (Gh (vR e)) rfl
        rw[q3]at q;cases q
      refine⟨c,(by show(cellsFrom (s.heap.objs.size+1) scope.names (FI X.env.cells scope.names [])).lookup x=Gc c;rw[Bf,yx,no];exact hc'),?_⟩
      obtain⟨oc,ho,hd⟩:=z
      exact⟨oc,hk _ _ ho,hd⟩
 .rcases look h with a|a
  .exact⟨_,(hC.empty _ _ a).1⟩
  .obtain⟨v,oc,ho,hd⟩:=I.cell x c a
   exact⟨v,oc,hk _ _ ho,hd⟩
 .rcases look h with a|a
  .exact I.hok.fresh (yV (hC.empty _ _ a).2)
  .exact I.HP x c a
 .show(sig ix σ).length=N'.length
  unfold sig
  rw[vN]
  exact WK S.ok
end
end L2
end
noncomputable section
namespace L2
open PySem PySem.Spec PyProof.Rows
def PTs(X:Cx)(ifs:Wp vi)(t:TT):Prop:=
 ∀(pins:Wp (uf×Obj)) (s:ui) (σ:St) (H:Hp) (Q:vZ->Hp->Prop),Inv X pins σ H s->t σ H Q->
  wpAny (model X.prog X.w) X.A (forIn ifs true λc r=>if r=true then do let ok<-isTrue c X.env (eval c X.env);pure (zt ok)else pure (zt r)) (TP X pins σ Q) X.xe s
noncomputable def nC:TT:=λ_ H Q=>Q true H
def bG:PTs X [] nC:=λ_ _ _ H _ I h=>wpAny_tests_nil ⟨H,I,h⟩
def eE(h:PT X c t):PTs X [c] t:=λpins s σ H Q I q=>wpAny_tests_one (h pins s σ H Q I q)
def XN{t:Sem α}{Q:α->ui->Prop}(h:wpAny M A t Q (λ_ _=>wH) s):wpAny M A t Q E s:=vo h (λ_ _ q=>q) λ_ _ f=>f.elim
def fm(ix:Wp (uR Nat))(g:TG)(tc:TT)(te:TE)(J:It)(σ:St)(H:Hp)(Q:VK):Prop:=
 ∀D,H D=none->∃W:Nat->Nat->St->Hp->Wp V->Prop,(∃m,W 0 m (sig ix σ) (upd H D (.lst [])) [])/\∀i m σ H ys,W i m σ H ys->H D=Gc (.lst ys)/\
  ((J.stop i H/\Q (.ref D) H)\/(J.go i H/\ys.length<sizeLine/\∀x H',J.yld i H x H'->g x σ H' λσ2 H2=>tc σ2 H2 λb H3=>
    if b=true then te σ2 H3 λy H4=>H4 D=Gc (.lst ys)/\∃m',m'<m/\W (i+1) m' σ2 (upd H4 D (.lst (ys++[y]))) (ys++[y])else∃m',m'<m/\W (i+1) m' σ2 H3 ys))
noncomputable def cn(ix:Wp (uR Nat))(wi:TI)(g:TG)(tc:TT)(te:TE):TE:=λσ H Q=>wi σ H λJ H1=>fm ix g tc te J σ H1 Q
section
variable{X:Cx}{pins:Wp (uf×Obj)}{σ:St}{s₂:ui}{scope:wX}{pos:Pos}{g:TG}{tc:TT}
def Block(X:Cx)(N':Wp Str)(scope:wX)(tg:vi)(ifs:Wp vi)(elt:vi)(g:TG)(tc:TT)(te:TE):Prop:=
 ∀(s:ui) (H:Hp) (fp:Wp uf),PG (Hd X N' scope s H fp) tg g/\PTs (Hd X N' scope s H fp) ifs tc/\PE (Hd X N' scope s H fp) elt te
def Uo {X':Cx}{it:uf}{fp:Wp uf}{tn:Nat->vq->Prop}{J:It}{D:uf}{Q:VK}{W:Nat->Nat->St->Hp->Wp V->Prop}(he:X'.env=e)(hx:X'.xe=λ_ _=>wH)(hcm:X'.calm=true)(T:Turn X'.prog X'.w X'.K tg J fp it tn)(hfp:∀H,(∀b ∈ fp,H b=none)->∀b ∈ fp,Qj X' [] H b)(hg:PG X' tg g)(ht:PTs X' ifs tc)(hb:PE X' elt te)(turn:∀i m σ H ys,W i m σ H ys->H D=Gc (.lst ys)/\((J.stop i H/\Q (.ref D) H) ∨ (J.go i H/\ys.length<sizeLine/\∀x H',J.yld i H x H'->g x σ H' λσ2 H2=>tc σ2 H2 λb H3 =>
        if b = true then te σ2 H3 fun y H4 => H4 D = Gc (.lst ys) /\ ∃ m', m' < m /\ W (i + 1) m' σ2 (upd H4 D (.lst (ys ++ [y]))) (ys ++ [y]) else ∃ m', m' < m /\ W (i + 1) m' σ2 H3 ys)))
    (hR:∀s' σ' H',Inv X' [] σ' H' s'->Q (.ref D) H'->R (.ok .next) s')
    (h0:∃i σ' H' ys,Inv X' [] σ' H' s/\tn i s.heap/\(∀b ∈ fp,H' b=none)/\W i n σ' H' ys) :
    codeAny (model X'.prog X'.w) X'.A (.compLoop (.ListComp elt [⟨tg,iter,ifs,0⟩] scope pos) 0 (.ref it) (.ref D) e) R s:=by
  subst he
  refine codeAny_loop rfl (fun n s => ∃ i σ' H' ys, Inv X' [] σ' H' s /\ tn i s.heap /\ (∀ b ∈ fp, H' b = none) /\ W i n σ' H' ys) (fun n s3 hI => ?_) n h0
  show wpAny _ X'.A ((compTurn (.ListComp elt [⟨tg, iter, ifs, 0⟩] scope pos) 0 (.ref it) (.ref D) X'.env).onRaise (fun x => do noteFrame x X'.env; theTreesLotGoes x)) _ _ s3
  refine wpAny_noted (XN ?_)
  rw [compTurn_list]
  obtain⟨i,σ3,H3,ys,I3,st3,fr3,w3⟩:=hI
  obtain⟨hD,alt⟩:=turn i n σ3 H3 ys w3
  rcases alt with ⟨stop, q⟩ | ⟨go, hlen, step⟩
  · refine uP (xH (uP (thn (T.done X' rfl rfl rfl hcm i [] s3 σ3 H3 _ I3 (hfp H3 fr3) st3 stop) fun r s4 ⟨hr, I4⟩ => ?_)))
    subst hr
    exact ug (hR s4 σ3 H3 I4 q)
  · refine uP (xH (uP (thn (T.item X' rfl rfl rfl hcm i [] s3 σ3 H3 _ I3 (hfp H3 fr3) st3 go) fun r s4 ⟨u, hr, h4⟩ => ?_)))
    subst hr
    refine uP (thn h4 fun _ s5 ⟨x, H5, I5, r5, y5, st5, fr5⟩ => ?_)
    have I5':=I5.pinned (hfp H5 fr5) (T.obj _ _ st5)
    have hg':=hg _ s5 σ3 H5 x u _ I5' r5 (step x H5 y5)
    rw [hx] at hg'
    refine uP (thn hg' fun _ s6 ⟨σ6, H6, I6, q6⟩ => ?_)
    have ht':=ht _ s6 σ6 H6 _ I6 q6
    rw [hx] at ht'
    refine uP (thn ht' fun ok s7 ⟨H7, I7, q7⟩ => ?_)
    have again:∀{s8:ui} {H8:Hp} {zs:Wp V} {m':Nat},Inv X' ([]++Pl fp s5.heap) σ6 H8 s8->m'<n->W (i + 1) m' σ6 H8 zs->∃m,m<n/\∃i σ' H' ys,Inv X' [] σ' H' s8/\tn i s8.heap/\(∀b ∈ fp,H' b=none)/\W i m σ' H' ys:=λ{s8 H8 zs m'} I8 hm w8=>by
      refine ⟨m', hm, i + 1, σ6, H8, zs, I8.LN, T.keep _ _ _ st5 fun b hb o e => (I8.pin (b, o) (vW _ (vW _ (IH hb e)))).1, fun b hb => ?_, w8⟩
      obtain⟨o,e,d⟩:=T.obj _ _ st5 b hb
      exact (I8.pin (b, o) (vW _ (vW _ (IH hb e)))).2.1
    cases ok with
    | false =>
      rw [vB (by decide)] at q7
      obtain⟨m',hm,w7⟩:=q7
      exact ug ⟨rfl, again I7 hm w7⟩
    | true =>
      rw [vC rfl] at q7
      have hb':=hb _ s7 σ6 H7 _ I7 q7
      rw [hx] at hb'
      refine uP (uP (thn hb' fun v s8 ⟨y, H8, I8, r8, hD8, m', hm, w8⟩ => ?_))
      have ha:=PF (X:=X') _ s8 σ6 H8 (.ref D) [y] (.ref D) [v] (λ_ H9=>H9=upd H8 D (.lst (ys++[y]))) I8 rfl (.cons r8 .nil) ⟨D,ys,y,rfl,rfl,hD8,hlen,rfl⟩
      rw [hx] at ha
      refine uP (thn ha fun _ s9 ⟨_, H9, I9, _, e9⟩ => ?_)
      subst e9
      exact ug (ug ⟨rfl, again I9 hm w8⟩)
def R3(hc:X.calm=true)(S:AO X.N X.env.scope N' ix scope)(hb:Block X N' scope tg ifs elt g tc te){RR:uX->uf->Result->ui->Prop}(I2:Inv X pins σ H₂ s₂)(T:Turn X.prog X.w X.K tg J fp it tn)(st2:tn 0 s₂.heap)(f2:∀b∈fp,Qj X pins H₂ b)(hW:fm ix g tc te J σ H₂ Q)(hRR:∀D C H' s',Inv X pins σ H' s'->(∃m,s'.heap.Ns C m)->Qj X pins H' C->Q (.ref D) H'->RR (.ref D) C (.ok .next) s'):wpAny (model X.prog X.w) X.A (newList []) (λacc s₃=>wpAny (model X.prog X.w) X.A (newFunctionEnv scope X.env.globals (FI X.env.cells scope.names []) [] X.env.qual none .none (Gc X.env)) (λcenv s₄=>
  codeAny (model X.prog X.w) X.A (.compStart (.ListComp elt [⟨tg,iter,ifs,0⟩] scope pos) 0 (.ref it) acc {cenv with scope:=relabel scope X.env}) (RR acc cenv.locals) s₄) E s₃) E s₂:=by
 have hD0:H₂ s₂.heap.objs.size=none:=I2.hok.fresh (uc _)
 have hlt2:∀b∈fp,b<s₂.heap.objs.size:=λb hb=>by
  obtain⟨o,e,_⟩:=T.obj _ _ st2 b hb
  exact uj e
 refine xA (Kp (λh₁ hns₁ hsb₁ hcl₁=>?_))
 have I3:Inv X pins σ (upd H₂ s₂.heap.objs.size (.lst [])) {s₂ with heap:=s₂.heap.push {cls:=.type "list",dict:=none,data:=.seq ([]:Wp uX).toArray}}:=
  I2.laid (t':=s₂.toks) (λb u e=>uQ _ e) (uc _) ⟨wL _,[],0,.nil,ux _ rfl⟩
 have f3:∀b∈fp,Qj X pins (upd H₂ s₂.heap.objs.size (.lst [])) b:=λb hb=>⟨by rw[AM (vE (hlt2 b hb))];exact(f2 b hb).1,(f2 b hb).2⟩
 have k3:∀b o,s₂.heap.get? b=Gc o->(s₂.heap.push {cls:=.type "list",dict:=none,data:=.seq ([]:Wp uX).toArray}).get? b=Gc o:=λb o e=>uQ _ e
 dsimp only at hns₁ hsb₁ hcl₁⊢
 generalize hs3:({s₂ with heap:=s₂.heap.push {cls:=.type "list",dict:=none,data:=.seq ([]:Wp uX).toArray}}:ui)=s₃ at I3
 have eh:s₂.heap.push {cls:=.type "list",dict:=none,data:=.seq ([]:Wp uX).toArray}=s₃.heap:=by rw[<-hs3]
 have et:s₂.toks=s₃.toks:=by rw[<-hs3]
 have es:∀(h:vq) (t:Nat),({s₂ with heap:=h,toks:=t}:ui)={s₃ with heap:=h,toks:=t}:=λh t=>by rw[<-hs3]
 rw[eh]at hns₁ hsb₁ hcl₁ k3⊢
 have hlt3:∀b∈fp,b<s₃.heap.objs.size:=λb hb=>by
  obtain⟨o,e,_⟩:=T.obj _ _ st2 b hb
  exact uj (k3 b o e)
 have k4:∀b o,s₃.heap.get? b=Gc o->h₁.get? b=Gc o:=hsb₁
 obtain⟨W,⟨m0,w0⟩,turn⟩:=hW _ hD0
 have I4:∀tk,Inv (Hd X N' scope s₃ (upd H₂ s₂.heap.objs.size (.lst [])) fp) [] (sig ix σ) (upd H₂ s₂.heap.objs.size (.lst [])) {s₃ with heap:=h₁,toks:=tk}:=λtk=>Xk S hc I3 f3 hlt3 hns₁ k4 hcl₁
 have st4:tn 0 h₁:=T.keep _ _ _ st2 λb hb o e=>k4 b o (k3 b o e)
 obtain⟨bg,bt,be⟩:=hb s₃ (upd H₂ s₂.heap.objs.size (.lst [])) fp
 have noX:∀(H:Hp),(∀b∈fp,H b=none)->∀b∈fp,Qj (Hd X N' scope s₃ (upd H₂ s₂.heap.objs.size (.lst [])) fp) [] H b:=λH hn b hb=>by
  obtain⟨_,h2,h3⟩:=f3 b hb
  refine⟨hn b hb,vE (hlt3 b hb),λhs=>(I4 0).ok.dI b hb hs,.inl hb,λx c h=>?_,λp hp=>absurd (show p∈([]:Wp (uf×Obj))from hp) (by simp)⟩
  exact((I4 0).ok.exf b hb).2 x c h
 have fin:∀(s':ui) (σ':St) (H':Hp),Inv (Hd X N' scope s₃ (upd H₂ s₂.heap.objs.size (.lst [])) fp) [] σ' H' s'->Q (.ref s₂.heap.objs.size) H'->RR (.ref s₂.heap.objs.size) s₃.heap.objs.size (.ok .next) s':=λs' σ' H' I' q=>by
  refine hRR _ _ H' s' ?_ (let⟨m,hn,_⟩:=I'.loc;⟨m,hn⟩) (I3.aX (uc _) I'.free) q
  exact I3.YQ I'.os I'.base I'.hok I'.bare λb hb=>⟨(f3 b hb).2.2.2.1,(f3 b hb).2.1,(f3 b hb).2.2.2.2.1,(f3 b hb).2.2.2.2.2⟩
 have loop:∀tk,codeAny (model X.prog X.w) X.A (.compLoop (.ListComp elt [⟨tg,iter,ifs,0⟩] scope pos) 0 (.ref it) (.ref s₂.heap.objs.size) (compEnvC scope (cellsFrom (s₃.heap.objs.size+1) scope.names (FI X.env.cells scope.names [])) s₃.heap.objs.size X.env)) (RR (.ref s₂.heap.objs.size) s₃.heap.objs.size) {s₃ with heap:=h₁,toks:=tk}:=λtk=>
  Uo (X':=Hd X N' scope s₃ (upd H₂ s₂.heap.objs.size (.lst [])) fp) (D:=s₂.heap.objs.size) (Q:=Q) (W:=W) rfl rfl rfl T noX bg bt be turn fin ⟨0,_,_,_,I4 tk,st4,λb hb=>(f3 b hb).1,w0⟩
 rw[es]
 exact codeAny_compStart_list (loop _) (T.self _ 0 _ _ _ st4 (loop _))
def aA(hc:X.calm=true)(S:AO X.N X.env.scope N' ix scope)(hi:PI X tg iter wi)(hb:Block X N' scope tg ifs elt g tc te)(hs:zn (∀x,foldedSetIterable iter X.env x=pure x) xL):PE X (.ListComp elt [⟨tg,iter,ifs,0⟩] scope pos) (cn ix wi g tc te):=by
 intro pins s σ H Q I h
 rw[eval_ListComp]
 refine AAm (use:=none) rfl hs (OA (I.cellsOf S)) S.kind S.names (thn (hi pins s σ H _ I h) λv s1 h1=>thn h1 λitv s2 h2=>?_)
 obtain⟨it,fp,tn,J,H2,e,I2,T,st2,f2,hW⟩:=h2
 subst e
 refine R3 (RR:=λacc C=>compPost (model X.prog X.w) X.A X.xe none (EP X pins σ Q) acc C) hc S hb I2 T st2 f2 hW ?_
 intro D C H' s' I' hm hC q
 obtain⟨m,hm⟩:=hm
 refine⟨m,hm,λh' hs'=>⟨.ref D,H',I'.turned (it:=C) (t':=s'.toks) (λb o hb e=>hs'.extBut b o hb e) hC.1 hC.2.1 hC.2.2.2.1 hC.2.2.2.2.1 hC.2.2.2.2.2,rfl,q⟩⟩
end
end L2
end
noncomputable section
namespace L2
open PySem PySem.Spec PyProof.Rows
section
variable{X:Cx}{pos spos py:Pos}
def Ts(hc:X.calm=true)(hN:X.N.Nodup)(hi':X.N[i]?=Gc y)(hx:X.env.scope.names.lookup y=Gc .local)(S:AO X.N X.env.scope N' ix scope)(hi:PI X tg iter wi)(hb:Block X N' scope tg ifs elt g tc te)(hsw:zn (swapsWith (.ListComp elt [⟨tg,iter,ifs,0⟩] scope pos) (Gc (.Name y py)) spos.line X.env=pure true) ww)(hs:zn (∀x,foldedSetIterable iter X.env x=pure x) xL):PS X (.Assign [.Name y py] (.ListComp elt [⟨tg,iter,ifs,0⟩] scope pos) spos) (nv (cn ix wi g tc te) (eK i)):=by
 intro pins s σ H D I h
 rw[exec_Assign_Name_used _ _ _ _ hsw]
 refine uP (xH (uP ?_))
 show wpAny _ X.A (do let _<-comprehension (.ListComp elt [⟨tg,iter,ifs,0⟩] scope pos) scope X.env _ (newList []) false (eval iter X.env) (Gc (assign (.Name y py) X.env))) _ _ s
 refine uP (vo (AAm (use:=Gc (assign (.Name y py) X.env)) (Q:=λ_ s'=>SP X pins D .next s') rfl hs (OA (I.cellsOf S)) S.kind S.names
  (thn (hi pins s σ H _ I h) λv s1 h1=>thn h1 λitv s2 h2=>?_)) (λ_ s' hq=>ug (ug hq)) λ_ _ e=>e)
 obtain⟨it,fp,tn,J,H2,e,I2,T,st2,f2,hW⟩:=h2
 subst e
 refine R3 (RR:=λacc C=>compPost (model X.prog X.w) X.A X.xe (Gc (assign (.Name y py) X.env)) (λ_ s'=>SP X pins D .next s') acc C) hc S hb I2 T st2 f2 hW ?_
 intro L C H' s' I' hm hC q
 obtain⟨m,hm⟩:=hm
 show wpAny _ X.A (assign (.Name y py) X.env (.ref L)) _ _ _
 refine wpAny_assign_Name (MK I' hN hi' (.inl hx) (v:=.ref L) rfl (λs'' I'' ⟨a,sb,ha⟩=>?_) (.inr hx))
 have hCa:C≠a:=by
  rcases ha with rfl|ha
  .exact hC.2.1
  .exact vh (hC.2.2.2.2.1 y a ha)
 refine⟨m,hm.sameBut sb hCa,λh' hs'=>?_⟩
 exact⟨_,H',I''.turned (it:=C) (t':=s''.toks) (λb o hb e=>hs'.extBut b o hb e) hC.1 hC.2.1 hC.2.2.2.1 hC.2.2.2.2.1 hC.2.2.2.2.2,q⟩
end
end L2
end
noncomputable section
namespace L2
open PySem PySem.Spec PyProof.Rows
section
variable{κ:Type} [DecidableEq κ]
noncomputable def Tw(kvs:Wp (κ×V))(k:κ):uR V:=(kvs.find? λkv=>decide (kv.1=k)).map (·.2)
noncomputable def putK(kvs:Wp (κ×V))(k:κ)(v:V):Wp (κ×V):=
 if(kvs.any λkv=>decide (kv.1=k))=true then kvs.map (λkv=>if kv.1=k then(kv.1,v)else kv)else kvs++[(k,v)]
def N6{p:κ×V}(e:p.1=k):Tw (p::r) k=Gc p.2:=by simp[Tw,xZ,e]
def Ob{p:κ×V}(e:¬p.1=k):Tw (p::r) k=Tw r k:=by simp[Tw,xZ,e]
def QN kvs(k:κ) v:(putK kvs k v).length<=kvs.length+1:=by
 unfold putK
 split
 .rw[vN];lia
 .rw[vp,vG,xf];lia
def OY.VE(r:OY o u):o.isSome=u.isSome:=by
 cases o with
 |none=>cases u with
  |none=>rfl
  |some _=>exact(show wH from r).elim
 |some _=>cases u with
  |none=>exact(show wH from r).elim
  |some _=>rfl
def OY.getD(r:OY o u)(rd:RelV d d'):RelV (o.getD d) (u.getD d'):=by
 cases o with
 |none=>cases u with
  |none=>exact rd
  |some _=>exact(show wH from r).elim
 |some _=>cases u with
  |none=>exact(show wH from r).elim
  |some _=>exact r
def KV.val(r:KV kvs vs)(k:κ):OY (Tw kvs k) (valueAt vs k):=by
 unfold KV at r
 induction r with
 |nil=>exact xM
 | @cons p q ps qs h t ih=>
   obtain⟨h1,h2⟩:=h
   by_cases e:p.1=k
   .have e':q.1=k:=h1.symm.trans e
    have b:valueAt (q::qs) k=Gc q.2:=by simp[valueAt,xZ,e']
    rw[N6 e,b];exact h2
   .have e':¬q.1=k:=λz=>e (h1.trans z)
    have b:valueAt (q::qs) k=valueAt qs k:=by simp[valueAt,xZ,e']
    rw[Ob e,b];exact ih
def KV.any(r:KV kvs vs)(k:κ):(kvs.any λkv=>decide (kv.1=k))=vs.any λkv=>decide (kv.1=k):=by
 unfold KV at r
 induction r with
 |nil=>rfl
 |cons h t ih=>rw[xJ,xJ,ih,h.1]
def KV.kX(r:KV kvs vs)(k:κ)(ry:RelV y u):KV (kvs.map λkv=>if kv.1=k then(kv.1,y)else kv) (vs.map λkv=>if kv.1=k then(kv.1,u)else kv):=by
 unfold KV at r⊢
 induction r with
 |nil=>exact .nil
 | @cons p q ps qs h t ih=>
   rw[uw,uw]
   refine .cons ?_ ih
   obtain⟨h1,h2⟩:=h
   by_cases e:p.1=k
   .rw[vC e,vC (h1.symm.trans e)];exact⟨h1,ry⟩
   .rw[vB e,vB (λz=>e (h1.trans z))];exact⟨h1,h2⟩
def KV.put(r:KV kvs vs)(k:κ)(ry:RelV y u):KV (putK kvs k y) (stored vs k u):=by
 unfold putK stored
 rw[r.any k]
 by_cases e:(vs.any λkv=>decide (kv.1=k))=true
 .rw[vC e,vC e];exact r.kX k ry
 .rw[vB e,vB e];exact Paired.snoc r ⟨rfl,ry⟩
end
def bH(r:RelV (kV k) u):(Cf P w).is k u=true:=by
 cases k with
 |inl i=>obtain⟨t,e⟩:=(show∃t,u=AAE i t from r);subst e;exact QO P w i t
 |inr x=>obtain⟨t,e⟩:=(show∃t,u=AAF x t from r);subst e;exact Qx P w x t
theorem Ph:∀{ks} {us},Vals (ks.map kV) us->ItemsAre (Cf P w) ks us
 | [],_,r=>by rw[wF]at r;cases r;exact .nil
 |k::ks,_,r=>by
  rw[uw]at r
  cases r with
  |cons h t=>exact .cons (bH h) (Ph t)
abbrev KT(H:Hp):Wp (Wp Key×V)->Wp (Wp Key×uf×uX)->Prop:=Paired λp q=>p.1=q.1/\H q.2.1=Gc (.tup (p.1.map kV))/\RelV p.2 q.2.2
def KT.val(r:KT H kvs xs) k:OY (Tw kvs k) ((atKey xs k).map (·.2)):=by
 induction r with
 |nil=>exact xM
 | @cons p q ps qs h t ih=>
   obtain⟨h1,_,h2⟩:=h
   by_cases e:p.1=k
   .have e':q.1=k:=h1.symm.trans e
    have b:atKey (q::qs) k=Gc q.2:=by simp[atKey,xZ,e']
    rw[N6 e,b];exact h2
   .have e':¬q.1=k:=λz=>e (h1.trans z)
    have b:atKey (q::qs) k=atKey qs k:=by simp[atKey,xZ,e']
    rw[Ob e,b];exact ih
section
variable{P:va}{w:wG}{H:Hp}{h:vq}{a:uf}
def jH(ok:HOk P w H h)(e:Rd H a u):CT P w H h a u:=e.ok ok
def Z6(ok:HOk P w H h)(e:Rd H a (.dK kvs)):kvs.length<=sizeLine/\(a==sysModules)=false/\∃vs,KV kvs vs/\h.DictOf (Cf P w) a vs:=
 show CT P w H h a (.dK kvs)from jH ok e
def ni(ok:HOk P w H h)(e:H a=Gc (.dK kvs)):kvs.length<=sizeLine/\(a==sysModules)=false/\∃vs,KV kvs vs/\h.DictOf (Cf P w) a vs:=Z6 ok (.inl e)
def Yr(ok:HOk P w H h)(e:H a=Gc (.tup (ks.map kV))):(tupleKind (Cf P w)).is h ks a:=by
 obtain⟨_,its,r,o,h1,h2,n,h3⟩:=(show CT P w H h a (.tup (ks.map kV))from ok a _ e)
 exact⟨o,its.toArray,n,h1,h2,h3,by simpa using Ph r⟩
def cJ(ok:HOk P w H h)(e:Rd H a (.dT kvs)):kvs.length<=sizeLine/\(a==sysModules)=false/\∃xs,KT H kvs xs/\h.DictOfH (tupleKind (Cf P w)) a xs:=by
 obtain⟨z,y,xs,r,o,es,ep,h1,h2,h3,h4,h5⟩:=(show CT P w H h a (.dT kvs)from jH ok e)
 refine⟨z,y,xs,r,o,es,ep,h1,h2,h3,h4,λx hx=>?_,h5⟩
 have all:∀{l:Wp (Wp Key×V)} {m:Wp (Wp Key×uf×uX)},KT H l m->∀x∈m,(tupleKind (Cf P w)).is h x.1 x.2.1:=by
  intro l m q
  induction q with
  |nil=>intro x hx;exact nomatch hx
  | @cons p q ps qs hq t ih=>
    intro x hx
    rcases uY.mp hx with e|hx
    .subst e
     exact Yr ok (by rw[<-hq.1];exact hq.2.1)
    .exact ih x hx
 exact all r x hx
def Xb(ok:HOk P w H h)(e:H a=Gc (.dT kvs)):kvs.length<=sizeLine/\(a==sysModules)=false/\∃xs,KT H kvs xs/\h.DictOfH (tupleKind (Cf P w)) a xs:=cJ ok (.inl e)
end
def k6(H:Hp)(a:uf)(y:V)(r:uR V):Prop:=
 (∃kvs k,Rd H a (.dK kvs)/\y=kV k/\r=Tw kvs k)\/∃kvs k b,Rd H a (.dT kvs)/\y=.ref b/\H b=Gc (.tup (k.map kV))/\r=Tw kvs k
def k6.k{k:Key}(e:H a=Gc (.dK kvs)):k6 H a (kV k) (Tw kvs k):=.inl ⟨kvs,k,.inl e,rfl,rfl⟩
section
variable{X:Cx}{pins:Wp (uf×Obj)}{σ:St}{H:Hp}{s:ui}{a:uf}{y v:V}{u r:uX}{o:uR V}{A:wy}{E:uX->ui->Prop}
def Inv.big(I:Inv X pins σ H s):sysModules<s.heap.objs.size:=by
 have h:mainGlobals<s.heap.objs.size:=(I.mod.glob.keeps I.bk).lt
 exact Nat.lt_trans (by decide) h
def aE(I:Inv X pins σ H s)(mu:Mut (H a))(hs:yE a s.heap h')(he:∃q,h'.get? a=Gc q)(new:CT X.prog X.w (upd H a ob) h' a ob):Inv X pins σ (upd H a ob) {s with heap:=h',toks:=t'}:=
 I.write (x:=a) (e:=a) mu (.inl rfl) (λb q hb z=>(hs.2 b hb).trans z) he new
def gO(z:kvs.length<=sizeLine)(hd:(a==sysModules)=false)(rel:KV kvs vs)(dd:h'.DictOf (Cf P w) a vs):CT P w H' h' a (.dK kvs):=⟨z,hd,vs,rel,dd⟩
end
section
variable{X:Cx}{pins:Wp (uf×Obj)}{σ:St}{H:Hp}{s:ui}{a:uf}{kvs:Wp (Key×V)}{k:Key}{u:uX}{A:wy}{E:uX->ui->Prop}
end
section
variable{X:Cx}{o i e value:vi}{pos pos' tpos:Pos}{td ty tv:TE}
end
def Yp(h:vq)(hb:sysModules<h.objs.size):CT P w H (h.push {cls:=.type "dict",data:=.dict #[]}) h.objs.size (.dK []):=
 ⟨wL _,vb.mpr (vh (vE hb)),[],.nil,Heap.DictOf.new h⟩
section
variable{X:Cx}{pos:Pos}
end
def Rj:Wp (TE×TE)->St->Hp->(Wp (V×V)->Hp->Prop)->Prop
 | [],_,H,Q=>Q [] H
 |(tk,tv)::r,σ,H,Q=>tk σ H λx H1=>tv σ H1 λy H2=>Rj r σ H2 λps H3=>Q ((x,y)::ps) H3
abbrev VV:Wp (V×V)->Wp (uX×uX)->Prop:=Paired λp q=>RelV p.1 q.1/\RelV p.2 q.2
def PPs(X:Cx)(pos:Pos)(keys:Wp (uR vi))(values:Wp vi)(trs:Wp (TE×TE)):Prop:=
 ∀(pins:Wp (uf×Obj)) (s:ui) (σ:St) (H:Hp) (Q:Wp (V×V)->Hp->Prop),Inv X pins σ H s->Rj trs σ H Q->
  wpAny (model X.prog X.w) X.A (evalPairs (pairTrees keys values X.env pos)) (λvs s'=>∃ps H',Inv X pins σ H' s'/\VV ps vs/\Q ps H') X.xe s
def ae:PPs X pos [] [] []:=λpins s σ H Q I h=>pairTrees_nil_walk ⟨[],H,I,.nil,h⟩
def YV(hk:PE X k tk)(hv:PE X v tv)(hr:PPs X pos ks vs trs):PPs X pos (Gc k::ks) (v::vs) ((tk,tv)::trs):=λpins s σ H Q I h=>
 pairTrees_cons_walk (thn (hk pins s σ H _ I h) λu s1 ⟨x,H1,I1,rx,q1⟩=>thn (hv pins s1 σ H1 _ I1 q1) λw2 s2 ⟨y,H2,I2,ry,q2⟩=>
  thn (hr pins s2 σ H2 _ I2 q2) λws s3 ⟨ps,H3,I3,rel,q3⟩=>⟨(x,y)::ps,H3,I3,.cons ⟨rx,ry⟩ rel,q3⟩)
noncomputable def L8(kvs more:Wp (Key×V)):Wp (Key×V):=more.foldl (λacc kv=>putK acc kv.1 kv.2) kvs
def KV.merge:∀{more} {rs} {kvs} {vs},KV more rs->KV kvs vs->KV (L8 kvs more) (merged vs rs):=by
 intro more rs kvs vs r
 unfold KV at r
 induction r generalizing kvs vs with
 |nil=>intro q;exact q
 | @cons p q ps qs h t ih=>
   intro r0
   have e:KV (putK kvs p.1 p.2) (stored vs q.1 q.2):=by
    have:=r0.put p.1 h.2
    rw[<-h.1];exact this
   exact ih e
theorem Je:∀more kvs,(L8 kvs more).length<=kvs.length+more.length
 | [],kvs=>by show kvs.length<=kvs.length+0;lia
 |p::r,kvs=>by
  have h1:=Je r (putK kvs p.1 p.2)
  have h2:=QN kvs p.1 p.2
  show(L8 (putK kvs p.1 p.2) r).length<=_
  rw[vG];lia
theorem Nh:∀{kvs} {ws},VV (kvs.map λkv=>(kV kv.1,kv.2)) ws->∃rs,Carries (Cf P w) ws rs/\KV kvs rs
 | [],_,r=>by rw[wF]at r;cases r;exact⟨[],xM,.nil⟩
 |p::kvs,_,r=>by
  rw[uw]at r
  cases r with
  | @cons a b as bs h t=>
    obtain⟨rs,c,q⟩:=Nh (P:=P) (w:=w) t
    obtain⟨b1,b2⟩:=b
    exact⟨(p.1,b2)::rs,⟨bH h.1,rfl,c⟩,.cons ⟨rfl,h.2⟩ q⟩
noncomputable def pK(trs:Wp (TE×TE)):TE:=λσ H Q=>∀p,H p=none->Rj trs σ (upd H p (.dK [])) λps H2=>H2 p=Gc (.dK [])/\∃kvs:Wp (Key×V),ps=kvs.map (λkv=>(kV kv.1,kv.2))/\kvs.length<=15/\Q (.ref p) (upd H2 p (.dK (L8 [] kvs)))
def aw(h:PPs X pos keys values trs)(hall:keys.all (·.isSome)=true)(hl:keys.length=values.length)(h0:keys≠[])(h15:keys.length<=15):PE X (.Dict keys values pos) (pK trs):=by
 intro pins s σ H Q I q
 have hn:=I.hok.fresh (uc s.heap.objs.size)
 have I1:=I.laid (a:=s.heap.objs.size) (o:=.dK []) (h':=s.heap.push {cls:=.type "dict",data:=.dict #[]}) (t':=s.toks) (λ_ _ q=>uQ _ q) (uc _) (Yp s.heap I.big)
 refine wpAny_Dict_walk (knd:=Cf X.prog X.w) hall hl h0 h15 (thn (h pins _ σ _ _ I1 (q _ hn)) λws s2 z=>?_)
 obtain⟨ps,H2,I2,rel,e,kvs,ep,lk,q2⟩:=z
 subst ep
 obtain⟨rs,c,rk⟩:=Nh (P:=X.prog) (w:=X.w) rel
 obtain⟨z,hd,vs0,r0,dd⟩:=ni I2.hok e
 cases r0
 refine⟨rs,c,dd,λh' dd' hs=>⟨.ref s.heap.objs.size,_,?_,rfl,q2⟩⟩
 have hz:(L8 [] kvs).length<=sizeLine:=by
  have h1:=Je kvs []
  rw[xf]at h1
  rw[xI];lia
 have he:∃q,h'.get? s.heap.objs.size=Gc q:=let⟨q,_,_,hq,_⟩:=dd';⟨q,hq⟩
 exact aE I2 (by rw[e];exact xM) hs he (gO hz hd (rk.merge .nil) dd')
structure M1(X:Cx)(o:vi)(m:Str)(apos:Pos)(e:vi)(cpos:Pos):Prop where
 base:attributeBase o m X.env (eval o X.env)=eval o X.env
 few:((backTo cpos (ue [e] X.env)).all (λx=> !x.1) && (backToKw cpos (keywordEach [] X.env)).all (λx=>x.1.isSome)
  && decide (([e]:Wp vi).length+([]:Wp AAg).length+(if([]:Wp AAg).isEmpty then 0 else 1)<30))=true
 line:(apos.endLine==cpos.line)=true
 trees:backTo cpos (ue [e] X.env)=[(false,eval e X.env)]
structure M2(X:Cx)(o:vi)(m:Str)(apos:Pos)(e f:vi)(cpos:Pos):Prop where
 base:attributeBase o m X.env (eval o X.env)=eval o X.env
 few:((backTo cpos (ue [e,f] X.env)).all (λx=> !x.1) && (backToKw cpos (keywordEach [] X.env)).all (λx=>x.1.isSome)
  && decide (([e,f]:Wp vi).length+([]:Wp AAg).length+(if([]:Wp AAg).isEmpty then 0 else 1)<30))=true
 line:(apos.endLine==cpos.line)=true
 trees:backTo cpos (ue [e,f] X.env)=[(false,eval e X.env),(false,eval f X.env)]
def IsD(H:Hp)(a:uf):Prop:=(∃kvs,Rd H a (.dK kvs))\/∃kvs,Rd H a (.dT kvs)
def iE{σ:St}(I:Inv X pins σ H s)(d:IsD H a):s.TypeIs (.ref a) "dict" /\(∀b,u5 a=.ref b->∃ob,s.heap.get? b=Gc ob/\ob.dict=none)/\(a==sysModules)=false:=by
 rcases d with⟨kvs,e⟩|⟨kvs,e⟩
 .obtain⟨_,hd,vs,_,dd⟩:=Z6 I.hok e
  refine⟨dd.typeIs,λb q=>?_,hd⟩
  cases q
  obtain⟨ob,_,_,h1,h2,_⟩:=dd
  exact⟨ob,h1,h2.2.1⟩
 .obtain⟨_,hd,xs,_,dd⟩:=cJ I.hok e
  refine⟨dd.typeIs,λb q=>?_,hd⟩
  cases q
  obtain⟨ob,_,_,h1,h2,_⟩:=dd
  exact⟨ob,h1,h2.2.1⟩
section
variable{X:Cx}{pins:Wp (uf×Obj)}{σ:St}{H:Hp}{s:ui}{a:uf}{y d:V}{u r:uX}{o:uR V}{A:wy}{E:uX->ui->Prop}
def fY(hu:A.units+1<cLine)(I:Inv X pins σ H s)(g:k6 H a y o)(ry:RelV y u)(rd:RelV d r)(h:∀w' s',Inv X pins σ H s'->RelV (o.getD d) w'->Q w' s'):wpAny (model X.prog X.w) A (call (.builtin "dict.get") [.ref a,u,r]) Q E s:=by
 rcases g with⟨kvs,k,e,ey,l⟩|⟨kvs,k,b,e,ey,eb,l⟩
 .subst ey
  obtain⟨z,hd,vs,rel,dd⟩:=Z6 I.hok e
  refine call_meetsIn zU dd.typeIs ABA (AAz _ _ _) (meets_dict_get_default (Cf X.prog X.w) a (bH ry) hd r) ⟨_,dd.mapOf,h _ _ (I.tok _) ?_⟩
  rw[l]
  exact(rel.val k).getD rd
 .subst ey
  cases (show u=u5 b from ry)
  obtain⟨z,hd,xs,rel,dd⟩:=cJ I.hok e
  refine call_meetsIn zU dd.typeIs ABA (AAz _ _ _) (meetsH_dict_get_default (tupleKind (Cf X.prog X.w)) a b hd r) ⟨tupleKind_room_in1 hu,k,xs,Yr I.hok eb,dd,h _ _ (I.tok _) ?_⟩
  rw[l]
  exact(rel.val k).getD rd
end
noncomputable def iQ(td ty tx:TE):TE:=λσ H Q=>td σ H λx H1=>∃a,x=.ref a/\IsD H1 a/\ty σ H1 λy H2=>tx σ H2 λz H3=>∃o,k6 H3 a y o/\Q (o.getD z) H3
section
variable{X:Cx}{o e f:vi}{apos cpos:Pos}{td ty tx:TE}
def YM(hu:X.A.units+1<cLine)(ho:PE X o td)(he:PE X e ty)(hf:PE X f tx)(m:M2 X o "get" apos e f cpos):PE X (.Call (.Attribute o "get" apos) [e,f] [] cpos) (iQ td ty tx):=by
 intro pins s σ H Q I h
 refine wpAny_Call_method m.base m.few m.line PySem.F.plainAttrs_dict zU PySem.F.type_dict_get (thn (ho pins s σ H _ I h) λu s1 z=>?_)
 obtain⟨x,H1,I1,rx,a,ex,d,q1⟩:=z
 subst ex
 obtain rfl:u=u5 a:=rx
 obtain⟨t1,t2,_⟩:=iE I1 d
 refine⟨t1,t2,?_⟩
 rw[m.trees]
 refine zI rfl (xj (xE (thn (he pins s1 σ H1 _ I1 q1) λiv s2 ⟨y,H2,I2,ry,q2⟩=>
  xE (thn (hf pins s2 σ H2 _ I2 q2) λfv s3 ⟨z,H3,I3,rz,ov,g,q3⟩=>z7 ?_))))
 exact fY hu I3 g ry rz λw' s4 I4 rw'=>⟨_,H3,I4,rw',q3⟩
end
section
variable{X:Cx}{pins:Wp (uf×Obj)}{σ:St}{H:Hp}{s:ui}{a:uf}{kvs:Wp (Key×V)}{A:wy}{E:uX->ui->Prop}
end
section
variable{X:Cx}{pins:Wp (uf×Obj)}{σ:St}{H:Hp}{s:ui}{a:uf}{y:V}{u:uX}{A:wy}{E:uX->ui->Prop}
end
end L2
end
noncomputable section
namespace L2
open PySem PySem.Spec PyProof.Rows
section
variable{s:ui}
def Sy{h:vq}{i:Nat}(ho:h.get? it=Gc o)(hc:o.cls=.type "tuple_iterator")(hd:o.data=.fields #[.ref t,.int i 0])(e:h'=h.update it (λo=>o.mapFields λa=>a.setIfInBounds 1 (rawInt ((i:Int)+1)))):h'.IsTupleIter it t (i+1):=by
 subst e
 have d:=xP hd λa=>a.setIfInBounds 1 (rawInt ((i:Int)+1))
 refine⟨_,wB _ ho (wg d),?_,?_⟩
 .rw[Obj.cls_mapFields];exact hc
 .rw[d];simp[rawInt]
def Yj(hit:s.heap.IsTupleIter it t i)(ht:s.heap.IsTuple t items)(hx:items[i]?=Gc x)(hQ:∀h',h'.IsTupleIter it t (i+1)->yE it s.heap h'->Q x {s with heap:=h'}):wpAny (model prog w) A (vO (.ref it)) Q E s:=by
 obtain⟨⟨c,dd,dt,sl⟩,ho,hc,hd⟩:=id hit
 obtain⟨⟨c2,dd2,dt2,sl2⟩,ho2,hc2,n2,hd2⟩:=id ht
 simp only at hc hd hc2 hd2
 subst hc hd hc2 hd2
 unfold vO
 refine uP (wW (name:=u7 "__next__") hit.typeIs xQ (wk xQ hit.typeIs z9 ?_ (zu _)))
 unfold zK.«tuple_iterator.__next__»
 wp_walk using u9 ho,u9 ho2
 have e:items[(i:Int).toNat]?=Gc x:=by rw[xh];exact hx
 rw[e]
 refine uP (x8 ho rfl (by simp) ?_)
 exact ug ⟨x,rfl,ug (hQ _ (Sy ho rfl rfl rfl) (ABu ..))⟩
def X8(hh:A.handled=none)(hit:s.heap.IsTupleIter it t i)(ht:s.heap.IsTuple t items)(hx:items[i]?=none)(hE:∀h' e,AAi it s.heap h'->(∃o,h'.get? e=Gc o/\o.cls=.type "StopIteration")->E (.ref e) {s with heap:=h'}):wpAny (model prog w) A (vO (.ref it)) Q E s:=by
 obtain⟨⟨c,dd,dt,sl⟩,ho,hc,hd⟩:=id hit
 obtain⟨⟨c2,dd2,dt2,sl2⟩,ho2,hc2,n2,hd2⟩:=id ht
 simp only at hc hd hc2 hd2
 subst hc hd hc2 hd2
 unfold vO
 refine uP (wW (name:=u7 "__next__") hit.typeIs xQ (wk xQ hit.typeIs z9 ?_ (zu _)))
 unfold zK.«tuple_iterator.__next__»
 wp_walk using u9 ho,u9 ho2
 have e:items[(i:Int).toNat]?=none:=by rw[xh];exact hx
 rw[e]
 refine uP (AA3 (uP (x8 ho rfl (by simp) ?_)))
 have hh1:A.in1.handled=none:=hh
 unfold Builtin.SmallTypes.stopIteration
 simp only[newExc,newTuple,raiseNew]
 wp_walk
 refine hE _ _ ?_ ⟨_,ux _ rfl,rfl⟩
 have a:=(ABu (a:=it) (h:=s.heap) (f:=v9 λx=>x.setIfInBounds 0 vL)).extBut
 exact(a.push _).push _
def Wi l items n dct sl:Meets (zK.«enumerate.__new__» ⟨[.type "enumerate",.ref l],[]⟩) (λ_ R s=>s.heap.get? l=Gc {cls:=.type "tuple",dict:=dct,data:=.seq items n,slots:=sl}/\R (.ok (.ret (.ref (s.heap.objs.size+1)))) {s with heap:=(s.heap.push {cls:=.type "tuple_iterator",data:=.fields #[.ref l,.int 0 0]}).push {cls:=.type "enumerate",data:=.fields #[.none,.bool false,.ref s.heap.objs.size,rawInt 0,.none,.none]}}):=
 .of_wp λprog w A R s h=>by
  obtain⟨hp,g,d,tk,os⟩:=s
  obtain⟨hl,h⟩:=h
  have hsub:=sub_enumerate
  have hT:AAA (xl ⟨hp,g,d,tk,os⟩) l items:=⟨_,hl,rfl,n,rfl⟩
  wp_walk using u9 hl
  refine wpAny_stack_any λst=>ug ?_
  split
  .rename_i c _ _ _ _ _
   cases (c==AAH "enumerate")<;>(wp_walk using u9 hl,wm hT)<;>(refine⟨_,rfl,?_⟩;rw[v5];exact h)
  .wp_walk using u9 hl,wm hT
   refine⟨_,rfl,?_⟩
   rw[v5]
   exact h
def SH(hT:s.heap.IsTuple l items)(h:∀h',IsEnum h' (s.heap.objs.size+1) s.heap.objs.size 0 .none->h'.IsTupleIter s.heap.objs.size l 0->(∀b o,s.heap.get? b=Gc o->h'.get? b=Gc o)->Q (.ref (s.heap.objs.size+1)) {s with heap:=h'}):wpAny (model prog w) A (call (.type "enumerate") [.ref l]) Q E s:=by
 obtain⟨⟨c,dct,dt,sl⟩,hl,hc,n,hd⟩:=hT
 simp only at hc hd
 subst hc hd
 refine callType_new F.called_enumerate (by decide) (F.typeCall_enumerate_1 _) (F.newCall_enumerate_1 _) (λobj=>F.args_object_init_2 obj _) F.entry_enumerate_new (Wi l items n dct sl) ⟨hl,?_⟩
 have z:=ux (s.heap.push {cls:=.type "tuple_iterator",data:=.fields #[.ref l,.int 0 0]}) (o:={cls:=.type "enumerate",data:=.fields #[.none,.bool false,.ref s.heap.objs.size,rawInt 0,.none,.none]}) rfl
 rw[v5]at z
 exact⟨⟨_,z,rfl⟩,h _ z ⟨_,uQ _ (ux _ rfl),rfl,rfl⟩ λb o x=>uQ _ (uQ _ x)⟩
end
end L2
end
noncomputable section
namespace L2
open PySem PySem.Spec PyProof.Rows
def FnAt(X:Cx)(k:Nat)(f:uf)(sp:Sp):Prop:=∃fd ps,Ji X.prog X.w X.K X.mg X.base CX0 k f fd ps sp/\vm X.K (.ref f)=true/\Binds X.K fd ps []
noncomputable def j4(X:Cx)(k i:Nat)(t:TA):TE:=λσ H Q=>∃f sp,σ[i]?=Gc (Gc (.ref f))/\FnAt X k f sp/\t σ H λvs H1=>sp (vs++[]) H1 Q E0
def Xj{p pos:Pos}(hN:X.N[i]?=Gc x)(hv:Vis X.env.scope x)(hr:Cj k X.A)(ha:PA X (e::es) t)(hd:zn ((x==("__debug__":Str))=false) xz)(hcd:zn ((x==("__classdict__":Str))=false) xz)(he:zn (ue (e::es) X.env=(false,eval e X.env)::ue es X.env) ww)(hpl:zn ((backTo pos (ue es X.env)).any (·.1)=false) ww):PE X (.Call (.Name x p) (e::es) [] pos) (j4 X k i t):=by
 intro pins s σ H Q I h
 obtain⟨f,sp,el,⟨fd,ps,F,hk,hb⟩,h⟩:=h
 refine wD (thn (IZ hN hv hd hcd pins s σ H (λv H1=>v=.ref f/\H1=H) I ⟨_,el,rfl,rfl⟩) λu s1 z=>?_)
 obtain⟨v,H1,I1,r,ev,eh⟩:=z
 subst ev eh
 obtain rfl:u=u5 f:=r
 refine wj (h₀:=X.base) I.ok.mod.kin hk (thn (ha pos pins s1 σ H1 _ I1 h) λus s2 ⟨vs,H2,I2,r2,q⟩=>⟨I2.kIn,?_⟩) he hpl
 exact Q7 F hr hb .nil UH I2 r2 q
end L2
end
noncomputable section
namespace L2
open PySem PySem.Spec PyProof.Rows
structure TopD(K:W1)(w:wG)(a:uf)(kvs:Wp (Str×V)):Prop where
 ex:∃(es:yo y9) (n:Nat),K.lookup a=Gc ⟨.type "dict",none,.dict es n, #[]⟩/\zv w.params es.toList/\(a==sysModules)=false/\∀x,OY (kvs.lookup x) (findBy xp es x)
noncomputable def gh(K:W1)(w:wG):R2:=λx y H Q=>∃a kvs k v,x=.ref a/\y=.str k/\TopD K w a kvs/\kvs.lookup k=Gc v/\Q v H
def Y5:IxR X (gh X.K X.w):=by
 intro value slice pins s σ H x y v u Q I rx ry h hs
 obtain⟨a,kvs,k,z,rfl,rfl,⟨es,n,hl,hk,hne,hr⟩,e,q⟩:=h
 cases rx
 obtain⟨t,rfl⟩:=ry
 have hm:=PySem.W.mapOf_K (prog:=X.prog) I.kIn hl hk
 have r:=hr k
 rw[e]at r
 cases f:findBy xp es k with
 |none=>rw[f]at r;exact r.elim
 |some u=>
  rw[f]at r
  exact tail_any hm.typeIs slot_dict_getitem.lookup (wpAny_getItem_of (strKind_is X.prog X.w k t) hm f ⟨z,H,I.tok _,r,q⟩) hs
noncomputable def ZV(K:W1)(w:wG)(neg:vZ):R2:=λx y H Q=>∃a kvs k,y=.ref a/\x=.str k/\TopD K w a kvs/\Q (.bl (if neg then !(kvs.lookup k).isSome else(kvs.lookup k).isSome)) H
def PM:OpR X (compareOp .NotIn) (ZV X.K X.w true):=by
 intro pins s σ H x y v u Q I rx ry h
 obtain⟨a,kvs,k,rfl,rfl,⟨es,n,hl,hk,hne,hr⟩,q⟩:=h
 cases ry
 obtain⟨t,rfl⟩:=rx
 refine wpAny_notIn_of (strKind_is X.prog X.w k t) hne (PySem.W.mapOf_K (prog:=X.prog) I.kIn hl hk) ⟨.bl _,H,I.tok _,?_,q⟩
 show _=_
 have r:(kvs.lookup k).isSome=(findBy xp es k).isSome:=(hr k).VE
 rw[<-r]
 rfl
def Qt(p:Paired (λp (e:y9)=>(∃t,e.key=.str p.1 t)/\RelV p.2 e.val) kvs es) x:OY (kvs.lookup x) (findBy xp es.toArray x):=by
 unfold findBy
 rw[List.find?_toArray]
 induction p with
 |nil=>trivial
 | @cons q e r t h _ ih=>
   obtain⟨⟨tk,hk⟩,hv⟩:=h
   obtain⟨k,v⟩:=q
   rw[xZ,hk]
   show OY (match x==k with|true=>Gc v|false=>vk x r) _
   by_cases z:x=k
   .subst z
    have e1:(x==x)=true:=AAy x
    have e2:xp x (.str x tk)=true:=AAy x
    rw[e1,e2]
    exact hv
   .have e1:(x==k)=false:=vb.mpr z
    have e2:xp x (.str k tk)=false:=vb.mpr (vh z)
    rw[e1,e2]
    exact ih
def Yw{K:W1}(l:K.lookup a=Gc ⟨.type "dict",none,.dict es.toArray n, #[]⟩)(hk:zv w.params es)(hne:(a==sysModules)=false)(hp:Paired (λp (e:y9)=>(∃t,e.key=.str p.1 t)/\RelV p.2 e.val) kvs es):TopD K w a kvs:=⟨_,n,l,hk,hne,Qt hp⟩
end L2
end
noncomputable section
namespace L2
open PySem PySem.Spec PyProof.Rows
def SIt(h:vq)(j l:uf)(i:Nat)(its:yo uX):Prop:=(h.IsListIter j l i/\h.IsList l its)\/(h.IsTupleIter j l i/\h.IsTuple l its)
def SIt.at(q:SIt h j l i its)(k1:∀o,h.get? j=Gc o->h'.get? j=Gc o)(k2:∀o,h.get? l=Gc o->h'.get? l=Gc o):SIt h' j l i its:=by
 rcases q with⟨a,b⟩|⟨a,b⟩
 .exact .inl ⟨a.at k1,b.at k2⟩
 .exact .inr ⟨a.at k1,let⟨o,e,r⟩:=b;⟨o,k2 o e,r⟩⟩
def SIt.but(q:SIt h j l i its)(sb:AAi c h h')(n1:j≠c)(n2:l≠c):SIt h' j l i its:=q.at (λo e=>sb _ o n1 e) λo e=>sb _ o n2 e
def SIt.live(q:SIt h j l i its):∃o,h.get? j=Gc o/\∀v,o.data≠.cell v:=by
 rcases q with⟨⟨o,a,b,c⟩,_⟩|⟨⟨o,a,b,c⟩,_⟩
 .exact⟨o,a,λv z=>by rw[c]at z;cases z⟩
 .exact⟨o,a,λv z=>by rw[c]at z;cases z⟩
def SIt.ne(q:SIt h j l i its):l≠j:=by
 rcases q with⟨⟨o,a,b,_⟩,⟨o2,a2,b2,_⟩⟩|⟨⟨o,a,b,_⟩,⟨o2,a2,b2,_⟩⟩
 .intro z;subst z;rw[a]at a2;cases a2;rw[b]at b2;injection b2 with q;exact absurd q (by decide)
 .intro z;subst z;rw[a]at a2;cases a2;rw[b]at b2;injection b2 with q;exact absurd q (by decide)
def LP(q:SIt s.heap j l i its)(hx:its[i]?=Gc x)(k:∀h',SIt h' j l (i+1) its->yE j s.heap h'->Q x {s with heap:=h'}):wpAny (model prog w) A (vO (.ref j)) Q E s:=by
 have n:=q.ne
 rcases q with⟨a,b⟩|⟨a,b⟩
 .exact wpAny_nextOf_list_item a b hx λh' a' sb=>k h' (.inl ⟨a',b.extBut sb.extBut n⟩) sb
 .exact Yj a b hx λh' a' sb=>k h' (.inr ⟨a',let⟨o,e,r⟩:=b;⟨o,sb.extBut _ o n e,r⟩⟩) sb
def LR(hh:A.handled=none)(q:SIt s.heap j l i its)(hx:its[i]?=none)(k:∀h' e,AAi j s.heap h'->(∃o,h'.get? e=Gc o/\o.cls=.type "StopIteration")->E (.ref e) {s with heap:=h'}):wpAny (model prog w) A (vO (.ref j)) Q E s:=by
 rcases q with⟨a,b⟩|⟨a,b⟩
 .exact wpAny_nextOf_list_end hh a b hx k
 .exact X8 hh a b hx k
def Uv{Q:uX->ui->Prop}(D:ZipApart z ti tt j1 j2 l1 l2)(oz:AAT s.heap z ti tt .none)(oi:xv s.heap ti (.ref j1) (.ref j2))(ot:xv s.heap tt u1 u2)(q1:SIt s.heap j1 l1 m xs)(q2:SIt s.heap j2 l2 m ys)(ex:xs[m]?=Gc x)(ey:ys[m]?=Gc y)(k:∀h',AAT h' z ti tt (rawInt s.heap.objs.size)->xv h' tt x y->SIt h' j1 l1 (m+1) xs->SIt h' j2 l2 (m+1) ys->xv h' s.heap.objs.size x y->(∀c o,c≠z->c≠tt->c≠j1->c≠j2->s.heap.get? c=Gc o->h'.get? c=Gc o)->Q (.ref s.heap.objs.size) {s with heap:=h'}):wpAny (model prog w) A (zK.«zip.__next__» ⟨[.ref z],[]⟩) (λfin s'=>∃v,fin=.done (.ret v)/\Q v s') E s:=by
 show wpAny _ _ (field (.ref z) 2 >>= _) _ _ _
 refine uP (wM oz rfl (x:=.bool false) rfl ?_)
 show wpAny _ _ (field (.ref z) 3 >>= _) _ _ _
 refine uP (wM oz rfl (x:=.ref ti) rfl (uP (yb oi rfl ?_)))
 show wpAny _ _ (wO (.ref z) >>= _) _ _ _
 refine uP ?_
 unfold wO
 refine uP (wM oz rfl (x:=.none) rfl (ug ?_))
 simp only[zf]
 refine uP (AA3 (uP (wM oz rfl (x:=.ref tt) rfl (uP (xR oz (by simp) λg1 oz1 b1=>?_)))))
 have oz1:AAT g1 z ti tt .ellipsis:=oz1
 refine uP ?_
 simp only[List.zipIdx_cons,List.zipIdx_nil,ABL,ABZ]
 refine uP (uP (AAn ?_))
 show wpAny _ _ (vO (.ref j1) >>= _) _ _ _
 refine uP (LP (q1.but b1.extBut D.i1z D.l1z) ex λg2 q12 b2=>ug ?_)
 have ot2:xv g2 tt u1 u2:=b2.extBut _ _ D.TOi1 (b1.extBut _ _ D.TOz ot)
 refine uP (yb ot2 rfl (uP (zl ot2 λg3 ot3 b3=>?_)))
 have ot3:xv g3 tt x u2:=ot3
 refine uP (ABa (ug (uP (uP (AAn ?_)))))
 show wpAny _ _ (vO (.ref j2) >>= _) _ _ _
 refine uP (LP (((q2.but b1.extBut D.i2z D.l2z).but b2.extBut D.i12.symm D.l2i1).but b3.extBut D.TOi2.symm D.l2TO) ey λg4 q24 b4=>ug ?_)
 have ot4:xv g4 tt x u2:=b4.extBut _ _ D.TOi2 ot3
 refine uP (yb ot4 rfl (uP (zl ot4 λg5 ot5 b5=>?_)))
 have ot5:xv g5 tt x y:=ot5
 refine uP (ABa (ug (ug (uP (yb ot5 rfl (uP (wpAny_newTuple ?_)))))))
 have sz:g5.objs.size=s.heap.objs.size:=by rw[b5.1,b4.1,b3.1,b2.1,b1.1]
 have oz5:AAT g5 z ti tt .ellipsis:=b5.extBut _ _ D.TOz.symm (b4.extBut _ _ D.i2z.symm (b3.extBut _ _ D.TOz.symm (b2.extBut _ _ D.i1z.symm oz1)))
 have k5:∀c o,c≠z->c≠tt->c≠j1->c≠j2->s.heap.get? c=Gc o->g5.get? c=Gc o:=λc o c1 c2 c3 c4 e=>b5.extBut _ _ c2 (b4.extBut _ _ c4 (b3.extBut _ _ c2 (b2.extBut _ _ c3 (b1.extBut _ _ c1 e))))
 have q15:SIt g5 j1 l1 (m+1) xs:=((q12.but b3.extBut D.TOi1.symm D.l1TO).but b4.extBut D.i12 D.l1i2).but b5.extBut D.TOi1.symm D.l1TO
 have q25:SIt g5 j2 l2 (m+1) ys:=q24.but b5.extBut D.TOi2.symm D.l2TO
 have zlt:z<g5.objs.size:=uj oz5
 show wpAny _ _ (ym (.ref z) (.ref g5.objs.size) >>= _) _ _ _
 refine uP ?_
 unfold ym
 have oz6:AAT (g5.push {cls:=.type "tuple",data:=.seq #[x,y]}) z ti tt .ellipsis:=uQ _ oz5
 refine uP (xR oz6 (by simp) λg7 oz7 b7=>?_)
 have oz7:AAT g7 z ti tt (rawInt g5.objs.size):=oz7
 refine xR oz7 (by simp) λg8 oz8 b8=>?_
 have oz8:AAT g8 z ti tt (rawInt g5.objs.size):=oz8
 have up:∀c o,c≠z->g5.get? c=Gc o->g8.get? c=Gc o:=λc o c1 e=>b8.extBut _ _ c1 (b7.extBut _ _ c1 (uQ _ e))
 have op8:xv g8 g5.objs.size x y:=b8.extBut _ _ (zA zlt) (b7.extBut _ _ (zA zlt) (ux _ rfl))
 rw[sz]at oz8 op8
 refine ug ⟨_,rfl,?_⟩
 show Q (.ref g5.objs.size) _
 rw[sz]
 exact k g8 oz8 (up _ _ D.TOz ot5) (q15.at (λo e=>up _ o D.i1z e) λo e=>up _ o D.l1z e) (q25.at (λo e=>up _ o D.i2z e) λo e=>up _ o D.l2z e) op8 λc o c1 c2 c3 c4 e=>up c o c1 (k5 c o c1 c2 c3 c4 e)
def Xf(hh:A.handled=none)(D:ZipApart z ti tt j1 j2 l1 l2)(oz:AAT s.heap z ti tt .none)(oi:xv s.heap ti (.ref j1) (.ref j2))(ot:xv s.heap tt u1 u2)(q1:SIt s.heap j1 l1 m xs)(q2:SIt s.heap j2 l2 m ys)(en:xs[m]?=none\/ys[m]?=none)(k:∀h' e,(∀c o,c≠z->c≠tt->c≠j1->c≠j2->s.heap.get? c=Gc o->h'.get? c=Gc o)->(∃o,h'.get? e=Gc o/\o.cls=.type "StopIteration")->E (.ref e) {s with heap:=h'}):wpAny (model prog w) A (zK.«zip.__next__» ⟨[.ref z],[]⟩) Q E s:=by
 show wpAny _ _ (field (.ref z) 2 >>= _) _ _ _
 refine uP (wM oz rfl (x:=.bool false) rfl ?_)
 show wpAny _ _ (field (.ref z) 3 >>= _) _ _ _
 refine uP (wM oz rfl (x:=.ref ti) rfl (uP (yb oi rfl ?_)))
 show wpAny _ _ (wO (.ref z) >>= _) _ _ _
 refine uP ?_
 unfold wO
 refine uP (wM oz rfl (x:=.none) rfl (ug ?_))
 simp only[zf]
 refine uP (AA3 (uP (wM oz rfl (x:=.ref tt) rfl (uP (xR oz (by simp) λg1 oz1 b1=>?_)))))
 have oz1:AAT g1 z ti tt .ellipsis:=oz1
 refine uP ?_
 simp only[List.zipIdx_cons,List.zipIdx_nil,ABL,ABZ]
 refine uP (uP (AAn ?_))
 show wpAny _ _ (vO (.ref j1) >>= _) _ _ _
 cases ex:xs[m]? with
 |none=>
  refine uP (LR hh (q1.but b1.extBut D.i1z D.l1z) ex λg2 e b2 he=>?_)
  obtain⟨oe,e1,e2⟩:=he
  have oz2:AAT g2 z ti tt .ellipsis:=b2 _ _ D.i1z.symm oz1
  have nez:e≠z:=λx=>by subst x;rw[oz2]at e1;cases e1;simp at e2
  exact xR oz2 (by simp) λg3 _ b3=>k g3 e (λc o c1 _ c3 _ x=>b3.extBut _ _ c1 (b2 _ _ c3 (b1.extBut _ _ c1 x))) ⟨oe,b3.extBut _ _ nez e1,e2⟩
 |some x=>
  have ey:ys[m]?=none:=by
   rcases en with z|z
   .rw[ex]at z;cases z
   .exact z
  refine uP (LP (q1.but b1.extBut D.i1z D.l1z) ex λg2 q12 b2=>ug ?_)
  have ot2:xv g2 tt u1 u2:=b2.extBut _ _ D.TOi1 (b1.extBut _ _ D.TOz ot)
  refine uP (yb ot2 rfl (uP (zl ot2 λg3 ot3 b3=>?_)))
  refine uP (ABa (ug (uP (uP (AAn ?_)))))
  show wpAny _ _ (vO (.ref j2) >>= _) _ _ _
  refine uP (LR hh (((q2.but b1.extBut D.i2z D.l2z).but b2.extBut D.i12.symm D.l2i1).but b3.extBut D.TOi2.symm D.l2TO) ey λg4 e b4 he=>?_)
  obtain⟨oe,e1,e2⟩:=he
  have oz4:AAT g4 z ti tt .ellipsis:=b4 _ _ D.i2z.symm (b3.extBut _ _ D.TOz.symm (b2.extBut _ _ D.i1z.symm oz1))
  have nez:e≠z:=λx=>by subst x;rw[oz4]at e1;cases e1;simp at e2
  exact xR oz4 (by simp) λg5 _ b5=>k g5 e (λc o c1 c2 c3 c4 x=>b5.extBut _ _ c1 (b4 _ _ c4 (b3.extBut _ _ c2 (b2.extBut _ _ c3 (b1.extBut _ _ c1 x))))) ⟨oe,b5.extBut _ _ nez e1,e2⟩
def SR(D:ZipApart z ti tt j1 j2 l1 l2)(oz:AAT s.heap z ti tt .none)(oi:xv s.heap ti (.ref j1) (.ref j2))(ot:xv s.heap tt u1 u2)(q1:SIt s.heap j1 l1 m xs)(q2:SIt s.heap j2 l2 m ys)(ex:xs[m]?=Gc x)(ey:ys[m]?=Gc y)(k:∀h',AAT h' z ti tt (rawInt s.heap.objs.size)->xv h' tt x y->SIt h' j1 l1 (m+1) xs->SIt h' j2 l2 (m+1) ys->xv h' s.heap.objs.size x y->(∀c o,c≠z->c≠tt->c≠j1->c≠j2->s.heap.get? c=Gc o->h'.get? c=Gc o)->Q (Gc (.ref s.heap.objs.size)) {s with heap:=h'}):wpAny (model prog w) A (pyNext (.ref z)) Q E s:=by
 have ht:s.TypeIs (.ref z) "zip":=⟨_,oz,rfl⟩
 unfold pyNext
 exact uP (AB4 (wW (name:=u7 "__next__") ht zw (wk zw ht F.entry_zip_next
  (Uv D oz oi ot q1 q2 ex ey λh' a1 a2 a3 a4 a5 a6=>ug (k h' a1 a2 a3 a4 a5 a6)) (F.args_zip_next_1 _))))
def UR(hh:A.handled=none)(D:ZipApart z ti tt j1 j2 l1 l2)(oz:AAT s.heap z ti tt .none)(oi:xv s.heap ti (.ref j1) (.ref j2))(ot:xv s.heap tt u1 u2)(q1:SIt s.heap j1 l1 m xs)(q2:SIt s.heap j2 l2 m ys)(en:xs[m]?=none\/ys[m]?=none)(k:∀h',(∀c o,c≠z->c≠tt->c≠j1->c≠j2->s.heap.get? c=Gc o->h'.get? c=Gc o)->Q none {s with heap:=h'}):wpAny (model prog w) A (pyNext (.ref z)) Q E s:=by
 have ht:s.TypeIs (.ref z) "zip":=⟨_,oz,rfl⟩
 unfold pyNext
 refine uP (AB4 (wW (name:=u7 "__next__") ht zw (wk zw ht F.entry_zip_next
  (Xf hh D oz oi ot q1 q2 en λh' e kp he=>?_) (F.args_zip_next_1 _))))
 obtain⟨o,e1,e2⟩:=he
 exact uP (wpAny_isInstance (T:="StopIteration") (b:=true) ⟨o,e1,e2⟩ isSubtype_stop (ug (k _ kp)))
end L2
end
noncomputable section
namespace L2
open PySem PySem.Spec PyProof.Rows
def NB(h:vq)(b:vZ)(l:uf)(its:yo uX):Prop:=match b with|true=>h.IsTuple l its|false=>h.IsList l its
noncomputable def iH:vZ->xq|true=>"tuple_iterator" |false=>"list_iterator"
noncomputable def zh1(h:vq)(b:vZ)(l:uf):vq:=h.push {cls:=.type (iH b),data:=.fields #[.ref l,.int 0 0]}
noncomputable def zh2(h:vq)(b c:vZ)(l m:uf):vq:=zh1 (zh1 h b l) c m
noncomputable def zh3(h:vq)(b c:vZ)(l m:uf):vq:=(zh2 h b c l m).push {cls:=.type "tuple",data:=.seq #[.ref h.objs.size,.ref (zh1 h b l).objs.size]}
noncomputable def zh4(h:vq)(b c:vZ)(l m:uf):vq:=(zh3 h b c l m).push {cls:=.type "tuple",data:=.seq #[.none,.none]}
noncomputable def zh5(h:vq)(b c:vZ)(l m:uf):vq:=(zh4 h b c l m).push {cls:=.type "zip",data:=.fields #[.none,.bool false,.bool false,.ref (zh2 h b c l m).objs.size,.ref (zh3 h b c l m).objs.size]}
def NB.push(q:NB h b l its) o:NB (h.push o) b l its:=by
 cases b
 .exact Heap.IsList.push q _
 .obtain⟨u,e,r⟩:=(show h.IsTuple l its from q)
  exact⟨u,uQ _ e,r⟩
def X7 b c l m xs ys:Meets (zK.«zip.__new__» ⟨[.type "zip",.ref l,.ref m],[]⟩) (λ_ R s=>NB s.heap b l xs/\NB s.heap c m ys/\R (.ok (.ret (.ref (zh4 s.heap b c l m).objs.size))) {s with heap:=zh5 s.heap b c l m}):=
 .of_wp λprog w A R s hyp=>by
  obtain⟨hp,gs,dr,tk,os⟩:=s
  obtain⟨i1,i2,hyp⟩:=hyp
  have hsub:=sub_zip
  have i3:NB (xl ⟨zh1 hp b l,gs,dr,tk,os⟩) c m ys:=NB.push i2 _
  cases b<;>cases c
  .have a1:ABb (xl ⟨hp,gs,dr,tk,os⟩) l xs:=i1
   have a2:ABb (xl ⟨hp.push {cls:=.type "list_iterator",data:=.fields #[.ref l,.int 0 0]},gs,dr,tk,os⟩) m ys:=i3
   wp_walk using wZ a1,wZ a2
   exact⟨_,rfl,hyp⟩
  .have a1:ABb (xl ⟨hp,gs,dr,tk,os⟩) l xs:=i1
   have a2:AAA (xl ⟨hp.push {cls:=.type "list_iterator",data:=.fields #[.ref l,.int 0 0]},gs,dr,tk,os⟩) m ys:=i3
   wp_walk using wZ a1,wm a2
   exact⟨_,rfl,hyp⟩
  .have a1:AAA (xl ⟨hp,gs,dr,tk,os⟩) l xs:=i1
   have a2:ABb (xl ⟨hp.push {cls:=.type "tuple_iterator",data:=.fields #[.ref l,.int 0 0]},gs,dr,tk,os⟩) m ys:=i3
   wp_walk using wm a1,wZ a2
   exact⟨_,rfl,hyp⟩
  .have a1:AAA (xl ⟨hp,gs,dr,tk,os⟩) l xs:=i1
   have a2:AAA (xl ⟨hp.push {cls:=.type "tuple_iterator",data:=.fields #[.ref l,.int 0 0]},gs,dr,tk,os⟩) m ys:=i3
   wp_walk using wm a1,wm a2
   exact⟨_,rfl,hyp⟩
section
variable{s:ui}
def ZM(q:NB h b l its)(k:∀c o,h.get? c=Gc o->h'.get? c=Gc o)(e:h'.get? j=Gc {cls:=.type (iH b),data:=.fields #[.ref l,.int 0 0]}):SIt h' j l 0 its:=by
 cases b
 .exact .inl ⟨⟨_,e,rfl,rfl⟩,(show h.IsList l its from q).at λo z=>k _ o z⟩
 .exact .inr ⟨⟨_,e,rfl,rfl⟩,let⟨o,z,r⟩:=(show h.IsTuple l its from q);⟨o,k _ o z,r⟩⟩
def Vk(i1:NB s.heap b l xs)(i2:NB s.heap c m ys)(k:∀h',AAT h' (s.heap.objs.size+4) (s.heap.objs.size+2) (s.heap.objs.size+3) .none->xv h' (s.heap.objs.size+2) (.ref s.heap.objs.size) (.ref (s.heap.objs.size+1))->xv h' (s.heap.objs.size+3) .none .none->SIt h' s.heap.objs.size l 0 xs->SIt h' (s.heap.objs.size+1) m 0 ys->(∀c o,s.heap.get? c=Gc o->h'.get? c=Gc o)->Q (.ref (s.heap.objs.size+4)) {s with heap:=h'}):wpAny (model prog w) A (call (.type "zip") [.ref l,.ref m]) Q E s:=by
 refine callType_new F.called_zip (by decide) (F.typeCall_zip_2 _ _) (F.newCall_zip_2 _ _) (λobj=>F.args_object_init_3 obj _ _) F.entry_zip_new (X7 b c l m xs ys) ⟨i1,i2,?_⟩
 have z1:(zh1 s.heap b l).objs.size=s.heap.objs.size+1:=v5 ..
 have z2:(zh2 s.heap b c l m).objs.size=s.heap.objs.size+2:=by unfold zh2 zh1;rw[v5];exact congrArg (· +1) z1
 have z3:(zh3 s.heap b c l m).objs.size=s.heap.objs.size+3:=by unfold zh3;rw[v5,z2]
 have z4:(zh4 s.heap b c l m).objs.size=s.heap.objs.size+4:=by unfold zh4;rw[v5,z3]
 have kp:∀d o,s.heap.get? d=Gc o->(zh5 s.heap b c l m).get? d=Gc o:=λd o e=>by
  unfold zh5 zh4 zh3 zh2 zh1
  exact uQ _ (uQ _ (uQ _ (uQ _ (uQ _ e))))
 have g5:(zh5 s.heap b c l m).get? (zh4 s.heap b c l m).objs.size=Gc _:=ux _ rfl
 have g4:(zh5 s.heap b c l m).get? (zh3 s.heap b c l m).objs.size=Gc _:=uQ _ (ux _ rfl)
 have g3:(zh5 s.heap b c l m).get? (zh2 s.heap b c l m).objs.size=Gc _:=uQ _ (uQ _ (ux _ rfl))
 have g2:(zh5 s.heap b c l m).get? (zh1 s.heap b l).objs.size=Gc _:=uQ _ (uQ _ (uQ _ (ux _ rfl)))
 have g1:(zh5 s.heap b c l m).get? s.heap.objs.size=Gc _:=uQ _ (uQ _ (uQ _ (uQ _ (ux _ rfl))))
 show _/\_
 rw[z2,z3,z4]at g5
 rw[z1,z2]at g3
 rw[z3]at g4
 rw[z1]at g2
 rw[z4]
 exact⟨⟨_,g5,rfl⟩,k _ g5 g3 g4 (ZM i1 kp g1) (ZM i2 kp g2) kp⟩
end
end L2
end
noncomputable section
namespace L2
open PySem PySem.Spec PyProof.Rows
def SqB(K:W1)(H:Hp)(k:vZ)(a:uf)(xs:Wp V):Prop:=match k with|true=>SqT K H a xs|false=>SqL K H a xs
def JIt(h:vq)(k:vZ)(j l:uf)(i:Nat):Prop:=match k with|true=>h.IsTupleIter j l i|false=>h.IsListIter j l i
def JIt.at(q:JIt h k j l i)(e:∀o,h.get? j=Gc o->h'.get? j=Gc o):JIt h' k j l i:=by
 cases k
 .exact Heap.IsListIter.at q e
 .exact Heap.IsTupleIter.at q e
def JIt.sit(q:JIt h k j l i)(p:NB h k l its):SIt h j l i its:=by
 cases k
 .exact .inl ⟨q,p⟩
 .exact .inr ⟨q,p⟩
def SIt.jit(q:SIt h j l i its)(p:NB h k l its):JIt h k j l i:=by
 rcases q with⟨q,r⟩|⟨q,r⟩
 .cases k
  .exact q
  .obtain⟨o,e,c,_⟩:=r;obtain⟨o',e',c',_⟩:=(show h.IsTuple l its from p)
   rw[e]at e';cases e';rw[c]at c';injection c' with z;exact absurd z (by decide)
 .cases k
  .obtain⟨o,e,c,_⟩:=r;obtain⟨o',e',c',_⟩:=(show h.IsList l its from p)
   rw[e]at e';cases e';rw[c]at c';injection c' with z;exact absurd z (by decide)
  .exact q
def Inv.sqB{σ:St}(I:Inv X pins σ H s)(h:SqB X.K H k a xs):∃its,Vals xs its/\NB s.heap k a its.toArray:=by
 cases k
 .obtain⟨its,h1,⟨o,n,q1,q2,_,q3⟩,h3⟩:=I.list h
  exact⟨its,h1,o,q1,q2,n,q3⟩
 .obtain⟨its,h1,h2,h3⟩:=I.tuple h
  exact⟨its,h1,h2⟩
def Inv.Q2{σ:St}(I:Inv X pins σ H s)(h:SqB X.K H k a xs)(g:SqB X.K H k a ys):xs=ys:=by
 cases k
 .exact I.Rt h g
 .exact I.QF h g
noncomputable def Itz(K:W1)(k:vZ)(a:uf)(m:vZ)(b:uf):It:=
 ⟨λi H=>∃(xs ys:Wp V) (x y:V),SqB K H k a xs/\SqB K H m b ys/\xs[i]?=Gc x/\ys[i]?=Gc y,
  λi H v H'=>∃(p:uf) (x y:V),H p=none/\v=.ref p/\(∀xs,SqB K H k a xs->xs[i]?=Gc x)/\(∀ys,SqB K H m b ys->ys[i]?=Gc y)/\H'=upd H p (.tup [x,y]),
  λi H=>∃(xs ys:Wp V),SqB K H k a xs/\SqB K H m b ys/\(xs.length<=i\/ys.length<=i)⟩
structure ZSt(h:vq)(z ti tt j1 j2:uf)(k:vZ)(a:uf)(m:vZ)(b:uf)(i:Nat):Prop where
 oz:AAT h z ti tt .none
 oi:xv h ti (.ref j1) (.ref j2)
 ot:∃u v,xv h tt u v
 q1:JIt h k j1 a i
 q2:JIt h m j2 b i
structure ZNe(z ti tt j1 j2:uf):Prop where
 n1:ti≠z
 n2:tt≠z
 n3:j1≠z
 n4:j2≠z
 n5:ti≠tt
 n6:ti≠j1
 n7:ti≠j2
 n8:tt≠j1
 n9:tt≠j2
 n10:j1≠j2
def ZNe.apart(N:ZNe z ti tt j1 j2)(ha:a∉ [z,tt,j1,j2])(hb:b∉ [z,tt,j1,j2]):ZipApart z ti tt j1 j2 a b:=by
 simp only[uY,uu,ve,AAo]at ha hb
 exact⟨N.n1,N.n2,N.n3,N.n4,N.n5,N.n6,N.n7,N.n8,N.n9,N.n10,ha.1,ha.2.1,ha.2.2.1,ha.2.2.2,hb.1,hb.2.1,hb.2.2.1,hb.2.2.2⟩
def BL{σ:St}(I:Inv X pins σ H s)(q:SqB X.K H k a xs)(f:Qj X pins H c):a≠c:=by
 intro e
 subst e
 have rd:∀o,Rd H a o->wH:=λo r=>by
  rcases r with r|⟨_,r⟩<;>(rw[f.1]at r;cases r)
 have kk:∀o,X.K.lookup a=Gc o->wH:=λo hk=>by
  have b:=I.ok.mod.kin a o hk
  rcases f.2.2.2.1 with z|z
  .exact I.ok.Zb a o b z
  .exact absurd (uU (uj (I.ok.bs a o b).1) z) (v8 _)
 cases k
 .rcases(show SqL X.K H a xs from q)with q|⟨o,_,_,hk,_⟩
  .exact rd _ q
  .exact kk o hk
 .rcases(show SqT X.K H a xs from q)with q|⟨o,_,_,hk,_⟩
  .exact rd _ q
  .exact kk o hk
theorem Xz{P:va}{K:W1} k a m b z ti tt j1 j2(N:ZNe z ti tt j1 j2):Turn P w K (.Tuple elts n pos) (Itz K k a m b) [z,ti,tt,j1,j2] z (λi h=>ZSt h z ti tt j1 j2 k a m b i) where
 mem:=by simp
 obj:=λi h st c hc=>by
  have jl:∀{q:vZ} {j l:uf},JIt h q j l i->∃o,h.get? j=Gc o/\∀v,o.data≠.cell v:=λ{q j l} x=>by
   cases q
   .obtain⟨o,e,_,d⟩:=(show h.IsListIter j l i from x)
    exact⟨o,e,λv z=>by rw[d]at z;cases z⟩
   .obtain⟨o,e,_,d⟩:=(show h.IsTupleIter j l i from x)
    exact⟨o,e,λv z=>by rw[d]at z;cases z⟩
  simp only[uY,uu,ve]at hc
  rcases hc with rfl|rfl|rfl|rfl|rfl
  .exact⟨_,st.oz,λv z=>nomatch z⟩
  .exact⟨_,st.oi,λv z=>nomatch z⟩
  .obtain⟨u,v,e⟩:=st.ot
   exact⟨_,e,λv z=>nomatch z⟩
  .exact jl st.q1
  .exact jl st.q2
 keep:=λi h h' st kp=>⟨kp z (by simp) _ st.oz,kp ti (by simp) _ st.oi,let⟨u,v,e⟩:=st.ot;⟨u,v,kp tt (by simp) _ e⟩,st.q1.at λo e=>kp j1 (by simp) o e,st.q2.at λo e=>kp j2 (by simp) o e⟩
 item:=by
  intro X hP hw hK hc i pins s σ H E I hf st hg
  subst hP hw hK
  obtain⟨xs,ys,x,y,s1,s2,e1,e2⟩:=hg
  obtain⟨i1,r1,p1⟩:=I.sqB s1
  obtain⟨i2,r2,p2⟩:=I.sqB s2
  obtain⟨u1,h1,ru1⟩:=r1.get e1
  obtain⟨u2,h2,ru2⟩:=r2.get e2
  have fz:=hf z (by simp);have fi:=hf ti (by simp);have ft:=hf tt (by simp);have f1:=hf j1 (by simp);have f2:=hf j2 (by simp)
  have ap:=N.apart (a:=a) (b:=b) (by simp[BL I s1 fz,BL I s1 ft,BL I s1 f1,BL I s1 f2]) (by simp[BL I s2 fz,BL I s2 ft,BL I s2 f1,BL I s2 f2])
  obtain⟨v1,v2,ot⟩:=st.ot
  refine SR ap st.oz st.oi ot (st.q1.sit p1) (st.q2.sit p2) (x:=u1) (y:=u2) (by simpa using h1) (by simpa using h2) λh' oz ot' q1 q2 op kp=>⟨_,rfl,wpAny_letOwnedTupleGo_zip oz λg oz' sb=>?_⟩
  have lt:∀c o,s.heap.get? c=Gc o->c≠s.heap.objs.size:=λc o q=>vE (uj q)
  have nz:z≠s.heap.objs.size:=lt _ _ st.oz
  have nt:tt≠s.heap.objs.size:=lt _ _ ot
  have n1:j1≠s.heap.objs.size:=by obtain⟨o,e,_⟩:=(st.q1.sit p1).live;exact lt _ _ e
  have n2:j2≠s.heap.objs.size:=by obtain⟨o,e,_⟩:=(st.q2.sit p2).live;exact lt _ _ e
  have kp2:∀c o,c≠z->c≠tt->c≠j1->c≠j2->s.heap.get? c=Gc o->g.get? c=Gc o:=λc o c1 c2 c3 c4 q=>(sb.2 c c1).trans (kp c o c1 c2 c3 c4 q)
  have fr:H s.heap.objs.size=none:=I.hok.fresh (uc _)
  have op2:g.get? s.heap.objs.size=Gc {cls:=.type "tuple",data:=.seq #[u1,u2]}:=(sb.2 _ (vh nz)).trans op
  have ne:∀c u,c∈ [z,ti,tt,j1,j2]->∀d,H d=Gc u->d≠c:=λc u hc d q e=>by rw[e,(hf c hc).1]at q;cases q
  have kpH:∀c u,H c=Gc u->∀o,s.heap.get? c=Gc o->g.get? c=Gc o:=λc u q o e=>kp2 c o (ne z u (by simp) c q) (ne tt u (by simp) c q) (ne j1 u (by simp) c q) (ne j2 u (by simp) c q) e
  have ka:∀o,s.heap.get? a=Gc o->g.get? a=Gc o:=λo e=>kp2 a o (BL I s1 fz) (BL I s1 ft) (BL I s1 f1) (BL I s1 f2) e
  have kb:∀o,s.heap.get? b=Gc o->g.get? b=Gc o:=λo e=>kp2 b o (BL I s2 fz) (BL I s2 ft) (BL I s2 f1) (BL I s2 f2) e
  have sq:∀{q:vZ} {d:uf} {is:yo uX},NB s.heap q d is->(∀o,s.heap.get? d=Gc o->h'.get? d=Gc o)->NB h' q d is:=λ{q d is} x kd=>by
   cases q
   .exact(show s.heap.IsList d is from x).at kd
   .obtain⟨o,e,r⟩:=(show s.heap.IsTuple d is from x)
    exact⟨o,kd o e,r⟩
  have ka1:∀o,s.heap.get? a=Gc o->h'.get? a=Gc o:=λo e=>kp a o (BL I s1 fz) (BL I s1 ft) (BL I s1 f1) (BL I s1 f2) e
  have kb1:∀o,s.heap.get? b=Gc o->h'.get? b=Gc o:=λo e=>kp b o (BL I s2 fz) (BL I s2 ft) (BL I s2 f1) (BL I s2 f2) e
  refine⟨.ref s.heap.objs.size,upd H s.heap.objs.size (.tup [x,y]),?_,rfl,⟨_,x,y,fr,rfl,λzs hz=>by rw[I.Q2 hz s1];exact e1,λzs hz=>by rw[I.Q2 hz s2];exact e2,rfl⟩,⟨oz',(sb.2 _ N.n1).trans (kp ti _ N.n1 N.n5 N.n6 N.n7 st.oi),⟨_,_,(sb.2 _ N.n2).trans ot'⟩,(q1.jit (sq p1 ka1)).at λo e=>(sb.2 _ N.n3).trans e,(q2.jit (sq p2 kb1)).at λo e=>(sb.2 _ N.n4).trans e⟩,?_⟩
  .show Inv X pins σ _ {s with heap:=g,gens:=s.gens,drawn:=s.drawn,toks:=s.toks}
   refine I.step (g':=s.gens) (d':=s.drawn) (ch:=[z,tt,j1,j2]) ?_ ?_ ?_ ?_ ?_ ?_ ?_ ?_ ?_ ?_ I.bare
   .intro c hc
    have q:Qj X pins H c:=hf c (by simp only[uY,uu,ve]at hc ⊢; rcases hc with z|z|z|z<;>simp[z])
    exact⟨q.2.2.2.1,q.2.1,q.2.2.2.2.1,q.2.2.2.2.2⟩
   .exact λc o _ _ hc q _=>by
     simp only[uY,uu,ve,AAo]at hc
     exact kp2 c o hc.1 hc.2.1 hc.2.2.1 hc.2.2.2 q
   .exact λc o _ _ hc q _=>by
     simp only[uY,uu,ve,AAo]at hc
     exact⟨o.slots,kp2 c o hc.1 hc.2.1 hc.2.2.1 hc.2.2.2 q⟩
   .exact λc o _ q n=>by rw[AM (lt c o q)];exact n
   .exact λc o hc q=>by
     simp only[uY,uu,ve,AAo]at hc
     exact⟨o,kp2 c o hc.1 hc.2.1 hc.2.2.1 hc.2.2.2 q⟩
   .exact λc ys q=>by rw[AM (BC q fr)];exact q
   .exact λc o u q=>by rw[AM (BC q fr)];exact q
   .exact λc ps q=>⟨#[],by rw[AM (BC q fr),q];simp⟩
   .rintro mm ⟨o,es,ep,ho,r⟩
    exact⟨o,es,ep,kp2 _ o (vh fz.2.1) (vh ft.2.1) (vh f1.2.1) (vh f2.2.1) ho,r⟩
   .intro c v q
    by_cases hb:c=s.heap.objs.size
    .subst hb
     rw[AX]at q
     cases q
     exact⟨by show 2<=sizeLine;decide,[u1,u2],.cons ru1 (.cons ru2 .nil),⟨_,op2,rfl,0,rfl⟩⟩
    .rw[AM hb]at q
     refine(I.hok c v q).Rh (λd o hd r=>?_) (λd r=>by rw[AM (BC r fr)];exact r) (λd ys r=>by rw[AM (BC r fr)];exact r)
     rcases hd with e|e
     .rw[e]at r ⊢; exact kpH c v q o r
     .exact kpH d _ e o r
  .intro c hc
   have q:=hf c hc
   have:c≠s.heap.objs.size:=by
    simp only[uY,uu,ve]at hc
    rcases hc with e|e|e|e|e
    .rw[e];exact nz
    .rw[e];exact lt _ _ st.oi
    .rw[e];exact nt
    .rw[e];exact n1
    .rw[e];exact n2
   rw[AM this];exact q.1
 done:=by
  intro X hP hw hK hc i pins s σ H E I hf st hg
  subst hP hw hK
  obtain⟨xs,ys,s1,s2,e⟩:=hg
  obtain⟨i1,r1,p1⟩:=I.sqB s1
  obtain⟨i2,r2,p2⟩:=I.sqB s2
  have l1:=r1.length
  have l2:=r2.length
  have hh:X.A.in1.handled=none:=I.ok.hd hc
  have hh0:X.A.handled=none:=I.ok.hd hc
  have fz:=hf z (by simp);have fi:=hf ti (by simp);have ft:=hf tt (by simp);have f1:=hf j1 (by simp);have f2:=hf j2 (by simp)
  have ap:=N.apart (a:=a) (b:=b) (by simp[BL I s1 fz,BL I s1 ft,BL I s1 f1,BL I s1 f2]) (by simp[BL I s2 fz,BL I s2 ft,BL I s2 f1,BL I s2 f2])
  obtain⟨v1,v2,ot⟩:=st.ot
  refine UR hh0 ap st.oz st.oi ot (st.q1.sit p1) (st.q2.sit p2) (by rcases e with e|e;exact .inl (by simp;lia);exact .inr (by simp;lia)) λh' kp=>⟨rfl,?_⟩
  have ne:∀c u,c∈ [z,ti,tt,j1,j2]->∀d,H d=Gc u->d≠c:=λc u hc d q e=>by rw[e,(hf c hc).1]at q;cases q
  show Inv X pins σ _ {s with heap:=h',gens:=s.gens,drawn:=s.drawn,toks:=s.toks}
  refine I.step (g':=s.gens) (d':=s.drawn) (ch:=[z,tt,j1,j2]) ?_ ?_ ?_ ?_ ?_ ?_ ?_ ?_ ?_ ?_ I.bare
  .intro c hc
   have q:Qj X pins H c:=hf c (by simp only[uY,uu,ve]at hc ⊢; rcases hc with z|z|z|z<;>simp[z])
   exact⟨q.2.2.2.1,q.2.1,q.2.2.2.2.1,q.2.2.2.2.2⟩
  .exact λc o _ _ hc q _=>by
    simp only[uY,uu,ve,AAo]at hc
    exact kp c o hc.1 hc.2.1 hc.2.2.1 hc.2.2.2 q
  .exact λc o _ _ hc q _=>by
    simp only[uY,uu,ve,AAo]at hc
    exact⟨o.slots,kp c o hc.1 hc.2.1 hc.2.2.1 hc.2.2.2 q⟩
  .exact λc o _ q n=>n
  .exact λc o hc q=>by
    simp only[uY,uu,ve,AAo]at hc
    exact⟨o,kp c o hc.1 hc.2.1 hc.2.2.1 hc.2.2.2 q⟩
  .exact λc ys q=>q
  .exact λc o u q=>q
  .exact λc ps q=>⟨#[],by rw[q];simp⟩
  .rintro mm ⟨o,es,ep,ho,r⟩
   exact⟨o,es,ep,kp _ o (vh fz.2.1) (vh ft.2.1) (vh f1.2.1) (vh f2.2.1) ho,r⟩
  .intro c v q
   refine(I.hok c v q).Rh (λd o hd r=>?_) (λd r=>r) (λd ys r=>r)
   rcases hd with e|e
   .rw[e]at r ⊢; exact kp c o (ne z v (by simp) c q) (ne tt v (by simp) c q) (ne j1 v (by simp) c q) (ne j2 v (by simp) c q) r
   .exact kp d o (ne z _ (by simp) d e) (ne tt _ (by simp) d e) (ne j1 _ (by simp) d e) (ne j2 _ (by simp) d e) r
 self:=λ_ _ _ _ _ st h=>wpAny_pyIter_zip st.oz h
end L2
end
noncomputable section
namespace L2
open PySem PySem.Spec PyProof.Rows
def zne(n:Nat):ZNe (n+4) (n+2) (n+3) n (n+1):=⟨λe=>by have:n+2=n+4:=e;lia,λe=>by have:n+3=n+4:=e;lia,λe=>by have:n=n+4:=e;lia,λe=>by have:n+1=n+4:=e;lia,λe=>by have:n+2=n+3:=e;lia,λe=>by have:n+2=n:=e;lia,λe=>by have:n+2=n+1:=e;lia,λe=>by have:n+3=n:=e;lia,λe=>by have:n+3=n+1:=e;lia,λe=>by have:n=n+1:=e;lia⟩
noncomputable def rf(K:W1)(ta:TA):TI:=λσ H R=>ta σ H λvs H1=>∃k a m b,vs=[.ref a,.ref b]/\(∃xs,SqB K H1 k a xs)/\(∃ys,SqB K H1 m b ys)/\R (Itz K k a m b) H1
def gz{p pos tp:Pos}{elts:Wp vi}{n:Nat}(hg:Gl X "zip")(hm:X.mg "zip"=none)(ha:PA X [a,b] ta)(hs:zn (ue [a,b] X.env=[(false,eval a X.env),(false,eval b X.env)]) ww)(hs2:zn (ue [b] X.env=[(false,eval b X.env)]) ww):PI X (.Tuple elts n tp) (.Call (.Name "zip" p) [a,b] [] pos) (rf X.K ta):=by
 intro pins s σ H R I h
 refine Call_ (NT I hg hm boot_zip (yT (thn (ha pos pins s σ H _ I h) λus s1 ⟨vs,H1,I1,r1,q1⟩=>?_) (by rw[hs,hs2]) (by rw[hs2];rfl)))
 obtain⟨k,a',m,b',e,⟨xs,hq⟩,⟨ys,hr⟩,q⟩:=q1
 subst e
 obtain⟨u,v,rfl,ru,rv⟩:=r1.two
 cases (show u=u5 a' from ru)
 cases (show v=u5 b' from rv)
 obtain⟨i1,v1,p1⟩:=I1.sqB hq
 obtain⟨i2,v2,p2⟩:=I1.sqB hr
 refine Vk p1 p2 λh' oz oi ot q1 q2 kp=>wpAny_pyIter_zip (s:={s1 with heap:=h'}) oz ?_
 have sq:∀{q:vZ} {d:uf} {is:yo uX},NB s1.heap q d is->NB h' q d is:=λ{q d is} x=>by
  cases q
  .exact(show s1.heap.IsList d is from x).at λo e=>kp _ o e
  .obtain⟨o,e,r⟩:=(show s1.heap.IsTuple d is from x)
   exact⟨o,kp _ o e,r⟩
 refine⟨s1.heap.objs.size+4,[s1.heap.objs.size+4,s1.heap.objs.size+2,s1.heap.objs.size+3,s1.heap.objs.size,s1.heap.objs.size+1],_,_,H1,rfl,I1.kept (t':=s1.toks) kp,
  Xz k a' m b' _ _ _ _ _ (zne s1.heap.objs.size),⟨oz,oi,⟨_,_,ot⟩,q1.jit (sq p1),q2.jit (sq p2)⟩,λc hc=>?_,q⟩
 simp only[uY,uu,ve]at hc
 have:s1.heap.objs.size<=c:=by rcases hc with rfl|rfl|rfl|rfl|rfl<;>first|exact uc _|exact Nat.le_add_right _ _
 exact I1.aX this (I1.hok.fresh this)
end L2
end
noncomputable section
namespace L2
open PySem PySem.Spec PyProof.Rows
def IsList.RI{h h':vq}(p:h.IsList a items)(k:∀o,h.get? a=Gc o->h'.get? a=Gc o):h'.IsList a items:=by
 obtain⟨o,ho,r⟩:=p
 exact⟨o,k o ho,r⟩
theorem PN(hne:t≠it):∀n i s Q,s.heap.IsListIter it t i->s.heap.IsList t items->i+n<=items.size->(∀h',h'.IsListIter it t (i+n)->yE it s.heap h'->Q ((items.toList.drop i).take n) {s with heap:=h'})->wpAny (model prog w) A (draw (.ref it) n) Q E s
 |0,i,s,Q,hit,_,_,hQ=>by
  show wpAny _ _ (pure []) Q E s
  exact ug (by simpa using hQ s.heap hit (Heap.SameBut.refl ..))
 |n+1,i,s,Q,hit,ht,hle,hQ=>by
  have hlt:i<items.size:=by lia
  show wpAny _ _ (pyNext (.ref it) >>= _) Q E s
  refine uP (zB hit ht (x:=items[i]) (by simp[hlt]) λh1 hit1 hs1=>?_)
  refine uP (vw (PN hne n (i+1) _ _ hit1 (IsList.RI ht λo e=>hs1.extBut t o hne e) (by lia) λh2 hit2 hs2=>ug ?_))
  have hd:items.toList.drop i=items[i]::items.toList.drop (i+1):=by simp[vP,hlt]
  have:=hQ h2 (by rw[show i+(n+1)=i+1+n by lia];exact hit2) (hs1.trans hs2)
  rw[hd,List.take_succ_cons]at this
  exact this
def LD(hh:A.handled=none)(ht:s.heap.IsList t items)(hty:s.TypeIs (.ref t) "list")(hQ:∀h',AAi s.heap.objs.size s.heap h'->Q items.toList {s with heap:=h'}):wpAny (model prog w) A (unpackItems (.ref t) items.size none) Q E s:=by
 have hlt:t≠s.heap.objs.size:=by obtain⟨o,ho,_⟩:=ht;exact vE (uj ho)
 unfold unpackItems
 refine uP ?_
 .unfold notIterableAtAll
  refine uP (wpAny_specialOf hty F.slot_list_iter.lookup ?_)
  refine ug ?_
  simp only[ACG,AAN]
  refine uP (vw (wZ ht ?_))
  refine uP (vw (PN hlt items.size 0 _ _ ⟨_,ux _ rfl,rfl,rfl⟩ (IsList.RI ht λo e=>uQ _ e) (by lia) λh1 hit1 hs1=>?_))
  have hall:List.take items.size (List.drop 0 items.toList)=items.toList:=by
   rw[List.drop_zero];exact zL (by simp)
  rw[hall]
  rw[vB (by simp)]
  have ht1:h1.IsList t items:=IsList.RI (IsList.RI ht λo e=>uQ _ e) λo e=>hs1.extBut t o hlt e
  refine uP (vw (zT hh hit1 ht1 (by simp) λh2 he2=>?_))
  simp only[Option.isSome_none,ACG,AAN]
  refine ug (hQ h2 λb o hb e=>he2 b o hb (hs1.extBut b o hb (uQ _ e)))
def Kq{x1}(hh:A.handled=none)(ht:s.heap.IsList t items)(hty:s.TypeIs (.ref t) "list")(hn:(assignEach elts env).length=items.size)(hstar:(assignEach elts env).findIdx? (·.1)=none)(h:∀h',AAi s.heap.objs.size s.heap h'->wpAny (model prog w) A (assignInOrder ((assignEach elts env).map (·.2)) items.toList) Q E {s with heap:=h'}):wpAny (model prog w) A (assign (.Tuple elts x1 pos) env (.ref t)) Q E s:=by
 rw[PyProof.Rows.assign_Tuple]
 refine uP (xH ?_)
 unfold unpack
 rw[hn,hstar]
 exact uP (vw (LD hh ht hty h))
section
variable{X:Cx}{pos:Pos}
noncomputable def tJ(K:W1)(n:Nat)(t:TGs):TG:=λv σ H Q=>∃a xs,v=.ref a/\(SqT K H a xs\/H a=Gc (.lst xs))/\xs.length=n/\t xs σ H Q
def kJ{k:Nat}(hc:X.calm=true)(h:PGs X es t)(hn:zn ((assignEach es X.env).length=n) ww)(hst:zn ((assignEach es X.env).findIdx? (·.1)=none) ww):PG X (.Tuple es k pos) (tJ X.K n t):=by
 intro pins s σ H v u Q I r hw
 obtain⟨a,xs,e1,hq,hl,hw⟩:=hw
 rcases hq with hq|hq
 .exact jZ hc h hn hst pins s σ H v u Q I r ⟨a,xs,e1,hq,hl,hw⟩
 .subst e1
  cases r
  obtain⟨its,rv,p,hz⟩:=I.list (SqL.of hq)
  obtain⟨z,its2,m,rv2,_,e⟩:=I.ZD hq
  refine Kq (I.ok.hd hc) p.isList ⟨_,e,rfl⟩ (by simp[hn,<-hl,rv.length]) hst λh' hx=>?_
  have I1:Inv X pins σ H {s with heap:=h'}:=I.kept (t':=s.toks) λb o e=>hx b o (vE (uj e)) e
  exact h pins _ σ H xs _ Q I1 (by simpa using rv) hw
end
end L2
end
noncomputable section
namespace L2
open PySem PySem.Spec PyProof.Rows
def JIt.live(q:JIt h k j l i):∃o,h.get? j=Gc o/\∀v,o.data≠.cell v:=by
 cases k with
 |true=>obtain⟨o,e,c,d⟩:=q;exact⟨o,e,λv z=>by rw[d]at z;cases z⟩
 |false=>obtain⟨o,e,c,d⟩:=q;exact⟨o,e,λv z=>by rw[d]at z;cases z⟩
def NB.mono(q:NB h k l its)(e:∀o,h.get? l=Gc o->h'.get? l=Gc o):NB h' k l its:=by
 cases k with
 |true=>obtain⟨o,ho,r⟩:=q;exact⟨o,e o ho,r⟩
 |false=>obtain⟨o,ho,r⟩:=q;exact⟨o,e o ho,r⟩
theorem VS(hh:A.handled=none) it t(hne:t≠it) items:Draws prog w A it [it,t] items.size (λi v=>items[i]?=Gc v) (λi h=>SIt h it t i items) where
 live:=λ_ _ st=>let⟨o,ho,_⟩:=st.live;⟨o,ho⟩
 frame:=λ_ _ _ st hk=>st.at (λo e=>hk it (by simp) o e) λo e=>hk t (by simp) o e
 item:=λi s Q E hi st hQ=>LP st (x:=items[i]) (by simp[hi]) λh' a b=>hQ _ h' s.toks (by simp[hi]) a b
 done:=λs Q E st hE=>LR hh st (by simp) hE
noncomputable def ItE(K:W1)(kk:vZ)(a:uf):It:=
 ⟨λi H=>∃xs x,SqB K H kk a xs/\xs[i]?=Gc x,λi H x H'=>∃p y,H p=none/\x=.ref p/\(∀xs,SqB K H kk a xs->xs[i]?=Gc y)/\H'=upd H p (.tup [.int i,y]),λi H=>∃xs,SqB K H kk a xs/\xs.length<=i⟩
theorem TK{P:va}{K:W1} kk a e it(hei:e≠it):Turn P w K (.Tuple elts k pos) (ItE K kk a) [e,it] e (λi h=>(∃old,IsEnum h e it i old)/\JIt h kk it a i) where
 mem:=by simp
 obj:=λi h st b hb=>by
  obtain⟨⟨old,h1⟩,st2⟩:=st
  obtain⟨o,h2,h4⟩:=st2.live
  simp only[uY,uu,ve]at hb
  rcases hb with rfl|rfl
  .exact⟨_,h1,λv z=>nomatch z⟩
  .exact⟨o,h2,h4⟩
 keep:=λi h h' st k=>by
  obtain⟨⟨old,h1⟩,h2⟩:=st
  exact⟨⟨old,k e (by simp) _ h1⟩,h2.at λo q=>k it (by simp) o q⟩
 item:=by
  intro X hP hw hK hc i pins s σ H E I hf st hg
  subst hP hw hK
  obtain⟨xs,x,hq,hx⟩:=hg
  obtain⟨its,rv,p⟩:=I.sqB hq
  obtain⟨u,hu,ru⟩:=rv.get hx
  obtain⟨⟨old,h1⟩,h2⟩:=st
  obtain⟨oi,hi1,hi2⟩:=h2.live
  have hea:a≠e:=BL I hq (hf e (by simp))
  have hia:a≠it:=BL I hq (hf it (by simp))
  have hil:i<its.toArray.size:=by
   have:=(ua.mp hu).1
   simpa using this
  have hh:X.A.in1.handled=none:=I.ok.hd hc
  have D:=VS (prog:=X.prog) (w:=X.w) hh it a hia its.toArray
  refine wpAny_pyNext_enum_itemD D h1 (h2.sit p) hil hei (by simp[hei,vh hea]) ?_
  intro y h' tk hy out st' tup size kept
  have ey:y=u:=by
   have:its[i]?=Gc y:=by simpa using hy
   rw[hu]at this
   exact(wR this).symm
  subst ey
  refine⟨_,rfl,wpAny_letOwnedTupleGo_enum out λh'' en sb=>?_⟩
  have hfe:=hf e (by simp)
  have hfi:=hf it (by simp)
  have lt:∀b o,s.heap.get? b=Gc o->b≠s.heap.objs.size:=λb o q=>vE (uj q)
  have kept2:∀b o,b≠e->b≠it->s.heap.get? b=Gc o->h''.get? b=Gc o:=λb o b1 b2 q=>(sb.2 b b1).trans (kept b o b1 b2 q)
  have fr:H s.heap.objs.size=none:=I.hok.fresh (uc _)
  have tup2:h''.get? s.heap.objs.size=Gc {cls:=.type "tuple",data:=.seq #[.int i tk,y]}:=(sb.2 _ (vh (lt e _ h1))).trans tup
  have ne1:∀b u,H b=Gc u->b≠e:=λb u q z=>by rw[z,hfe.1]at q;cases q
  have ne2:∀b u,H b=Gc u->b≠it:=λb u q z=>by rw[z,hfi.1]at q;cases q
  refine⟨.ref s.heap.objs.size,upd H s.heap.objs.size (.tup [.int i,x]),?_,rfl,⟨_,x,fr,rfl,λys hys=>by rw[I.Q2 hys hq];exact hx,rfl⟩,⟨⟨y,en⟩,?_⟩,?_⟩
  .show Inv X pins σ _ {s with heap:=h'',gens:=s.gens,drawn:=s.drawn,toks:=tk+1}
   refine I.step (g':=s.gens) (d':=s.drawn) (ch:=[e,it]) ?_ ?_ ?_ ?_ ?_ ?_ ?_ ?_ ?_ ?_ I.bare
   .intro b hb
    simp only[uY,uu,ve]at hb
    rcases hb with rfl|rfl
    .exact⟨hfe.2.2.2.1,hfe.2.1,hfe.2.2.2.2.1,hfe.2.2.2.2.2⟩
    .exact⟨hfi.2.2.2.1,hfi.2.1,hfi.2.2.2.2.1,hfi.2.2.2.2.2⟩
   .exact λb o _ _ hc q _=>kept2 b o (λz=>hc (by simp[z])) (λz=>hc (by simp[z])) q
   .exact λb o _ _ hc q _=>⟨o.slots,kept2 b o (λz=>hc (by simp[z])) (λz=>hc (by simp[z])) q⟩
   .exact λb o _ q n=>by rw[AM (lt b o q)];exact n
   .exact λb o hc q=>⟨o,kept2 b o (λz=>hc (by simp[z])) (λz=>hc (by simp[z])) q⟩
   .exact λb ys q=>by rw[AM (BC q fr)];exact q
   .exact λb o u q=>by rw[AM (BC q fr)];exact q
   .exact λb ps q=>⟨#[],by rw[AM (BC q fr),q];simp⟩
   .rintro m ⟨o,es,ep,ho,r⟩
    exact⟨o,es,ep,kept2 _ o (vh hfe.2.1) (vh hfi.2.1) ho,r⟩
   .intro b v q
    by_cases hb:b=s.heap.objs.size
    .subst hb
     rw[AX]at q
     cases q
     exact⟨by show 2<=sizeLine;decide,[.int i tk,y],.cons ⟨tk,rfl⟩ (.cons ru .nil),⟨_,tup2,rfl,0,rfl⟩⟩
    .rw[AM hb]at q
     refine(I.hok b v q).Rh (λc z hc r=>kept2 c z ?_ ?_ r) (λc r=>by rw[AM (BC r fr)];exact r) (λc ys r=>by rw[AM (BC r fr)];exact r)
     .rcases hc with z|z
      .rw[z];exact ne1 b v q
      .exact ne1 c _ z
     .rcases hc with z|z
      .rw[z];exact ne2 b v q
      .exact ne2 c _ z
  .have pa:NB h'' kk a its.toArray:=p.mono λo q=>kept2 a o hea hia q
   exact(st'.at (λo q=>(sb.2 it (vh hei)).trans q) λo q=>(sb.2 a hea).trans q).jit pa
  .intro b hb
   simp only[uY,uu,ve]at hb
   rcases hb with rfl|rfl
   .rw[AM (lt b _ h1)];exact hfe.1
   .rw[AM (lt b _ hi1)];exact hfi.1
 done:=by
  intro X hP hw hK hc i pins s σ H E I hf st hg
  subst hP hw hK
  obtain⟨xs,hq,hx⟩:=hg
  obtain⟨its,rv,p⟩:=I.sqB hq
  obtain⟨⟨old,h1⟩,h2⟩:=st
  have hl:=rv.length
  have hh:X.A.in1.handled=none:=I.ok.hd hc
  obtain⟨f0,f1,f2,f3,f4,f5⟩:=hf it (by simp)
  have D:Draws X.prog X.w X.A.in1 it [it,a] i (λ_ _=>AAI) (λj h=>j=i/\SIt h it a i its.toArray):=
   {live:=λ_ _ st=>let⟨o,ho,_⟩:=st.2.live;⟨o,ho⟩
    frame:=λ_ _ _ st hk=>⟨st.1,st.2.at (λo e=>hk it (by simp) o e) λo e=>hk a (by simp) o e⟩
    item:=λj s Q E hj st _=>absurd st.1 (vE hj)
    done:=λs Q E st hE=>LR hh st.2 (by simp;lia) hE}
  exact wpAny_pyNext_enum_endD D h1 ⟨rfl,h2.sit p⟩ λh' eb=>⟨rfl,I.turned (t':=s.toks) (λb o hb q=>eb b o hb q) f0 f1 f3 f4 f5⟩
 self:=λ_ _ _ _ _ st h=>by
  obtain⟨⟨old,h1⟩,_⟩:=st
  exact wpAny_pyIter_enum h1 h
noncomputable def kD(K:W1)(ta:TA):TI:=λσ H R=>ta σ H λvs H1=>∃kk a,vs=[.ref a]/\(∃xs,SqB K H1 kk a xs)/\R (ItE K kk a) H1
def X9(hg:Gl X "enumerate")(hm:X.mg "enumerate"=none)(ha:PA X [a] ta)(hs:zn (ue [a] X.env=[(false,eval a X.env)]) ww):PI X (.Tuple elts k tp) (.Call (.Name "enumerate" p) [a] [] pos) (kD X.K ta):=by
 intro pins s σ H R I h
 refine Call_ (NT I hg hm boot_enumerate (callWith_type1 (thn (ha pos pins s σ H _ I h) λus s1 z=>?_) hs rfl))
 obtain⟨vs,H1,I1,r1,q1⟩:=z
 obtain⟨kk,b,e,⟨xs,hq⟩,q⟩:=q1
 subst e
 obtain⟨u,rfl,ru⟩:=r1.one
 cases (show u=u5 b from ru)
 obtain⟨its,rv,pt⟩:=I1.sqB hq
 have fin:∀h':vq,IsEnum h' (s1.heap.objs.size+1) s1.heap.objs.size 0 .none->JIt h' kk s1.heap.objs.size b 0->(∀b o,s1.heap.get? b=Gc o->h'.get? b=Gc o)->wpAny (model X.prog X.w) X.A (pyIter (.ref (s1.heap.objs.size+1))) (PIE X pins σ (.Tuple elts k tp) R) X.xe {s1 with heap:=h'}:=λh' en it kp=>by
  refine wpAny_pyIter_enum (s:={s1 with heap:=h'}) en ?_
  refine⟨s1.heap.objs.size+1,[s1.heap.objs.size+1,s1.heap.objs.size],_,_,H1,rfl,I1.kept (t':=s1.toks) kp,TK kk b (s1.heap.objs.size+1) s1.heap.objs.size (Nat.succ_ne_self _),⟨⟨_,en⟩,it⟩,λc hc=>?_,q⟩
  simp only[uY,uu,ve]at hc
  rcases hc with rfl|rfl
  .exact I1.aX (by lia) (I1.hok.fresh (by lia))
  .exact I1.aX (uc _) (I1.hok.fresh (uc _))
 cases kk with
 |true=>exact SH (show s1.heap.IsTuple b its.toArray from pt) λh' en it kp=>fin h' en it kp
 |false=>exact call_enumerate_list (show s1.heap.IsList b its.toArray from pt) λh' en it _ kp=>fin h' en it kp
end L2
end
noncomputable section
namespace St
open PySem PySem.Spec L2 PyProof.Rows
inductive Kd where
 |non|bl|int|str|tup|lst|dct
 deriving DecidableEq
noncomputable def Kd.ty:Kd->xq
 | .non=>"NoneType" | .bl=>"bool" | .int=>"int" | .str=>"str" | .tup=>"tuple" | .lst=>"list" | .dct=>"dict"
noncomputable def Kd.isA:Kd->xq->vZ
 | .bl,"bool"=>true| .bl,"int"=>true| .int,"int"=>true| .str,"str"=>true| .tup,"tuple"=>true| .lst,"list"=>true| .dct,"dict"=>true
 |_,_=>false
section
variable{K:W1}
def dz(k:Kd):xN K (.type k.ty) (.type "int")=Gc (k.isA "int"):=by
 cases k<;>first|rfl|(unfold xN;rfl)
def YC(k:Kd):xN K (.type k.ty) (.type "bool")=Gc (k.isA "bool"):=by
 cases k<;>rfl
def kit_tuple(k:Kd):xN K (.type k.ty) (.type "tuple")=Gc (k.isA "tuple"):=by
 cases k<;>rfl
def cV(k:Kd):xN K (.type k.ty) (.type "str")=Gc (k.isA "str"):=by
 cases k<;>rfl
end
structure Dfn(P:va)(w:wG)(K:W1)(mg:Str->uR uX)(base:vq)(x:Str)(k:Nat)(ps:Wp Str)(sp:Sp):Prop where
 ex:∃f fd,mg x=Gc (.ref f)/\vm K (.ref f)=true/\Binds K fd ps []/\Ji P w K mg base CX0 k f fd ps sp
structure Src(K:W1)(mg:Str->uR uX)(x:Str)(st:vH):Prop where
 ex:∃f fd,Fun K x x st f fd/\mg x=Gc (.ref f)
def oA{X:Cx}{k:Nat}{x:Str}{ps:Wp Str}{p pos:Pos}(d:Dfn X.prog X.w X.K X.mg X.base x k ps sp)(hr:Cj k X.A)(hg:Gl X x)(ha:PA X (e::es) t)(hdb:zn ((x==("__debug__":Str))=false) xz)(he:zn (ue (e::es) X.env=(false,eval e X.env)::ue es X.env) ww)(hpl:zn ((backTo pos (ue es X.env)).any (·.1)=false) ww):PE X (.Call (.Name x p) (e::es) [] pos) (dQ sp [] E0 t):=by
 obtain⟨f,fd,a,b,c,F⟩:=d.ex
 exact aV F hr hg a b c .nil UH ha hdb he hpl
def aG(h:n<2^8000):n.log2<9000:=by
 by_cases h0:n=0
 .subst h0;decide
 .exact Nat.lt_trans ((Nat.log2_lt h0).mpr h) (by decide)
def XH:OpR X (binaryOp .FloorDiv) (rI (λ_ j=>0<j/\j.natAbs<2^8000) λi j=>.int (i / j)):=opI λi j _ _ _ _ _ hc q=>by
 have h1:(0:Int)<j:=hc.1
 exact floordiv_int (by lia) (by rw[Int.fdiv_eq_ediv_of_nonneg i (by lia)];exact q) (.inl (PyProof.noPylong_of_log2 (aG hc.2)))
theorem NO(hh:A.handled=none)(hne:a≠it){vs:Wp uX}:Walks prog w A it [it,a] [it] vs.length (λi v=>vs[i]?=Gc v) (λi h=>h.IsListIter it a i/\h.IsList a vs.toArray) where
 sub:=λb hb=>by simp at hb;simp[hb]
 frame:=λi h h' st k=>⟨st.1.at λo e=>k it (by simp) o e,by
  obtain⟨o,ho,r⟩:=st.2
  exact⟨o,k a (by simp) o ho,r⟩⟩
 item:=λi s Q E hi st hQ=>by
  refine zB st.1 st.2 (x:=vs[i]) (by simp[hi]) λh' st' sb=>?_
  refine hQ _ h' s.toks (by simp[hi]) ⟨st',?_⟩ λb o hb e=>(sb.2 b (by simpa using hb)).trans e
  obtain⟨o,ho,r⟩:=st.2
  exact⟨o,(sb.2 a hne).trans ho,r⟩
 done:=λs Q E st hQ=>zT hh st.1 st.2 (by simp) λh' eb=>hQ h' s.toks λb o hb e=>eb b o (by simpa using hb) e
 self:=λi s Q E st hQ=>ABP st.1 hQ
def Vs(hc:X.calm=true):Eg X (.builtin "all") (λxs H Q=>∃(p:uf) (bs:Wp vZ),xs=[.ref p]/\SqL X.K H p (bs.map V.bl)/\Q (.bl (bs.all id)) H):=by
 intro pins s σ H xs us Q I r h
 obtain⟨p,bs,rfl,hp,q⟩:=h
 obtain⟨u,rfl,ru⟩:=r.one
 cases (show u=u5 p from ru)
 obtain⟨its,rv,pl,hz⟩:=I.list hp
 have hd:X.A.in1.handled=none:=I.ok.hd hc
 refine call_all_walk (wZ pl.isList ?_)
 have hlen:bs.length=its.length:=by have:=rv.length;simpa using this
 have hpl:=pl.isList
 have hne:p≠s.heap.objs.size:=by
  obtain⟨o,ho,_⟩:=hpl
  exact vE (uj ho)
 refine⟨s.heap.objs.size,_,_,its.length,_,_,λi=>bs.getD i true,rfl,NO (vs:=its) hd hne,⟨⟨_,ux _ rfl,rfl,rfl⟩,?_⟩,?_,?_⟩
 .obtain⟨o,ho,r⟩:=hpl
  exact⟨o,uQ _ ho,r⟩
 .intro i v s' Q' E' hv hq
  have hi:i<its.length:=(ua.mp hv).1
  have hb:(bs.map V.bl)[i]?=Gc (.bl (bs.getD i true)):=by
   rw[um,uS (by lia)]
   simp[uz,uS (show i<bs.length by lia)]
  obtain⟨u,hu,ru⟩:=rv.get hb
  rw[hv]at hu
  cases hu
  cases (show v=AAG _ from ru)
  exact w9 hq
 .intro h' tk hk
  have e:(u6 its.length).all (λi=>bs.getD i true)=bs.all id:=by
   rw[<-hlen]
   clear q hp rv hlen
   have:∀(l:Wp vZ),(u6 l.length).all (λi=>l.getD i true)=l.all id:=by
    intro l
    induction l with
    |nil=>rfl
    |cons b l ih=>
     rw[vG,List.range_succ_eq_map,yN,List.all_map,yN,<-ih]
     rfl
   exact this bs
  rw[e]
  exact⟨.bl _,H,I.kept (t':=tk) λb o eb=>hk b o (by simp;exact vE (uj eb)) (uQ _ eb),rfl,q⟩
def Wy{ns:Wp Int}(h:j<ns.length):(ns.take (j+1)).sum=(ns.take j).sum+ns.getD j 0:=by
 have e:ns.getD j 0=ns[j]:=by simp[uz,uS h]
 rw[ABc,uS h,List.sum_append,e]
 show _+(ns[j]+0)=_
 lia
theorem LX{ns:Wp Int}:∀{j},j<=ns.length->preSum (λi=>ns.getD i 0) j=(ns.take j).sum
 |0,_=>by simp[preSum]
 |j+1,h=>by
  rw[preSum,LX (by lia),Wy (by lia)]
def WZ{ns:Wp Int}(h:∀n∈ns,0<=n/\n<=1000000):0<=ns.sum/\ns.sum<=1000000*ns.length:=by
 induction ns with
 |nil=>simp
 |cons a l ih=>
  have h1:=h a (by simp)
  have h2:=ih λn hn=>h n (by simp[hn])
  rw[wu,vG]
  have:((l.length+1:Nat):Int)=(l.length:Int)+1:=by lia
  lia
def KU{lo hi:uR Int}(ht:IsTup s.heap t items)(hs:s.heap.IsSliceOf sl vl vu .none)(pl:AA4 vl lo)(pu:AA4 vu hi)(hw:HT.sIx items.size 0 lo=0/\HT.sIx items.size items.size hi=items.size)(h:Q (.ref t) s):wpAny (model prog w) A (getItem (.ref t) (.ref sl)) Q E s:=by
 obtain⟨os,hos,hcs,hds⟩:=id hs
 have hTs:s.TypeIs (.ref sl) "slice":=⟨os,hos,hcs⟩
 unfold getItem
 try with_reducible refine vw ?_
 first|refine uP (ug ?_)|skip
 refine uP (wpAny_sequenceKey ht.typeIs (by decide) ?_)
 refine uP (wW (name:=u7 "__getitem__") ht.typeIs vg
  (wk vg ht.typeIs ABs ?_ (ACC _ _)))
 show wpAny _ _ (AAP (.ref t) >>= _) _ _ s
 refine uP (tupleItemsOf_ ht ?_)
 refine uP (AA5 hTs ?_)
 rw[vC (by decide)]
 refine uP (HT.G8 hs pl pu ?_)
 show wpAny _ _ (if(((HT.sIx items.size 0 lo:Nat):Int)==0 && (1:Int)==1 && (HT.sIx items.size items.size hi-HT.sIx items.size 0 lo)==items.size)=true then _ else _) _ _ s
 rw[vC (by rw[hw.1,hw.2];simp)]
 unfold Builtin.Tuple.tupleIsExact
 refine uP (uP (AA5 ht.typeIs (ug ?_)))
 rw[vC (by decide)]
 exact uP (AA3 (ug ⟨_,rfl,ug h⟩))
def rM(K:W1):V->uR Int->uR Int->Hp->VK->Prop:=λx lo hi H Q=>∃a xs,x=.ref a/\SqT K H a xs/\HT.sIx xs.length 0 lo=0/\HT.sIx xs.length xs.length hi=xs.length/\Q x H
def iL:SlR X (rM X.K):=by
 intro pins s σ H x v vl vu lo hi sl Q I rx hs pl pu h
 obtain⟨a,xs,rfl,hx,h1,h2,q⟩:=h
 cases rx
 obtain⟨its,r,ht,hz⟩:=I.tuple hx
 have hlen:its.toArray.size=xs.length:=by rw[uq];exact r.length.symm
 refine⟨"tuple",_,vg.lookup,ht.typeIs,?_⟩
 exact KU ht hs pl pu (by rw[hlen];exact⟨h1,h2⟩) ⟨.ref a,H,I,rfl,q⟩
noncomputable def nE(K:W1):R2:=λx y H Q=>∃a b ys,x=.ref a/\y=.ref b/\SqT K H a []/\SqT K H b ys/\Q (.ref b) H
def cH:OpR X (binaryOp .Add) (nE X.K):=by
 intro pins s σ H x y v u Q I rx ry h
 obtain⟨a,b,ys,rfl,rfl,ha,hb,q⟩:=h
 cases rx
 cases ry
 obtain⟨its,r1,p1,_⟩:=I.tuple ha
 obtain⟨its2,r2,p2,_⟩:=I.tuple hb
 have e0:its=[]:=r1.N2.mpr rfl
 subst e0
 obtain⟨⟨cls,dd,data,sl⟩,ho,hc,n,hd⟩:=id p1
 obtain⟨⟨cls2,dd2,data2,sl2⟩,ho2,hc2,n2,hd2⟩:=id p2
 simp only at hc hd hc2 hd2
 subst hc hd hc2 hd2
 exact concat_meets ⟨_,ho,rfl⟩ ⟨_,ho2,rfl⟩ AAu AB3 zG y8 (yp _ _)
  (tuple_addW0 a b #[] its2.toArray n n2 dd dd2 sl sl2 rfl) ⟨ho,ho2,⟨.ref b,H,I,rfl,q⟩⟩
end St
end
noncomputable section
namespace Mi
open PySem PySem.Spec L2
inductive D where
 |non|bl (b:vZ)|int (i:Int)|str (x:Str)|ty (n:xq)|tup (ds:Wp D)|lst (ds:Wp D)|dct (kvs:Wp (Key×D))|scr (ns:Wp Int)|ref (n:Nat)
inductive Wv where
 |val (d:D)|own (ds:Wp D)
inductive Cl where
 |lst (ds:Wp D)|dct (kvs:Wp (Key×D))|tab (x:Str)|ins (C:Str) (fs:Wp (Str×D))
abbrev Sto:=Wp Cl
structure Ms where
 cel:Wp uf
 tmp:Wp uf
def Ms.mem(M:Ms)(a:uf):Prop:=a∈M.cel\/a∈M.tmp
noncomputable def Ms.no:Ms:=⟨[],[]⟩
def KL(K:W1)(a:uf)(xs:Wp V):Prop:=∃(o:Obj) (its:yo uX) (n:Nat),K.lookup a=Gc o/\o.cls=.type "list" /\o.dict=none/\o.data=.seq its n/\its.size<=sizeLine/\Vals xs its.toList
mutual
inductive BM(K:W1)(M:Ms)(H:Hp):V->D->Prop
 |non:BM K M H .non .non
 |bl (b:vZ):BM K M H (.bl b) (.bl b)
 |int (i:Int):BM K M H (.int i) (.int i)
 |str (x:Str):BM K M H (.str x) (.str x)
 |ty (n:xq):BM K M H (.ty n) (.ty n)
 |tup {a:uf} {xs:Wp V} {ds:Wp D} (h:SqT K H a xs) (r:Ae K M H xs ds):BM K M H (.ref a) (.tup ds)
 |lst {a:uf} {xs:Wp V} {ds:Wp D} (h:H a=Gc (.lst xs)) (n:¬M.mem a) (r:Ae K M H xs ds):BM K M H (.ref a) (.lst ds)
 |scr {a:uf} {ns:Wp Int} (h:(Rd H a (.lst (ns.map V.int))/\¬M.mem a)\/KL K a (ns.map V.int)):BM K M H (.ref a) (.scr ns)
 |dct {a:uf} {kvs:Wp (Key×V)} {es:Wp (Key×D)} (h:H a=Gc (.dK kvs)) (n:¬M.mem a) (r:B6 K M H kvs es):BM K M H (.ref a) (.dct es)
 |ref {a:uf} {n:Nat} (h:M.cel[n]?=Gc a):BM K M H (.ref a) (.ref n)
inductive Ae(K:W1)(M:Ms)(H:Hp):Wp V->Wp D->Prop
 |nil:Ae K M H [] []
 |cons {v:V} {d:D} {vs:Wp V} {ds:Wp D} (h:BM K M H v d) (t:Ae K M H vs ds):Ae K M H (v::vs) (d::ds)
inductive B6(K:W1)(M:Ms)(H:Hp):Wp (Key×V)->Wp (Key×D)->Prop
 |nil:B6 K M H [] []
 |cons {k:Key} {v:V} {d:D} {vs:Wp (Key×V)} {ds:Wp (Key×D)} (h:BM K M H v d) (t:B6 K M H vs ds):B6 K M H ((k,v)::vs) ((k,d)::ds)
end
def Mob:HO->Prop
 | .lst _=>AAI
 | .dK _=>AAI
 | .tbl _=>AAI
 | .ins _ _ _=>AAI
 |_=>wH
def MOk(M:Ms)(H:Hp):Prop:=∀a,M.mem a->∃o,H a=Gc o/\Mob o
structure Sp1(M:Ms)(H:Hp)(M':Ms)(H':Hp):Prop where
 mo:MOk M H
 pre:M.cel <+: M'.cel
 fresh:∀a,M'.mem a->M.mem a\/H a=none
 keep:∀a o,H a=Gc o->¬M.mem a->H' a=Gc o
structure Gr(M:Ms)(H:Hp)(M':Ms)(H':Hp):Prop where
 mo:MOk M H
 pre:M.cel <+: M'.cel
 tmp:M'.tmp=M.tmp
 fresh:∀a,a∈M'.cel->a∈M.cel\/H a=none
 keep:∀a o,H a=Gc o->a∉M.cel->H' a=Gc o
 some:∀a,H a≠none->H' a≠none
section
variable{M M' M2:Ms}{H H' H2:Hp}
def MOk.some(mo:MOk M H)(h:M.mem a):H a≠none:=λz=>by
 obtain⟨o,e,_⟩:=mo a h
 rw[e]at z;cases z
def MOk.at(mo:MOk M H)(k:∀b o,H b=Gc o->H' b=Gc o)(h:M.mem a):∃o,H' a=Gc o/\Mob o:=(mo a h).imp λo z=>⟨k a o z.1,z.2⟩
def Gr.st(g:Gr M H M' H'):Sp1 M H M' H':=⟨g.mo,g.pre,λa z=>z.elim (λz=>(g.fresh a z).imp .inl id) λz=>.inl (.inr (by rw[<-g.tmp];exact z)),λa o e n=>g.keep a o e λz=>n (.inl z)⟩
def Gr.refl(mo:MOk M H):Gr M H M H:=⟨mo,vj,rfl,λ_ z=>.inl z,λ_ _ e _=>e,λ_ e=>e⟩
def Gr.none(g:Gr M H M' H')(h:H' a=none):H a=none:=by
 cases e:H a with
 |none=>rfl
 |some o=>exact absurd h (g.some a (by rw[e];intro z;cases z))
def Gr.trans(h:Gr M H M' H')(g:Gr M' H' M2 H2):Gr M H M2 H2:=
 ⟨h.mo,h.pre.trans g.pre,g.tmp.trans h.tmp,λa z=>(g.fresh a z).elim (h.fresh a) λz=>.inr (h.none z),λa o e n=>g.keep a o (h.keep a o e n) (λz=>by
   rcases h.fresh a z with z|z
   .exact n z
   .rw[e]at z;cases z),λa e=>g.some a (h.some a e)⟩
def Gr.grow(mo:MOk M H)(k:∀a o,H a=Gc o->H' a=Gc o):Gr M H M H':=
 ⟨mo,vj,rfl,λ_ z=>.inl z,λb u eb _=>k b u eb,λb eb z=>by
   cases h:H b with
   |none=>exact eb h
   |some o=>rw[k b o h]at z;cases z⟩
def MQ{α:Type}{xs ys:Wp α}(h:xs <+: ys){n:Nat}{a:α}(e:xs[n]?=Gc a):ys[n]?=Gc a:=by
 obtain⟨zs,rfl⟩:=h
 rw[uT (ua.mp e).1]
 exact e
def Sp1.Ub(g:Sp1 M H M' H')(e:H a=Gc o)(n:¬Mob o):H' a=Gc o:=g.keep a o e λz=>by
 obtain⟨u,q,m⟩:=g.mo a z
 rw[e]at q;cases q;exact n m
def Sp1.sqT(g:Sp1 M H M' H')(h:SqT K H a xs):SqT K H' a xs:=by
 rcases h with h|h
 .rcases h with h|⟨o,h⟩
  .exact .inl (.inl (g.Ub h id))
  .exact .inl (.inr ⟨o,g.Ub h id⟩)
 .exact .inr h
def Sp1.nm(g:Sp1 M H M' H')(e:H a=Gc o)(n:¬M.mem a):¬M'.mem a:=λz=>by
 rcases g.fresh _ z with z|z
 .exact n z
 .rw[z]at e;cases e
def BM.step(g:Sp1 M H M' H')(h:BM K M H v d):BM K M' H' v d:=
 BM.rec (motive_1:=λv d _=>BM K M' H' v d) (motive_2:=λv d _=>Ae K M' H' v d) (motive_3:=λv d _=>B6 K M' H' v d) .non .bl .int .str .ty (λh _ r=>.tup (g.sqT h) r) (λh n _ r=>.lst (g.keep _ _ h n) (g.nm h n) r) (λh=>by
  rcases h with⟨h,n⟩|h
  .rcases h with h|⟨o,h⟩
   .exact .scr (.inl ⟨.inl (g.keep _ _ h n),g.nm h n⟩)
   .exact .scr (.inl ⟨.inr ⟨o,g.keep _ _ h n⟩,g.nm h n⟩)
  .exact .scr (.inr h)) (λh n _ r=>.dct (g.keep _ _ h n) (g.nm h n) r) (λh=>.ref (MQ g.pre h)) .nil (λ_ _ h t=>.cons h t) .nil (λ_ _ h t=>.cons h t) h
def Ae.ind{P:Wp V->Wp D->Prop}(n:P [] [])(c:∀{v} {d} {vs} {ds},BM K M H v d->P vs ds->P (v::vs) (d::ds))(h:Ae K M H vs ds):P vs ds:=
 Ae.rec (motive_1:=λ_ _ _=>AAI) (motive_2:=λv d _=>P v d) (motive_3:=λ_ _ _=>AAI) trivial (λ_=>trivial) (λ_=>trivial) (λ_=>trivial) (λ_=>trivial) (λ_ _ _=>trivial) (λ_ _ _ _=>trivial) (λ_=>trivial) (λ_ _ _ _=>trivial) (λ_=>trivial) n (λh _ _ t=>c h t) trivial (λ_ _ _ _=>trivial) h
def B6.ind{P:Wp (Key×V)->Wp (Key×D)->Prop}(n:P [] [])(c:∀{k} {v} {d} {vs} {ds},BM K M H v d->P vs ds->P ((k,v)::vs) ((k,d)::ds))(h:B6 K M H vs ds):P vs ds:=
 B6.rec (motive_1:=λ_ _ _=>AAI) (motive_2:=λ_ _ _=>AAI) (motive_3:=λv d _=>P v d) trivial (λ_=>trivial) (λ_=>trivial) (λ_=>trivial) (λ_=>trivial) (λ_ _ _=>trivial) (λ_ _ _ _=>trivial) (λ_=>trivial) (λ_ _ _ _=>trivial) (λ_=>trivial) trivial (λ_ _ _ _=>trivial) n (λh _ _ t=>c h t) h
def Ae.step(g:Sp1 M H M' H')(h:Ae K M H v d):Ae K M' H' v d:=h.ind .nil λh t=>.cons (h.step g) t
def B6.step(g:Sp1 M H M' H')(h:B6 K M H v d):B6 K M' H' v d:=h.ind .nil λh t=>.cons (h.step g) t
def Ae.length(h:Ae K M H v d):v.length=d.length:=h.ind (P:=λv d=>v.length=d.length) rfl λ_ t=>congrArg (· +1) t
def Ae.get{i:Nat}(h:Ae K M H v d):d[i]?=Gc y->∃x,v[i]?=Gc x/\BM K M H x y:=
 h.ind (P:=λv d=>∀i,d[i]?=Gc y->∃x,v[i]?=Gc x/\BM K M H x y) (λi e=>by simp at e) (λh t i e=>by
  cases i with
  |zero=>simp at e;subst e;exact⟨_,rfl,h⟩
  |succ i=>exact t i e) i
def Ae.append(h:Ae K M H v d)(s:Ae K M H v' d'):Ae K M H (v++v') (d++d'):=h.ind (P:=λv d=>Ae K M H (v++v') (d++d')) s λh t=>.cons h t
def Ae.take n(h:Ae K M H v d):Ae K M H (v.take n) (d.take n):=h.ind (P:=λv d=>∀n,Ae K M H (v.take n) (d.take n)) (λn=>by rw[List.take_nil,List.take_nil];exact .nil) (λh t n=>by
 cases n with
 |zero=>exact .nil
 |succ n=>exact .cons h (t n)) n
def Ae.drop n(h:Ae K M H v d):Ae K M H (v.drop n) (d.drop n):=h.ind (P:=λv d=>∀n,Ae K M H (v.drop n) (d.drop n)) (λn=>by rw[List.drop_nil,List.drop_nil];exact .nil) (λh t n=>by
 cases n with
 |zero=>exact .cons h (t 0)
 |succ n=>exact t n) n
theorem Ae.set(r:BM K M H x y):∀{v} {d} i,Ae K M H v d->Ae K M H (v.set i x) (d.set i y)
 |_,_,_,.nil=>.nil
 |_,_,0,.cons _ t=>.cons r t
 |_,_,i+1,.cons q t=>.cons q (Ae.set r i t)
end
abbrev En:=Wp (uR D)
abbrev Sg:=Wp (uR V)
structure EnR(K:W1)(M:Ms)(E:En)(σ:Sg)(H:Hp):Prop where
 len:E.length=σ.length
 val:∀(i:Nat) (d:D),E[i]?=Gc (Gc d)->∃v,σ[i]?=Gc (Gc v)/\BM K M H v d
noncomputable def Lm(x:Str):Str:=(x++(".<locals>.":Str))++("<lambda>":Str)
def KO(K:W1)(c P:uf):Prop:=
 ∃o vs file tf flags tg inF text tt,K.lookup c=Gc o/\o.cls=AAH "code" /\o.data=Data.fields vs/\vs[11]?=Gc (u5 P)/\vs.getD 11 vL=u5 P/\vs.getD 18 vL=AAF file tf/\vs.getD 7 vL=AAE flags tg/\vs.getD 9 vL=AAG inF/\vs.getD 10 vL=AAE text tt/\c≠P
def TabAt(K:W1)(x:Str)(P:uf):Prop:=
 ∃f oc od fd osl c,vF K mainGlobals x=Gc (Gc (u5 f))/\K.lookup f=Gc ⟨oc,od,Data.func fd,osl⟩/\fd.code=u5 c/\KO K c P
def Ut(q:Str)(o:Obj):Prop:=∃vs t,o.data=Data.fields vs/\vs[1]?=Gc (AAF q t)
structure Tp(K:W1)(H:Hp)(x:Str)(P:uf)(ps:yo uX):Prop where
 tri:PySem.TriplesOk ps.toList
 tat:TabAt K x P
 cod:∀pos cv,PySem.codeAmong pos ps.toList=Gc cv->∃c o,cv=u5 c/\H c=Gc (.frz o (.own 0))/\Ut (Lm x) o
def Tp.step(t:Tp K H x P ps)(g:Sp1 M H M' H'):Tp K H' x P ps:=⟨t.tri,t.tat,λpos cv e=>by
 obtain⟨c,o,h1,h2,h3⟩:=t.cod pos cv e
 exact⟨c,o,h1,g.Ub h2 id,h3⟩⟩
def Qr(K:W1)(M:Ms)(H:Hp)(a:uf):Cl->Prop
 | .lst ds=>∃xs,H a=Gc (.lst xs)/\Ae K M H xs ds
 | .dct es=>∃kvs,H a=Gc (.dK kvs)/\B6 K M H kvs es
 | .tab x=>∃ps,H a=Gc (.tbl ps)/\Tp K H x a ps
 | .ins C fs=>∃Ca dx fv,vF K mainGlobals C=Gc (Gc (.ref Ca))/\H a=Gc (.ins Ca dx fv)/\H dx=Gc (.own a)/\fv.map (·.1)=fs.map (·.1)/\Ae K M H (fv.map (·.2)) (fs.map (·.2))
structure StR(K:W1)(M:Ms)(S:Sto)(H:Hp):Prop where
 mo:MOk M H
 nd:M.cel.Nodup
 nt:∀a∈M.tmp,a∉M.cel
 len:M.cel.length=S.length
 cell:∀(n:Nat) (a:uf) (c:Cl),M.cel[n]?=Gc a->S[n]?=Gc c->Qr K M H a c
def Qr.step(q:Qr K M H a c)(g:Sp1 M H M' H')(k:∀o,H a=Gc o->H' a=Gc o):Qr K M' H' a c:=by
 cases c with
 |lst ds=>obtain⟨xs,e,rr⟩:=q;exact⟨xs,k _ e,rr.step g⟩
 |dct ds=>obtain⟨xs,e,rr⟩:=q;exact⟨xs,k _ e,rr.step g⟩
 |tab ds=>obtain⟨xs,e,rr⟩:=q;exact⟨xs,k _ e,rr.step g⟩
 |ins C fs=>obtain⟨Ca,dx,fv,h,e,eo,n,rr⟩:=q;exact⟨Ca,dx,fv,h,k _ e,g.Ub eo id,n,rr.step g⟩
def EnR.step(r:EnR K M E σ H)(g:Sp1 M H M' H'):EnR K M' E σ H':=⟨r.len,λi d e=>by
 obtain⟨v,h1,h2⟩:=r.val i d e
 exact⟨v,h1,h2.step g⟩⟩
def StR.at(r:StR K M S H){n:Nat}(e:S[n]?=Gc c):∃a,M.cel[n]?=Gc a/\Qr K M H a c:=by
 have hn:n<M.cel.length:=by rw[r.len];exact(ua.mp e).1
 exact⟨_,uS hn,r.cell n _ c (uS hn) e⟩
def StR.grow(r:StR K M S H)(k:∀a o,H a=Gc o->H' a=Gc o):StR K M S H':=by
 have g:Sp1 M H M H':=⟨r.mo,vj,λ_ z=>.inl z,λa o e _=>k a o e⟩
 refine⟨λa z=>r.mo.at k z,r.nd,r.nt,r.len,λn a c h1 h2=>?_⟩
 exact(r.cell n a c h1 h2).step g λo e=>k _ _ e
def StR.chg(r:StR K M S H)(h1:M.cel[n]?=Gc a)(h2:S[n]?=Gc (.lst ds))(hy:Ae K M H ys es):StR K M (S.set n (.lst es)) (upd H a (.lst ys))/\Gr M H M (upd H a (.lst ys)):=by
 have ha:a∈M.cel:=uv h1
 have hl:n<S.length:=(ua.mp h2).1
 have g:Gr M H M (upd H a (.lst ys)):=⟨r.mo,vj,rfl,λ_ z=>.inl z,λb o eb nb=>by rw[AM (λz=>nb (by rw[z];exact ha))];exact eb,λb eb=>by
  by_cases h:b=a
  .subst h;rw[AX];intro z;cases z
  .rw[AM h];exact eb⟩
 refine⟨⟨λb z=>?_,r.nd,r.nt,by rw[wU];exact r.len,λm b c e1 e2=>?_⟩,g⟩
 .by_cases h:b=a
  .subst h;exact⟨_,AX,trivial⟩
  .rw[AM h];exact r.mo b z
 .by_cases h:n=m
  .subst h
   rw[h1]at e1;cases e1
   rw[uh hl]at e2;cases e2
   exact⟨ys,AX,hy.step g.st⟩
  .rw[uV h]at e2
   have hb:b≠a:=λz=>by
    subst z
    exact h ((yW (ua.mp h1).1 r.nd).mp (h1.trans e1.symm))
   exact(r.cell m b c e1 e2).step g.st λo e=>by rw[AM hb];exact e
def StR.dO(r:StR K M S H)(e:H a=none)(k:∀b o,H b=Gc o->H' b=Gc o)(ea:H' a=Gc (.lst xs))(rr:Ae K M H xs ds):StR K ⟨M.cel++[a],M.tmp⟩ (S++[.lst ds]) H'/\Gr M H ⟨M.cel++[a],M.tmp⟩ H':=by
 have g:Gr M H ⟨M.cel++[a],M.tmp⟩ H':=⟨r.mo,xS _ _,rfl,λb z=>by
  rcases vD.mp z with z|z
  .exact .inl z
  .simp at z;subst z;exact .inr e,λb o eb _=>k b o eb,λb eb z=>by
  cases h:H b with
  |none=>exact eb h
  |some o=>rw[k b o h]at z;cases z⟩
 have na:¬M.mem a:=λz=>r.mo.some z e
 refine⟨⟨λb z=>?_,?_,λb hb z=>?_,by simp[r.len],λm b c e1 e2=>?_⟩,g⟩
 .have z':M.mem b\/b=a:=by
   rcases z with z|z
   .rcases vD.mp z with z|z
    .exact .inl (.inl z)
    .simp at z;exact .inr z
   .exact .inl (.inr z)
  rcases z' with z|z
  .exact r.mo.at k z
  .subst z;exact⟨_,ea,trivial⟩
 .rw[yX]
  refine⟨r.nd,by simp,λx hx y hy=>?_⟩
  simp at hy;subst hy
  exact λz=>na (.inl (by rw[<-z];exact hx))
 .rcases vD.mp z with z|z
  .exact r.nt b hb z
  .simp at z;subst z;exact na (.inr hb)
 .by_cases h:m<S.length
  .rw[uT (by rw[r.len];exact h)]at e1
   rw[uT h]at e2
   exact(r.cell m b c e1 e2).step g.st λo e=>k _ _ e
  .have hm:m=S.length:=by
    have:=(ua.mp e2).1
    simp at this;lia
   subst hm
   rw[vI (by rw[r.len];exact uc _)]at e1
   rw[vI (uc _)]at e2
   rw[r.len]at e1
   simp at e1 e2
   subst e1 e2
   exact⟨xs,ea,rr.step g.st⟩
noncomputable def sG:uR AAt->vZ
 |some .local=>true
 |some .cell=>true
 |some .free=>true
 |_=>false
noncomputable def pA(sc:wX)(x:Str):vZ:=sG (sc.names.lookup x)
def gC(h:pA sc x=true):Vis sc x:=by
 unfold pA at h
 unfold Vis
 cases e:sc.names.lookup x with
 |none=>rw[e]at h;cases h
 |some k=>
  rw[e]at h
  cases k<;>first|(cases h;done)|simp
abbrev Ev:=En->Sto->uR (D×Sto)
inductive tD(K:W1)(f:Ev)(σ:Sg)(H:Hp)(Q:VK):Prop
 |mk (M:Ms) (E:En) (S:Sto) (d:D) (S':Sto) (e:f E S=Gc (d,S')) (r:EnR K M E σ H) (st:StR K M S H) (q:∀v H' M',Gr M H M' H'->StR K M' S' H'->BM K M' H' v d->Q v H')
structure DE(X:Cx)(e:vi)(f:Ev):Prop where
 pe:PE X e (tD X.K f)
def Ax(h:PE X e t)(m:∀σ H Q,t' σ H Q->t σ H Q):PE X e t':=λpins s σ H Q I q=>h pins s σ H Q I (m _ _ _ q)
def UJ(h:PT X e t)(m:∀σ H Q,t' σ H Q->t σ H Q):PT X e t':=λpins s σ H Q I q=>h pins s σ H Q I (m _ _ _ q)
def EK(h:tD K f σ H Q)(m:∀v H',Q v H'->Q' v H'):tD K f σ H Q':=by
 obtain⟨M,E,S,d,S',e,r,st,q⟩:=h
 exact⟨M,E,S,d,S',e,r,st,λv H' M' g s r=>m _ _ (q v H' M' g s r)⟩
def Ac{α β:Type}{o:uR α}{k:α->uR β}{y:β}(e:o.bind k=Gc y):∃x,o=Gc x/\k x=Gc y:=by
 cases o with
 |none=>cases e
 |some x=>exact⟨x,rfl,e⟩
def IV{α β:Type}{o:uR α}{k:α->β}{y:β}(e:o.map k=Gc y):∃x,o=Gc x/\k x=y:=by
 cases o with
 |none=>cases e
 |some x=>cases e;exact⟨x,rfl,rfl⟩
noncomputable def fz:Wv->D
 | .val d=>d
 | .own ds=>.lst ds
noncomputable def at?(E:En)(i:Nat):uR D:=(E[i]?).join
def at?_some(h:at? E i=Gc w):E[i]?=Gc (Gc w):=by
 unfold at? at h
 cases e:E[i]? with
 |none=>rw[e]at h;cases h
 |some q=>rw[e]at h;exact congrArg Gc h
noncomputable def evs:Wp Ev->En->Sto->uR (Wp D×Sto)
 | [],_,S=>Gc ([],S)
 |f::fs,E,S=>(f E S).bind λr=>(evs fs E r.2).map λq=>(r.1::q.1,q.2)
noncomputable def tDs(K:W1):Wp Ev->TA
 | []=>oq
 |f::fs=>jb (tD K f) (tDs K fs)
structure DEs(X:Cx)(es:Wp vi)(fs:Wp Ev):Prop where
 pe:PA X es (tDs X.K fs)
def AI:DEs X [] []:=⟨NU⟩
def AD(h:DE X e f)(t:DEs X es fs)(hs:zn (ue (e::es) X.env=(false,eval e X.env)::ue es X.env) ww):DEs X (e::es) (f::fs):=⟨F5 h.pe t.pe hs⟩
section
variable{K:W1}{M M':Ms}{E:En}{S:Sto}{σ:Sg}{H H':Hp}
theorem Ee:∀{fs} {M} {S} {ds} {S'} {H} {Q},evs fs E S=Gc (ds,S')->EnR K M E σ H->StR K M S H->(∀vs H' M',Gr M H M' H'->StR K M' S' H'->Ae K M' H' vs ds->Q vs H')->tDs K fs σ H Q
 | [],M,S,ds,S',H,Q,e,r,st,q=>by
   cases e
   exact q [] H M (.refl st.mo) st .nil
 |f::fs,M,S,ds,S',H,Q,e,r,st,q=>by
  obtain⟨⟨d,S1⟩,e1,e⟩:=Ac e
  obtain⟨⟨es,S2⟩,e2,e⟩:=IV e
  cases e
  refine⟨M,E,S,d,S1,e1,r,st,λv H1 M1 g1 st1 d1=>?_⟩
  exact Ee e2 (r.step g1.st) st1 λvs H2 M2 g2 st2 d2=>q _ _ M2 (g1.trans g2) st2 (.cons (d1.step g2.st) d2)
theorem Hm:∀{fs} {S} {ds} {S'},evs fs E S=Gc (ds,S')->ds.length=fs.length
 | [],_,_,_,e=>by cases e;rfl
 |f::fs,S,ds,S',e=>by
  obtain⟨⟨d,S1⟩,e1,e⟩:=Ac e
  obtain⟨⟨es,S2⟩,e2,e⟩:=IV e
  cases e
  simp[Hm e2]
def Sh(K:W1)(M:Ms)(H:Hp)(v:V):Wv->Prop
 | .val d=>BM K M H v d
 | .own ds=>∃a xs,v=.ref a/\H a=Gc (.lst xs)/\Ae K M H xs ds
def ivP(K:W1)(M:Ms)(H:Hp)(v:V):D->Prop
 | .non=>v=.non
 | .bl b=>v=.bl b
 | .int i=>v=.int i
 | .str x=>v=.str x
 | .ty n=>v=.ty n
 | .tup ds=>∃a xs,v=.ref a/\SqT K H a xs/\Ae K M H xs ds
 |_=>AAI
def BM.iv(h:BM K M H v d):ivP K M H v d:=by
 cases h with
 |tup h r=>exact⟨_,_,rfl,h,r⟩
 |non=>rfl
 |bl=>rfl
 |int=>rfl
 |str=>rfl
 |ty=>rfl
 |_=>trivial
inductive Shs(K:W1)(M:Ms)(H:Hp):Wp V->Wp Wv->Prop
 |nil:Shs K M H [] []
 |cons {v:V} {w:Wv} {vs:Wp V} {ws:Wp Wv} (h:Sh K M H v w) (t:Shs K M H vs ws):Shs K M H (v::vs) (w::ws)
noncomputable def dr(S:Sto):D->Wv
 | .ref n=>match S[n]? with
   |some (.lst ds)=>.own ds
   |_=>.val (.ref n)
 |d=>.val d
def cG(st:StR K M S H)(h:BM K M H v d):Sh K M H v (dr S d):=by
 cases h with
 |ref h=>
  rename_i a n
  show Sh K M H (.ref a) (match S[n]? with|some (.lst ds)=>.own ds|_=>.val (.ref n))
  split
  .rename_i ds e
   obtain⟨xs,h1,h2⟩:=st.cell n a _ h e
   exact⟨a,xs,rfl,h1,h2⟩
  .exact .ref h
 |non=>exact .non
 |bl b=>exact .bl b
 |int b=>exact .int b
 |str b=>exact .str b
 |ty b=>exact .ty b
 |tup h r=>exact .tup h r
 |lst h n r=>exact .lst h n r
 |scr h=>exact .scr h
 |dct h n r=>exact .dct h n r
theorem Yt(st:StR K M S H):∀{vs} {ds},Ae K M H vs ds->Shs K M H vs (ds.map (dr S))
 |_,_,.nil=>.nil
 |_,_,.cons h t=>.cons (cG st h) (Yt st t)
def NwR(K:W1)(M:Ms)(H H':Hp)(v:V):Wv->Prop
 | .val d=>BM K M H' v d
 | .own ds=>∃a xs,v=.ref a/\H a=none/\H' a=Gc (.lst xs)/\Ae K M H xs ds
structure Nw(K:W1)(M:Ms)(H H':Hp)(v:V)(w:Wv):Prop where
 grow:∀a o,H a=Gc o->H' a=Gc o
 rel:NwR K M H H' v w
def Nw.same(mo:MOk M H)(h:BM K M H v d):Nw K M H H v (.val d):=⟨λ_ _ e=>e,h⟩
def CS(e:H a=none):∀b u,H b=Gc u->upd H a o b=Gc u:=λb u eb=>by rw[AM (λz=>by subst z;rw[e]at eb;cases eb)];exact eb
def Nw.lst(mo:MOk M H)(e:H a=none)(h:Ae K M H xs ds):Nw K M H (upd H a (.lst xs)) (.ref a) (.own ds):=⟨CS e,a,xs,rfl,e,AX,h⟩
def Nw.tup(mo:MOk M H)(e:H a=none)(h:Ae K M H xs ds):Nw K M H (upd H a (.tup xs)) (.ref a) (.val (.tup ds)):=⟨CS e,.tup (.of AX) (h.step (Gr.grow mo (CS e)).st)⟩
noncomputable def fin:vZ->Wv->Sto->uR (D×Sto)
 |_,.val d,S=>Gc (d,S)
 |false,.own ds,S=>Gc (.lst ds,S)
 |true,.own ds,S=>Gc (.ref S.length,S++[.lst ds])
def Nw.fin(n:Nw K M H H' v w)(st:StR K M S H)(e:fin c w S=Gc (d,S')):∃M',Gr M H M' H'/\StR K M' S' H'/\BM K M' H' v d:=by
 cases w with
 |val d'=>
  cases e
  exact⟨M,.grow st.mo n.grow,st.grow n.grow,n.rel⟩
 |own ds=>
  obtain⟨a,xs,rfl,h1,h2,h3⟩:=n.rel
  cases c with
  |false=>
   cases e
   exact⟨M,.grow st.mo n.grow,st.grow n.grow,.lst h2 (λz=>st.mo.some z h1) (h3.step (Gr.grow st.mo n.grow).st)⟩
  |true=>
   cases e
   obtain⟨s1,g1⟩:=st.dO h1 n.grow h2 h3
   refine⟨_,g1,s1,.ref ?_⟩
   rw[<-st.len]
   exact uy
abbrev Op1:=Wv->uR Wv
abbrev Op2:=Wv->Wv->uR Wv
abbrev OpN:=Wp Wv->uR Wv
inductive rOp(K:W1)(op:Op2)(x y:V)(H:Hp)(Q:VK):Prop
 |mk (M:Ms) (w1 w2 r:Wv) (e:op w1 w2=Gc r) (mo:MOk M H) (s1:Sh K M H x w1) (s2:Sh K M H y w2) (q:∀v H',Nw K M H H' v r->Q v H')
inductive rUn(K:W1)(op:Op1)(x:V)(H:Hp)(Q:VK):Prop
 |mk (M:Ms) (w r:Wv) (e:op w=Gc r) (mo:MOk M H) (s:Sh K M H x w) (q:∀v H',Nw K M H H' v r->Q v H')
inductive rN(K:W1)(op:OpN)(xs:Wp V)(H:Hp)(Q:VK):Prop
 |mk (M:Ms) (ws:Wp Wv) (r:Wv) (e:op ws=Gc r) (mo:MOk M H) (s:Shs K M H xs ws) (q:∀v H',Nw K M H H' v r->Q v H')
noncomputable def O0(c:vZ)(op:OpN)(fs:Wp Ev):Ev:=λE S=>(evs fs E S).bind λr=>(op (r.1.map (dr r.2))).bind λw=>fin c w r.2
abbrev eOp:=O0 false
abbrev fC:=O0 true
noncomputable def o1(op:Op1):OpN| [a]=>op a|_=>none
noncomputable def o2(op:Op2):OpN| [a,b]=>op a b|_=>none
def Nb(e:O0 c op fs E S=Gc (d,S'))(r:EnR K M E σ H)(st:StR K M S H)(h:∀v H' M',Gr M H M' H'->StR K M' S' H'->BM K M' H' v d->Q v H'):tDs K fs σ H λvs H1=>rN K op vs H1 Q:=by
 obtain⟨⟨ds,S1⟩,e1,e⟩:=Ac e
 obtain⟨w,e2,e⟩:=Ac e
 refine Ee e1 r st λvs H1 M1 g1 st1 d1=>⟨M1,_,w,e2,st1.mo,Yt st1 d1,λv H2 n=>?_⟩
 obtain⟨M2,g2,st2,d2⟩:=n.fin st1 e
 exact h v H2 M2 (g1.trans g2) st2 d2
end
def hU(h:rN K (o2 f) [x,y] H Q):rOp K f x y H Q:=by
 obtain⟨M,ws,r,e,mo,s,q⟩:=h
 cases s with
 |cons h1 s=>
  cases s with
  |cons h2 s=>
   cases s
   exact⟨M,_,_,r,e,mo,h1,h2,q⟩
def fT(h:rN K (o1 f) [x] H Q):rUn K f x H Q:=by
 obtain⟨M,ws,r,e,mo,s,q⟩:=h
 cases s with
 |cons h1 s=>
  cases s
  exact⟨M,_,r,e,mo,h1,q⟩
def RT(h:tD K (O0 c (o2 f) [fa,fb]) σ H Q):tOp (rOp K f) (tD K fa) (tD K fb) σ H Q:=by
 obtain⟨M,E,S,d,S',e,r,st,q⟩:=h
 have z:tD K fa σ H λx H1=>tD K fb σ H1 λy H2=>rN K (o2 f) [x,y] H2 Q:=Nb (Q:=Q) e r st q
 exact EK z λx H1 z1=>EK z1 λy H2 z2=>hU z2
def WG(h:tD K (O0 c (o1 f) [fa]) σ H Q):tUn (rUn K f) (tD K fa) σ H Q:=by
 obtain⟨M,E,S,d,S',e,r,st,q⟩:=h
 have z:tD K fa σ H λx H1=>rN K (o1 f) [x] H1 Q:=Nb (Q:=Q) e r st q
 exact EK z λx H1 z1=>fT z1
section
variable{X:Cx}{a b e:vi}{fs:Wp Ev}{pos p:Pos}{c:vZ}
def P5(ho:OpR X (binaryOp op) (rOp X.K f))(ha:DE X a fa)(hb:DE X b fb):DE X (.BinOp a op b pos) (O0 c (o2 f) [fa,fb]):=⟨Ax (nQ ho ha.pe hb.pe) λ_ _ _ h=>RT h⟩
def Pq(ho:OpR X (compareOp op) (rOp X.K f))(ha:DE X a fa)(hb:DE X b fb)(hm:zn (behindInMarks op b=false) ww):DE X (.Compare a [op] [b] pos) (O0 c (o2 f) [fa,fb]):=⟨Ax (dY ho ha.pe hb.pe hm) λ_ _ _ h=>RT h⟩
def nO(ho:UnR X (unaryOp op) (rUn X.K f))(ha:DE X a fa):DE X (.UnaryOp op a pos) (O0 c (o1 f) [fa]):=⟨Ax (nk ho ha.pe) λ_ _ _ h=>WG h⟩
def Fd(hr:IxR X (rOp X.K f))(ha:DE X a fa)(hb:DE X b fb)(hs:zn (OS b) wp):DE X (.Subscript a b pos) (O0 c (o2 f) [fa,fb]):=⟨Ax (bJ hr ha.pe hb.pe hs) λ_ _ _ h=>RT h⟩
def DF{id:xq}(hc:Eg X (.builtin id) (rN X.K f))(hg:Gl X x)(hm:X.mg x=none)(hv:bootBuiltins x=Gc (.builtin id))(ha:DEs X (e::es) fs)(hn:zn (x≠ "__name__") xz)(hdb:zn ((x==("__debug__":Str))=false) xz)(he:zn (ue (e::es) X.env=(false,eval e X.env)::ue es X.env) ww)(hpl:zn ((backTo pos (ue es X.env)).any (·.1)=false) ww):DE X (.Call (.Name x p) (e::es) [] pos) (O0 c f fs):=⟨
 Ax (YF hc hg hm hv ha.pe hn hdb he hpl) λ_ _ _ h=>by
  obtain⟨M,E,S,d,S',e,r,st,q⟩:=h
  exact Nb e r st q⟩
def Vg(hc:Eg X (.type T) (rN X.K f))(hg:Gl X x)(hm:X.mg x=none)(hv:bootBuiltins x=Gc (.type T))(ha:DEs X (e::es) fs)(hn:zn (x≠ "__name__") xz)(hdb:zn ((x==("__debug__":Str))=false) xz)(he:zn (ue (e::es) X.env=(false,eval e X.env)::ue es X.env) ww)(hpl:zn ((backTo pos (ue es X.env)).any (·.1)=false) ww):DE X (.Call (.Name x p) (e::es) [] pos) (O0 c f fs):=⟨
 Ax (UG hc hg hm hv ha.pe hn hdb he hpl) λ_ _ _ h=>by
  obtain⟨M,E,S,d,S',e,r,st,q⟩:=h
  exact Nb e r st q⟩
noncomputable def eC(d:D):Ev:=λ_ S=>Gc (d,S)
def O3(h:PE X e (tC v))(r:∀K M H,BM K M H v d):DE X e (eC d):=⟨Ax h λσ H Q z=>by
 obtain⟨M,E,S,w,S',e,rr,st,q⟩:=z
 cases e
 exact q _ _ M (.refl st.mo) st (r _ _ _)⟩
def BQ:DE X (.Constant (.int i) j pos) (eC (.int i)):=O3 iA λ_ _ _=>.int _
def Qa:DE X (.Constant (.bool i) j pos) (eC (.bl i)):=O3 oO λ_ _ _=>.bl _
def Df:DE X (.Constant (.str i) j pos) (eC (.str i)):=O3 Nd λ_ _ _=>.str _
def Jt:DE X (.Constant .none j pos) (eC .non):=O3 kC λ_ _ _=>.non
noncomputable def eV(i:Nat):Ev:=λE S=>(at? E i).map λd=>(d,S)
def AH i(hN:zn (X.N[i]?=Gc x) ww)(hv:zn (pA X.env.scope x=true) ww)(hd:zn ((x==("__debug__":Str))=false) xz)(hcd:zn ((x==("__classdict__":Str))=false) xz):DE X (.Name x pos) (eV i):=⟨Ax (IZ hN (gC hv) hd hcd) λσ H Q z=>by
 obtain⟨M,E,S,d,S',e,r,st,q⟩:=z
 obtain⟨d',e1,e⟩:=IV e
 cases e
 obtain⟨v,hv,rd⟩:=r.val i d (at?_some e1)
 exact⟨v,hv,q v H M (.refl st.mo) st rd⟩⟩
end
def HB:fillsNumberSlot (.type "tuple") "mul"=pure false:=
 fillsNumberSlot_seq (id:="tuple.__mul__") (r:=Gc (.builtin "tuple.__rmul__")) zZ.lookup (by decide+kernel) F.slot_tuple_rmul.lookup (by decide+kernel)
def Kx:seqRepeat? (.type "tuple")=pure (Gc (.builtin "tuple.__mul__")):=by
 unfold seqRepeat?
 rw[seqSlot_of (T:="tuple") (name:="__mul__") (id:="tuple.__mul__") zZ.lookup (by decide+kernel),seqSlot_of (T:="tuple") (name:="__rmul__") (id:="tuple.__rmul__") F.slot_tuple_rmul.lookup (by decide+kernel)]
 rfl
def Ic a(t:Tok) l items n dd sl:Meets (zK.«int.__rmul__» ⟨[.int a t,.ref l],[]⟩) (λ_ R s=>s.heap.get? l=Gc {cls:=.type "tuple",dict:=dd,data:=.seq items n,slots:=sl}/\R (.ok (.ret Value.notImplemented)) s):=
 .of_wp λprog w A R s h=>by obtain⟨hp,g,d,tk,os⟩:=s;obtain⟨hl,h⟩:=h;wp_walk;exact⟨_,rfl,h⟩
def P4(its:Wp uX) m:ACE (λx1 x2=>x1++x2) #[] (uo m its.toArray)=(uo m its).flatten.toArray:=by
 have:=foldl_rep its m []
 rw[vK]at this
 exact this
def Z5:OpR X (binaryOp .Mult) (λx y H Q=>∃a xs k,x=.ref a/\y=.int k/\SqT X.K H a xs/\xs≠[]/\1<=k/\xs.length*k.toNat<=sizeLine/\(k=1->Q (.ref a) H)/\(k≠1->∀p,H p=none->Q (.ref p) (upd H p (.tup (uo k.toNat xs).flatten)))):=by
 intro pins s σ H x y v u Q I rx ry h
 obtain⟨a,xs,k,rfl,rfl,hx,hne,hk,hz,q1,q2⟩:=h
 cases rx
 obtain⟨t,rfl⟩:=ry
 obtain⟨its,r,⟨⟨c,dd,data,sl⟩,ho,hc,n,hd⟩,hzz⟩:=I.tuple hx
 simp only at hc hd
 subst hc hd
 have hl:=r.length
 have hsz:its.toArray.size=xs.length:=by rw[uq];exact hl.symm
 have hpos:0<xs.length:=ABv.mpr hne
 have hkl:k.toNat<=sizeLine:=uZ (Nat.le_mul_of_pos_left _ hpos) hz
 have hk63:k<2^63:=by
  have:(sizeLine:Nat)<2^63:=by decide
  lia
 refine yj (T:="tuple") (U:="int") (by decide) ⟨_,ho,rfl⟩ (λs'=>zX s' k t) HB ABK yM Kx AAw.lookup
  (zY yM (zX s k t) AAx (AAh _ _) (Ic k t a its.toArray n dd sl) ⟨ho,rfl,⟨_,ho,rfl⟩,?_⟩)
 refine wk zZ ⟨_,ho,rfl⟩ F.entry_tuple_mul ?_ (ACH _ _)
 unfold zK.«tuple.__mul__»
 wp_walk using u9 ho
 rw[vB (show¬(decide (k< -2^63)||decide (k≥2^63))=true by
  rw[vv]
  rintro (z|z)
  .have:=ur z;lia
  .have:=ur z;lia)]
 wp_walk using u9 ho
 by_cases h1:k=1
 .subst h1
  rw[vC (show(its.toArray.isEmpty||(1:Int)==1)=true by simp)]
  wp_walk using u9 ho
  exact⟨_,rfl,.ref a,H,I,rfl,q1 rfl⟩
 .have hemp:its.toArray.isEmpty=false:=by
   cases its with
   |nil=>rw[xf]at hl;lia
   |cons b bs=>rfl
  rw[vB (show¬(its.toArray.isEmpty||k==1)=true by rw[hemp];simpa using h1)]
  wp_walk using u9 ho
  have hmul:((its.toArray.size:Int)*k)=((xs.length*k.toNat:Nat):Int):=by
   rw[hsz,ABM]
   congr 1
   lia
  rw[vB (show¬(decide (k<=0)||its.toArray.isEmpty)=true by
   rw[hemp,Bool.or_false]
   intro z
   have:=ur z
   lia)]
  wp_walk
  rw[vB (show¬((its.toArray.size:Int)*k>(2^63-1) / 8) by
   rw[hmul]
   have:(sizeLine:Nat)<=(2^63-1) / 8:=by decide
   lia)]
  wp_walk
  rw[vB (show¬AAU ((its.toArray.size:Int)*k)=true by
   unfold AAU
   rw[hmul]
   intro z
   have:=ur z
   lia)]
  rw[P4]
  wp_walk
  have hlen:(uo k.toNat its).flatten.length<=sizeLine:=by rw[len_rep,yF,<-hl];exact hz
  rw[vB (show¬((uo k.toNat its).flatten.toArray.size>sizeLine) by rw[uq];lia)]
  wp_walk
  refine⟨_,rfl,.ref _,_,I.laid (o:=.tup (uo k.toNat xs).flatten) (t':=s.toks) (λb ob q=>uQ _ q) (uc _) ?_,rfl,q2 h1 _ (I.hok.fresh (uc _))⟩
  exact⟨by rw[len_rep,yF];exact hz,_,r.rep k.toNat,yl _ _⟩
mutual
noncomputable def D.py:D->PyData
 | .non=>.none| .bl b=>.bool b| .int i=>.int i| .str x=>.str x| .ty _=>.none
 | .tup ds=>.tuple (D.pys ds)| .lst ds=>.list (D.pys ds)| .dct _=>.none| .scr _=>.none| .ref _=>.none
noncomputable def D.pys:Wp D->Wp PyData
 | []=>[]
 |d::ds=>D.py d::D.pys ds
end
mutual
noncomputable def D.lay:D->vZ
 | .non=>true| .bl _=>true| .int _=>true| .str x=>yR x| .ty _=>false| .dct _=>false| .scr _=>false| .ref _=>false
 | .tup ds=>D.Ox ds| .lst ds=>D.Ox ds
noncomputable def D.Ox:Wp D->vZ
 | []=>true
 |d::ds=>D.lay d && D.Ox ds
end
mutual
theorem Kl:∀{d:D},d.lay=true->d.py.canLay0=true
 | .non,_=>rfl
 | .bl _,_=>rfl
 | .int _,_=>rfl
 | .str x,h=>h
 | .ty _,h=>wq h
 | .dct _,h=>wq h
 | .scr _,h=>wq h
 | .ref _,h=>wq h
 | .tup ds,h=>by show zM (D.pys ds)=true;exact Oi h
 | .lst ds,h=>by show zM (D.pys ds)=true;exact Oi h
theorem Oi:∀{ds:Wp D},D.Ox ds=true->zM (D.pys ds)=true
 | [],_=>rfl
 |d::ds,h=>by
  have h':(D.lay d && D.Ox ds)=true:=h
  rw[ub]at h'
  show(PyData.canLay0 d.py && zM (D.pys ds))=true
  rw[Kl h'.1,Oi h'.2];rfl
end
section
variable{X:Cx}{pins:Wp (uf×Obj)}{σ:Sg}{H:Hp}{s:ui}{M:Ms}
def MV(I:Inv X pins σ H s)(h:Rd H a (.lst xs)):∃its,Vals xs its/\∃o n,s.heap.get? a=Gc o/\o.cls=.type "list" /\o.data=.seq its.toArray n:=by
 obtain⟨z,its,n,r,e⟩:=h.ok I.hok
 exact⟨its,r,_,n,e,rfl,rfl⟩
def BM.reads(I:Inv X pins σ H s)(h:BM X.K M H v d):∀{u},RelV v u->d.lay=true->∃as,Reads s.heap u d.py as:=
 BM.rec (motive_1:=λv d _=>∀{u:uX},RelV v u->d.lay=true->∃as,Reads s.heap u d.py as) (motive_2:=λvs ds _=>∀{us:Wp uX},Vals vs us->D.Ox ds=true->∃as,ReadsAll s.heap us (D.pys ds) as) (motive_3:=λ_ _ _=>AAI)
  (λr _=>by cases r;exact⟨_,.none⟩) (λb _ r _=>by cases r;exact⟨_,.bool b⟩) (λb _ r _=>by obtain⟨t,rfl⟩:=r;exact⟨_,.int b t⟩) (λb _ r _=>by obtain⟨t,rfl⟩:=r;exact⟨_,.str b t⟩) (λ_ _ _ h=>wq h)
  (fun h _ ih _ r hl => by
    cases r
    obtain⟨its,rv,⟨o,e,hc,n,hd⟩,_⟩:=I.tuple h
    obtain⟨as,ra⟩:=ih rv hl
    exact⟨as,.tuple e hc hd ra⟩)
  (fun h _ _ ih _ r hl => by
    cases r
    obtain⟨its,rv,o,n,e,hc,hd⟩:=MV I (.inl h)
    obtain⟨as,ra⟩:=ih rv hl
    exact⟨_,.list e hc hd ra⟩)
  (λ_ _ _ h=>wq h) (λ_ _ _ _ _ _ h=>wq h) (λ_ _ _ h=>wq h)
  (fun r _ => by cases r; exact ⟨_, .nil⟩) (fun {v d vs ds} _ _ ih1 ih2 _ r hl => by
    cases r with
    |cons r1 r2=>
     have hl':(D.lay d && D.Ox ds)=true:=hl
     rw[ub]at hl'
     obtain⟨as,ra⟩:=ih1 r1 hl'.1
     obtain⟨bs,rb⟩:=ih2 r2 hl'.2
     exact⟨_,.cons ra rb⟩) trivial (λ_ _ _ _=>trivial) h
def Ae.reads(I:Inv X pins σ H s)(h:Ae X.K M H vs ds):∀{us},Vals vs us->D.Ox ds=true->∃as,ReadsAll s.heap us (D.pys ds) as:=
 h.ind (P:=λvs ds=>∀{us:Wp uX},Vals vs us->D.Ox ds=true->∃as,ReadsAll s.heap us (D.pys ds) as) (λr _=>by cases r;exact⟨_,.nil⟩) (λ{v d vs ds} h ih2 _ r hl=>by
  cases r with
  |cons r1 r2=>
   have hl':(D.lay d && D.Ox ds)=true:=hl
   rw[ub]at hl'
   obtain⟨as,ra⟩:=h.reads I r1 hl'.1
   obtain⟨bs,rb⟩:=ih2 r2 hl'.2
   exact⟨_,.cons ra rb⟩)
end
noncomputable def deq(a b:D):vZ:=PyData.eqv a.py b.py
noncomputable def OP(a b:D):vZ:=a.lay && b.lay && decide (min a.py.depth b.py.depth<=60)
noncomputable def wEq:Op2:=λa b=>if OP (fz a) (fz b)=true then Gc (.val (.bl (deq (fz a) (fz b))))else none
noncomputable def wNe:Op2:=λa b=>if OP (fz a) (fz b)=true then Gc (.val (.bl (!deq (fz a) (fz b))))else none
section
variable{X:Cx}
def Sh.reads{pins:Wp (uf×Obj)}{σ:Sg}(h:Sh X.K M H v w)(I:Inv X pins σ H s)(r:RelV v u)(hl:(fz w).lay=true):∃as,Reads s.heap u (fz w).py as:=by
 cases w with
 |val d=>exact BM.reads I h r hl
 |own ds=>
  obtain⟨a,xs,rfl,h1,h2⟩:=h
  cases r
  obtain⟨its,rv,o,n,e,hc,hd⟩:=MV I (.inl h1)
  obtain⟨as,ra⟩:=Ae.reads I h2 rv hl
  exact⟨_,.list e hc hd ra⟩
def Nv(hu:X.A.units+100<cLine):OpR X (compareOp .Eq) (rOp X.K wEq):=by
 intro pins s σ H x y v u Q I rx ry h
 obtain⟨M,w1,w2,r,e,mo,s1,s2,q⟩:=h
 unfold wEq at e
 split at e
 .rename_i hk
  unfold OP at hk
  rw[ub,ub]at hk
  cases e
  obtain⟨as,ra⟩:=s1.reads I rx hk.1.1
  obtain⟨bs,rb⟩:=s2.reads I ry hk.1.2
  have hd:=ur hk.2
  exact SeqAt.compareEq_reads ra rb (Kl hk.1.1) (Kl hk.1.2) (by lia) ⟨.bl _,H,I,rfl,q _ _ (.same mo (.bl _))⟩
 .cases e
def Rz(hu:X.A.units+100<cLine):OpR X (compareOp .NotEq) (rOp X.K wNe):=by
 intro pins s σ H x y v u Q I rx ry h
 obtain⟨M,w1,w2,r,e,mo,s1,s2,q⟩:=h
 unfold wNe at e
 split at e
 .rename_i hk
  unfold OP at hk
  rw[ub,ub]at hk
  cases e
  obtain⟨as,ra⟩:=s1.reads I rx hk.1.1
  obtain⟨bs,rb⟩:=s2.reads I ry hk.1.2
  have hd:=ur hk.2
  exact SeqAt.compareNe_reads ra rb (Kl hk.1.1) (Kl hk.1.2) (by lia) ⟨.bl _,H,I,rfl,q _ _ (.same mo (.bl _))⟩
 .cases e
noncomputable def wI2(f:Int->Int->uR D):Op2
 | .val (.int i),.val (.int j)=>(f i j).map .val
 |_,_=>none
def RC(o:OpR X g (rI C h))(hf:∀i j d,f i j=Gc d->C i j/\∀K M H,BM K M H (h i j) d):OpR X g (rOp X.K (wI2 f)):=by
 intro pins s σ H x y v u Q I rx ry hh
 obtain⟨M,w1,w2,r,e,mo,s1,s2,q⟩:=hh
 unfold wI2 at e
 split at e
 .obtain rfl:=BM.iv s1
  obtain rfl:=BM.iv s2
  rename_i i j
  cases e1:f i j with
  |none=>rw[e1]at e;cases e
  |some d=>
   rw[e1]at e
   cases e
   obtain⟨c,rd⟩:=hf i j d e1
   exact o pins s σ H _ _ v u Q I rx ry ⟨i,j,rfl,rfl,c,q _ _ (.same mo (rd _ _ _))⟩
 .cases e
def Ln(o:OpR X g (rI0 h))(hf:∀i j d,f i j=Gc d->∀K M H,BM K M H (h i j) d):OpR X g (rOp X.K (wI2 f)):=by
 intro pins s σ H x y v u Q I rx ry hh
 obtain⟨M,w1,w2,r,e,mo,s1,s2,q⟩:=hh
 unfold wI2 at e
 split at e
 .obtain rfl:=BM.iv s1
  obtain rfl:=BM.iv s2
  rename_i i j
  cases e1:f i j with
  |none=>rw[e1]at e;cases e
  |some d=>
   rw[e1]at e
   cases e
   exact o pins s σ H _ _ v u Q I rx ry ⟨i,j,rfl,rfl,q _ _ (.same mo (hf i j d e1 _ _ _))⟩
 .cases e
noncomputable def QJ:Op2:=wI2 λi j=>Gc (.int (i-j))
noncomputable def ZR:Nat:=2^60000
noncomputable def Fh:Nat:=2^8000
noncomputable def Dj(i j:Int):vZ:=decide (i.natAbs<2^64)||(decide (j.natAbs<2^64)||(decide (i.natAbs<ZR) && decide (j.natAbs<ZR)))
def bE:OpR X (binaryOp .Mult) (rI (λi j=>Dj i j=true) λi j=>.int (i*j)):=by
 intro pins s σ H x y v u Q I rx ry h
 obtain⟨i,j,rfl,rfl,hk,q⟩:=h
 unfold Dj at hk
 rw[vv,vv,ub]at hk
 rcases hk with hk|hk|hk
 .have:=ur hk
  exact Y1 pins s σ H _ _ v u Q I rx ry ⟨i,j,rfl,rfl,.inl ⟨by lia,by lia⟩,q⟩
 .have:=ur hk
  exact Y1 pins s σ H _ _ v u Q I rx ry ⟨i,j,rfl,rfl,.inr ⟨by lia,by lia⟩,q⟩
 .have h1:i.natAbs<2^60000:=ur hk.1
  have h2:j.natAbs<2^60000:=ur hk.2
  obtain⟨t1,rfl⟩:=rx
  obtain⟨t2,rfl⟩:=ry
  exact PyProof.Rows.mul_int ⟨.int _,H,I.tok _,⟨_,rfl⟩,q⟩ (PyProof.Rows.mulOk_of_bits (m:=60000) (n:=60000) (ABd.mpr h1) (ABd.mpr h2) (by decide))
noncomputable def pI:Op2:=wI2 λi j=>if Dj i j=true then Gc (.int (i*j))else none
noncomputable def OM:Op2:=wI2 λi j=>if(decide (0<j) && decide (j.natAbs<Fh))=true then Gc (.int (i / j))else none
noncomputable def Oz:Op2:=wI2 λi j=>if 0<j then Gc (.int (i % j))else none
noncomputable def k7:Op2:=wI2 λi j=>if(decide (0<=j) && decide (j<=1000) && decide (i.natAbs<2^64))=true then Gc (.int (i^j.toNat))else none
noncomputable def wLt:Op2:=wI2 λi j=>Gc (.bl (decide (i<j)))
noncomputable def wLe:Op2:=wI2 λi j=>Gc (.bl (decide (i<=j)))
noncomputable def wGt:Op2:=wI2 λi j=>Gc (.bl (decide (j<i)))
noncomputable def wGe:Op2:=wI2 λi j=>Gc (.bl (decide (j<=i)))
def nD:OpR X (binaryOp .Sub) (rOp X.K QJ):=Ln ju λi j d e K M H=>by cases e;exact .int _
def bq:OpR X (binaryOp .Mult) (rOp X.K pI):=RC bE λi j d e=>by
 split at e
 .rename_i hk
  cases e
  exact⟨hk,λ_ _ _=>.int _⟩
 .cases e
def mT:OpR X (binaryOp .FloorDiv) (rOp X.K OM):=RC St.XH λi j d e=>by
 split at e
 .rename_i hk
  rw[ub]at hk
  cases e
  exact⟨⟨ur hk.1,ur hk.2⟩,λ_ _ _=>.int _⟩
 .cases e
def c8:OpR X (binaryOp .Mod) (rOp X.K Oz):=RC iO λi j d e=>by
 split at e
 .rename_i hk
  cases e
  exact⟨hk,λ_ _ _=>.int _⟩
 .cases e
def my:OpR X (binaryOp .Pow) (rOp X.K k7):=RC jI λi j d e=>by
 split at e
 .rename_i hk
  rw[ub,ub]at hk
  cases e
  have:=ur hk.1.2
  exact⟨⟨ur hk.1.1,by lia,ur hk.2⟩,λ_ _ _=>.int _⟩
 .cases e
def qH:OpR X (compareOp .Lt) (rOp X.K wLt):=Ln iu λi j d e K M H=>by cases e;exact .bl _
def qJ:OpR X (compareOp .LtE) (rOp X.K wLe):=Ln YT λi j d e K M H=>by cases e;exact .bl _
def kO:OpR X (compareOp .Gt) (rOp X.K wGt):=Ln nM λi j d e K M H=>by cases e;exact .bl _
def qZ:OpR X (compareOp .GtE) (rOp X.K wGe):=Ln ou λi j d e K M H=>by cases e;exact .bl _
noncomputable def asL:Wv->uR (Wp D)
 | .own ds=>Gc ds
 | .val (.lst ds)=>Gc ds
 |_=>none
noncomputable def asT:Wv->uR (Wp D)
 | .val (.tup ds)=>Gc ds
 |_=>none
noncomputable def asC:Wv->uR (Wp D)
 | .val (.scr ns)=>Gc (ns.map .int)
 |_=>none
noncomputable def asS(w:Wv):uR (Wp D):=(asL w).or ((asT w).or (asC w))
section
variable{K:W1}{M:Ms}{H:Hp}{v:V}{w:Wv}{ds:Wp D}
def Sh.l(h:Sh K M H v w)(e:asL w=Gc ds):∃a xs,v=.ref a/\H a=Gc (.lst xs)/\Ae K M H xs ds:=by
 cases w with
 |own es=>cases e;obtain⟨a,xs,rfl,h1,h2⟩:=h;exact⟨a,xs,rfl,h1,h2⟩
 |val d=>
  cases d<;>first|(cases e;done)|skip
  cases e
  cases h with
  |lst h n r=>exact⟨_,_,rfl,h,r⟩
def Sh.t(h:Sh K M H v w)(e:asT w=Gc ds):∃a xs,v=.ref a/\SqT K H a xs/\Ae K M H xs ds:=by
 cases w with
 |own es=>cases e
 |val d=>
  cases d<;>first|(cases e;done)|skip
  cases e
  cases h with
  |tup h r=>exact⟨_,_,rfl,h,r⟩
theorem LU:∀{ns:Wp Int},Ae K M H (ns.map V.int) (ns.map D.int)
 | []=>.nil
 |n::ns=>.cons (.int n) LU
def Sh.c(h:Sh K M H v w)(e:asC w=Gc ds):∃a xs,v=.ref a/\SqL K H a xs/\Ae K M H xs ds:=by
 cases w with
 |own es=>cases e
 |val d=>
  cases d<;>first|(cases e;done)|skip
  cases e
  cases h with
  |scr h=>
   refine⟨_,_,rfl,?_,LU⟩
   rcases h with h|h
   .exact .inl h.1
   .exact .inr h
def Sh.s(h:Sh K M H v w)(e:asS w=Gc ds):∃a xs,v=.ref a/\(SqL K H a xs\/SqT K H a xs)/\Ae K M H xs ds:=by
 unfold asS at e
 cases e1:asL w with
 |some es=>
  rw[e1]at e
  cases e
  obtain⟨a,xs,h1,h2,h3⟩:=h.l e1
  exact⟨a,xs,h1,.inl (.of h2),h3⟩
 |none=>
  rw[e1]at e
  cases e2:asT w with
  |some es=>
   rw[e2]at e
   cases e
   obtain⟨a,xs,h1,h2,h3⟩:=h.t e2
   exact⟨a,xs,h1,.inr h2,h3⟩
  |none=>
   rw[e2]at e
   obtain⟨a,xs,h1,h2,h3⟩:=h.c e
   exact⟨a,xs,h1,.inl h2,h3⟩
end
noncomputable def Eu:Op1:=λw=>match w with
 | .val (.str z)=>if z.length<=sizeLine then Gc (.val (.int z.length))else none
 |_=>(asS w).map λds=>.val (.int ds.length)
def Dl:Eg X (.builtin "len") (rN X.K (o1 Eu)):=by
 intro pins s σ H xs us Q I r h
 obtain⟨M,ws,w,e,mo,sh,q⟩:=h
 cases sh with
 |nil=>cases e
 |cons h1 t=>
  cases t with
  |cons h2 t=>cases e
  |nil=>
   rename_i v w1
   have e':Eu w1=Gc w:=e
   unfold Eu at e'
   split at e'
   .split at e'
    .rename_i z hz
     cases e'
     cases h1
     exact QA pins s σ H _ us Q I r ⟨z,rfl,hz,q _ _ (.same mo (.int _))⟩
    .cases e'
   .cases e1:asS w1 with
    |none=>rw[e1]at e';cases e'
    |some ds=>
     rw[e1]at e'
     cases e'
     obtain⟨a,ys,rfl,h3,h4⟩:=h1.s e1
     refine PK pins s σ H _ us Q I r ⟨a,ys,rfl,h3,q _ _ ?_⟩
     rw[h4.length]
     exact .same mo (.int _)
noncomputable def wIx:Op2:=λa b=>match a,b with
 |a,.val (.int i)=>(asS a).bind λds=>(atI ds i).map .val
 |_,_=>none
def Zw(h:Ae K M H xs ds)(e:atI ds i=Gc d):∃x,atI xs i=Gc x/\BM K M H x d:=by
 unfold atI at e⊢
 rw[h.length]
 cases e1:ixN ds.length i with
 |none=>rw[e1]at e;cases e
 |some j=>
  rw[e1]at e
  exact h.get e
def Mt:IxR X (rOp X.K wIx):=by
 intro value slice pins s σ H x y v u Q I rx ry h hs
 obtain⟨M,w1,w2,r,e,mo,s1,s2,q⟩:=h
 unfold wIx at e
 split at e
 .rename_i i
  cases e1:asS w1 with
  |none=>rw[e1]at e;cases e
  |some ds=>
   rw[e1]at e
   simp only[AA0]at e
   cases e2:atI ds i with
   |none=>rw[e2]at e;cases e
   |some d=>
    rw[e2]at e
    cases e
    obtain rfl:=BM.iv s2
    obtain⟨a,ys,rfl,h3,h4⟩:=s1.s e1
    obtain⟨z,h5,h6⟩:=Zw h4 e2
    rcases h3 with h3|h3
    .exact cu value slice pins s σ H _ _ v u Q I rx ry ⟨a,ys,i,z,rfl,rfl,h3,h5,q _ _ (.same mo h6)⟩ hs
    .exact kT value slice pins s σ H _ _ v u Q I rx ry ⟨a,ys,i,z,rfl,rfl,h3,h5,q _ _ (.same mo h6)⟩ hs
 .cases e
end
section
variable{X:Cx}
noncomputable def asI:Wv->uR Int
 | .val (.int i)=>Gc i
 |_=>none
noncomputable def asX:Wv->uR Str
 | .val (.str x)=>Gc x
 |_=>none
def Pf(e:asI w=Gc i):w=.val (.int i):=by
 cases w with
 |own=>cases e
 |val d=>cases d with
  |int=>cases e;rfl
  |_=>cases e
def ZX(e:asX w=Gc i):w=.val (.str i):=by
 cases w with
 |own=>cases e
 |val d=>cases d with
  |str=>cases e;rfl
  |_=>cases e
def RM(e:asT w=Gc i):w=.val (.tup i):=by
 cases w with
 |own=>cases e
 |val d=>cases d with
  |tup=>cases e;rfl
  |_=>cases e
noncomputable def Sx{α β:Type}(f:Wv->uR α)(g:α->α->uR β)(h:uR β)(a b:Wv):uR β:=match f a with
 |none=>h
 |some x=>match f b with
  |none=>h
  |some y=>g x y
def OR{α β:Type}{f:Wv->uR α}{g:α->α->uR β}{h:uR β}{r:β}(e:Sx f g h a b=Gc r):h=Gc r\/∃x y,f a=Gc x/\f b=Gc y/\g x y=Gc r:=by
 unfold Sx at e
 cases e1:f a with
 |none=>rw[e1]at e;exact .inl e
 |some x=>
  rw[e1]at e
  cases e2:f b with
  |none=>rw[e2]at e;exact .inl e
  |some y=>rw[e2]at e;exact .inr ⟨x,y,rfl,rfl,e⟩
noncomputable def CN:Op2:=λa b=>Sx asI (λi j=>Gc (.val (.int (i+j)))) (Sx asX (λx y=>if x.length+y.length<=sizeLine then Gc (.val (.str (x++y)))else none) (Sx asT (λxs ys=>if xs.length+ys.length<=sizeLine then Gc (.val (.tup (xs++ys)))else none)
 (Sx asL (λxs ys=>if xs.length+ys.length<=sizeLine then Gc (.own (xs++ys))else none) none a b) a b) a b) a b
def TF{α:Type}{p:Prop} [Decidable p] {x:α}{r:α}(e:(if p then Gc x else none)=Gc r):p/\x=r:=by
 by_cases h:p
 .rw[vC h]at e;cases e;exact⟨h,rfl⟩
 .rw[vB h]at e;cases e
def JX:OpR X (binaryOp .Add) (rOp X.K CN):=by
 intro pins s σ H x y v u Q I rx ry h
 obtain⟨M,w1,w2,r,e,mo,s1,s2,q⟩:=h
 rcases OR e with e|⟨i,j,e1,e2,e⟩
 .rcases OR e with e|⟨i,j,e1,e2,e⟩
  .rcases OR e with e|⟨xs,ys,e1,e2,e⟩
   .rcases OR e with e|⟨xs,ys,e1,e2,e⟩
    .cases e
    .obtain⟨hz,rfl⟩:=TF e
     obtain⟨a,xs',rfl,h1,r1⟩:=s1.l e1
     obtain⟨b,ys',rfl,h2,r2⟩:=s2.l e2
     have l1:=r1.length
     have l2:=r2.length
     exact jg pins s σ H _ _ v u Q I rx ry ⟨a,b,xs',ys',rfl,rfl,h1,h2,by lia,λp hp=>q _ _ (.lst mo hp (r1.append r2))⟩
   .obtain rfl:=RM e1
    obtain rfl:=RM e2
    obtain⟨hz,rfl⟩:=TF e
    obtain⟨a,xs',rfl,h1,r1⟩:=BM.iv s1
    obtain⟨b,ys',rfl,h2,r2⟩:=BM.iv s2
    have l1:=r1.length
    have l2:=r2.length
    by_cases hx:xs'=[]
    .subst hx
     cases r1
     refine St.cH pins s σ H _ _ v u Q I rx ry ⟨_,_,_,rfl,rfl,h1,h2,q _ _ (.same mo ?_)⟩
     exact .tup h2 r2
    .refine cW pins s σ H _ _ v u Q I rx ry ⟨_,_,_,_,rfl,rfl,h1,h2,hx,by lia,λz=>?_,λ_ p hp=>q _ _ (.tup mo hp (r1.append r2))⟩
     subst z
     cases r2
     rw[vt]at q
     exact q _ _ (.same mo (.tup h1 r1))
  .obtain rfl:=ZX e1
   obtain rfl:=ZX e2
   obtain⟨hz,rfl⟩:=TF e
   obtain rfl:=BM.iv s1
   obtain rfl:=BM.iv s2
   exact Sw pins s σ H _ _ v u Q I rx ry ⟨_,_,rfl,rfl,hz,q _ _ (.same mo (.str _))⟩
 .obtain rfl:=Pf e1
  obtain rfl:=Pf e2
  cases e
  obtain rfl:=BM.iv s1
  obtain rfl:=BM.iv s2
  exact jU pins s σ H _ _ v u Q I rx ry ⟨_,_,rfl,rfl,q _ _ (.same mo (.int _))⟩
noncomputable def gN:Op2:=λa b=>(asI b).bind λk=>match asI a with
 |some i=>if Dj i k=true then Gc (.val (.int (i*k)))else none
 |none=>match asT a with
  |some xs=>if(!xs.isEmpty && decide (1<=k) && decide (xs.length*k.toNat<=sizeLine))=true then Gc (.val (.tup (uo k.toNat xs).flatten))else none
  |none=>(asL a).bind λxs=>if(decide (k<2^63) && decide (-(2^63)<=k) && decide (xs.length*k.toNat<=sizeLine))=true then Gc (.own (uo k.toNat xs).flatten)else none
theorem Ae.rep(h:Ae K M H xs ds):∀n,Ae K M H (uo n xs).flatten (uo n ds).flatten
 |0=>.nil
 |n+1=>by
  rw[wJ,wJ,xk,xk]
  exact h.append (Ae.rep h n)
def aF:OpR X (binaryOp .Mult) (rOp X.K gN):=by
 intro pins s σ H x y v u Q I rx ry h
 obtain⟨M,w1,w2,r,e,mo,s1,s2,q⟩:=h
 obtain⟨k,e2,e0⟩:=Ac e
 obtain rfl:=Pf e2
 clear e e2
 cases e1:asI w1 with
 |some i=>
  obtain rfl:=Pf e1
  clear e1
  refine bq pins s σ H x y v u Q I rx ry ⟨M,_,_,r,?_,mo,s1,s2,q⟩
  obtain⟨hk,rfl⟩:=TF e0
  show ACI Wv.val (if Dj i k=true then Gc (D.int (i*k))else none)=Gc _
  rw[vC hk]
  rfl
 |none=>
  rw[e1]at e0
  dsimp only at e0
  obtain rfl:=BM.iv s2
  cases e3:asT w1 with
  |some xs=>
   rw[e3]at e0
   obtain rfl:=RM e3
   obtain⟨hk,rfl⟩:=TF e0
   rw[ub,ub]at hk
   obtain⟨a,ys,rfl,h1,r1⟩:=BM.iv s1
   have l1:=r1.length
   have z:=ur hk.2
   have hk1:=ur hk.1.2
   have hne:ys≠[]:=λzz=>by
    subst zz
    cases r1
    exact absurd hk.1.1 (by decide)
   refine Z5 pins s σ H _ _ v u Q I rx ry ⟨a,ys,k,rfl,rfl,h1,hne,hk1,by rw[l1];exact z,λe1=>?_,λ_ p hp=>q _ _ (.tup mo hp (r1.rep _))⟩
   subst e1
   have:(uo (1:Int).toNat xs).flatten=xs:=by simp
   rw[this]at q
   exact q _ _ (.same mo (.tup h1 r1))
  |none=>
   rw[e3]at e0
   obtain⟨xs,e4,e0⟩:=Ac e0
   obtain⟨hk,rfl⟩:=TF e0
   rw[ub,ub]at hk
   obtain⟨a,xs',rfl,h1,r1⟩:=s1.l e4
   have l1:=r1.length
   have z:=ur hk.2
   exact kA pins s σ H _ _ v u Q I rx ry ⟨a,k,xs',rfl,rfl,h1,ur hk.1.2,ur hk.1.1,by rw[l1];exact z,λp hp=>q _ _ (.lst mo hp (r1.rep _))⟩
noncomputable def Tv:Op1
 | .val (.int i)=>Gc (.val (.int (-i)))
 |_=>none
def cM:UnR X (unaryOp .USub) (rUn X.K Tv):=by
 intro pins s σ H x v Q I rx h
 obtain⟨M,w,r,e,mo,s1,q⟩:=h
 unfold Tv at e
 split at e
 .cases e
  obtain rfl:=BM.iv s1
  exact jx pins s σ H _ v Q I rx ⟨_,rfl,q _ _ (.same mo (.int _))⟩
 .cases e
noncomputable def Hz:D->vZ
 | .non=>true| .bl _=>true| .int _=>true| .str _=>true
 |_=>false
def Sh.flat(h:Sh K M H v w)(f:Hz (fz w)=true):BM K M H v (fz w):=by
 cases w with
 |val d=>exact h
 |own ds=>cases f
noncomputable def inD(x:D)(xs:Wp D):vZ:=xs.any λy=>deq y x
def Rm(h:BM K M H v d)(f:Hz d=true):MS v=true:=by
 cases h<;>first|rfl|cases f
def aW(h:BM K M H v d)(g:BM K M H u e)(f:Hz d=true)(f':Hz e=true):eqV v u=deq d e:=by
 cases h<;>first|(cases f;done)|skip
 all_goals (cases g<;>first|(cases f';done)|rfl)
def T7(h:Ae K M H vs ds):ds.all Hz=true->vs.all MS=true:=h.ind (P:=λvs ds=>ds.all Hz=true->vs.all MS=true) (λ_=>rfl) λh t f=>by
 rw[yN,ub]at f⊢
 exact⟨Rm h f.1,t f.2⟩
def dE(g:BM K M H u e)(f':Hz e=true)(h:Ae K M H vs ds):ds.all Hz=true->inV u vs=inD e ds:=h.ind (P:=λvs ds=>ds.all Hz=true->inV u vs=inD e ds) (λ_=>rfl) λh t f=>by
 rw[yN,ub]at f
 have ih:=t f.2
 unfold inV inD at ih⊢
 rw[xJ,xJ,ih,aW h g f.1 f']
noncomputable def wIn(neg:vZ):Op2:=λa b=>(asS b).bind λds=>if(Hz (fz a) && ds.all Hz)=true then Gc (.val (.bl (if neg then !inD (fz a) ds else inD (fz a) ds)))else none
def Y8(e:wIn neg w1 w2=Gc r)(mo:MOk M H)(s1:Sh X.K M H x w1)(s2:Sh X.K M H y w2)(q:∀v H',Nw X.K M H H' v r->Q v H'):rIn X.K neg x y H Q:=by
 unfold wIn at e
 cases e1:asS w2 with
 |none=>rw[e1]at e;cases e
 |some ds=>
  rw[e1]at e
  simp only[AA0]at e
  split at e
  .rename_i hk
   rw[ub]at hk
   cases e
   obtain⟨a,xs,rfl,h3,h4⟩:=s2.s e1
   have g1:=s1.flat hk.1
   refine⟨a,xs,rfl,h3,Rm g1 hk.1,T7 h4 hk.2,?_⟩
   rw[dE g1 hk.1 h4 hk.2]
   exact q _ _ (.same mo (.bl _))
  .cases e
def gG:OpR X (compareOp .In) (rOp X.K (wIn false)):=by
 intro pins s σ H x y v u Q I rx ry h
 obtain⟨M,w1,w2,r,e,mo,s1,s2,q⟩:=h
 exact Wd pins s σ H _ _ v u Q I rx ry (Y8 e mo s1 s2 q)
def Wk:OpR X (compareOp .NotIn) (rOp X.K (wIn true)):=by
 intro pins s σ H x y v u Q I rx ry h
 obtain⟨M,w1,w2,r,e,mo,s1,s2,q⟩:=h
 exact P6 pins s σ H _ _ v u Q I rx ry (Y8 e mo s1 s2 q)
noncomputable def isN:Wv->vZ
 | .val .non=>true
 |_=>false
noncomputable def Wu(neg:vZ):Op2:=λa b=>match b with
 | .val .non=>Gc (.val (.bl (if neg then !isN a else isN a)))
 |_=>none
def Wj(s:Sh K M H x w):decide (x=.non)=isN w:=by
 cases w with
 |own ds=>obtain⟨a,xs,rfl,_⟩:=s;rfl
 |val d=>cases s<;>rfl
def aC:OpR X (compareOp .Is) (rOp X.K (Wu false)):=by
 intro pins s σ H x y v u Q I rx ry h
 obtain⟨M,w1,w2,r,e,mo,s1,s2,q⟩:=h
 unfold Wu at e
 split at e
 .cases e
  obtain rfl:=BM.iv s2
  refine gM pins s σ H _ _ v u Q I rx ry ⟨rfl,?_⟩
  rw[Wj s1]
  exact q _ _ (.same mo (.bl _))
 .cases e
def YJ:OpR X (compareOp .IsNot) (rOp X.K (Wu true)):=by
 intro pins s σ H x y v u Q I rx ry h
 obtain⟨M,w1,w2,r,e,mo,s1,s2,q⟩:=h
 unfold Wu at e
 split at e
 .cases e
  obtain rfl:=BM.iv s2
  refine bV pins s σ H _ _ v u Q I rx ry ⟨rfl,?_⟩
  rw[Wj s1]
  exact q _ _ (.same mo (.bl _))
 .cases e
def JE(h:Shs K M H xs ws)(e:o1 f ws=Gc r):∃v w,xs=[v]/\ws=[w]/\Sh K M H v w/\f w=Gc r:=by
 cases h with
 |nil=>cases e
 |cons h1 t=>
  cases t with
  |cons h2 t=>cases e
  |nil=>exact⟨_,_,rfl,rfl,h1,e⟩
def VD(h:Shs K M H xs ws)(e:o2 f ws=Gc r):∃v w v' w',xs=[v,v']/\ws=[w,w']/\Sh K M H v w/\Sh K M H v' w'/\f w w'=Gc r:=by
 cases h with
 |nil=>cases e
 |cons h1 t=>
  cases t with
  |nil=>cases e
  |cons h2 t=>
   cases t with
   |cons h3 t=>cases e
   |nil=>exact⟨_,_,_,_,rfl,rfl,h1,h2,e⟩
noncomputable def eP:Op1
 | .val (.int i)=>Gc (.val (.int (if i<0 then-i else i)))
 |_=>none
def jK:Eg X (.builtin "abs") (rN X.K (o1 eP)):=by
 intro pins s σ H xs us Q I r h
 obtain⟨M,ws,w,e,mo,sh,q⟩:=h
 obtain⟨v,w1,rfl,rfl,s1,e1⟩:=JE sh e
 unfold eP at e1
 split at e1
 .cases e1
  obtain rfl:=BM.iv s1
  exact Ye pins s σ H _ us Q I r ⟨_,rfl,q _ _ (.same mo (.int _))⟩
 .cases e1
noncomputable def lF:Op2:=wI2 λi j=>Gc (.int (if j<i then j else i))
def XM(e:wI2 f a b=Gc r):∃i j d,a=.val (.int i)/\b=.val (.int j)/\f i j=Gc d/\r=.val d:=by
 unfold wI2 at e
 split at e
 .rename_i i j
  cases e1:f i j with
  |none=>rw[e1]at e;cases e
  |some d=>rw[e1]at e;cases e;exact⟨i,j,d,rfl,rfl,e1,rfl⟩
 .cases e
def gf(hc:X.calm=true):Eg X (.builtin "min") (rN X.K (o2 lF)):=by
 intro pins s σ H xs us Q I r h
 obtain⟨M,ws,w,e,mo,sh,q⟩:=h
 obtain⟨v,w1,v',w2,rfl,rfl,s1,s2,e1⟩:=VD sh e
 obtain⟨i,j,d,rfl,rfl,e2,rfl⟩:=XM e1
 cases e2
 obtain rfl:=BM.iv s1
 obtain rfl:=BM.iv s2
 exact Uq hc pins s σ H _ us Q I r ⟨_,_,rfl,q _ _ (.same mo (.int _))⟩
noncomputable def B7:Op1:=λw=>(asS w).map λds=>.val (.tup ds)
def cK:Eg X (.type "tuple") (rN X.K (o1 B7)):=by
 intro pins s σ H xs us Q I r h
 obtain⟨M,ws,w,e,mo,sh,q⟩:=h
 obtain⟨v,w1,rfl,rfl,s1,e1⟩:=JE sh e
 unfold B7 at e1
 cases e2:asS w1 with
 |none=>rw[e2]at e1;cases e1
 |some ds=>
  rw[e2]at e1
  cases e1
  obtain⟨a,ys,rfl,h3,h4⟩:=s1.s e2
  refine Om pins s σ H _ us Q I r ⟨a,ys,rfl,?_⟩
  rcases h3 with h3|h3
  .exact .inl ⟨h3,λl hl=>q _ _ (.tup mo hl h4)⟩
  .exact .inr ⟨h3,q _ _ (.same mo (.tup h3 h4))⟩
noncomputable def Pt:Op1:=λw=>(asS w).map λds=>.own ds
def fD:Eg X (.type "list") (rN X.K (o1 Pt)):=by
 intro pins s σ H xs us Q I r h
 obtain⟨M,ws,w,e,mo,sh,q⟩:=h
 obtain⟨v,w1,rfl,rfl,s1,e1⟩:=JE sh e
 unfold Pt at e1
 cases e2:asS w1 with
 |none=>rw[e2]at e1;cases e1
 |some ds=>
  rw[e2]at e1
  cases e1
  obtain⟨a,ys,rfl,h3,h4⟩:=s1.s e2
  exact QE pins s σ H _ us Q I r ⟨a,ys,rfl,h3,λl hl=>q _ _ (.lst mo hl h4)⟩
noncomputable def Wl:Op1
 | .val (.int i)=>Gc (.val (.int i))
 | .val (.bl b)=>Gc (.val (.int (if b then 1 else 0)))
 |_=>none
def Uz:Eg X (.type "int") (rN X.K (o1 Wl)):=by
 intro pins s σ H xs us Q I r h
 obtain⟨M,ws,w,e,mo,sh,q⟩:=h
 obtain⟨v,w1,rfl,rfl,s1,e1⟩:=JE sh e
 unfold Wl at e1
 split at e1
 .cases e1
  obtain rfl:=BM.iv s1
  exact Px pins s σ H _ us Q I r (.inl ⟨_,rfl,q _ _ (.same mo (.int _))⟩)
 .cases e1
  obtain rfl:=BM.iv s1
  exact Px pins s σ H _ us Q I r (.inr ⟨_,rfl,q _ _ (.same mo (.int _))⟩)
 .cases e1
noncomputable def blD:D->uR vZ
 | .bl b=>Gc b
 |_=>none
noncomputable def bls(ds:Wp D):uR (Wp vZ):=ds.mapM blD
theorem V7:∀{vs} {ds} {bs},Ae K M H vs ds->bls ds=Gc bs->vs=bs.map V.bl
 |_,_,bs,.nil,e=>by cases e;rfl
 |_,_,bs,.cons (d:=d) (ds:=ds) h t,e=>by
  unfold bls at e
  rw[AAV]at e
  cases e1:blD d with
  |none=>rw[e1]at e;cases e
  |some b=>
   rw[e1]at e
   cases e2:ds.mapM blD with
   |none=>rw[e2]at e;cases e
   |some cs=>
    rw[e2]at e
    cases e
    have hd:d=.bl b:=by
     cases d<;>first|(cases e1;done)|skip
     cases e1;rfl
    subst hd
    cases h
    rw[uw,<-V7 t e2]
noncomputable def Ww:Op1:=λw=>(asL w).bind λds=>(bls ds).map λbs=>.val (.bl (bs.all id))
def Vx(hc:X.calm=true):Eg X (.builtin "all") (rN X.K (o1 Ww)):=by
 intro pins s σ H xs us Q I r h
 obtain⟨M,ws,w,e,mo,sh,q⟩:=h
 obtain⟨v,w1,rfl,rfl,s1,e1⟩:=JE sh e
 unfold Ww at e1
 cases e2:asL w1 with
 |none=>rw[e2]at e1;cases e1
 |some ds=>
  rw[e2]at e1
  simp only[AA0]at e1
  cases e3:bls ds with
  |none=>rw[e3]at e1;cases e1
  |some bs=>
   rw[e3]at e1
   cases e1
   obtain⟨a,ys,rfl,h3,h4⟩:=s1.l e2
   exact St.Vs hc pins s σ H _ us Q I r ⟨a,bs,rfl,by rw[<-V7 h4 e3];exact .of h3,q _ _ (.same mo (.bl _))⟩
noncomputable def kdW:Wv->uR St.Kd
 | .own _=>Gc .lst
 | .val .non=>Gc .non| .val (.bl _)=>Gc .bl| .val (.int _)=>Gc .int| .val (.str _)=>Gc .str| .val (.lst _)=>Gc .lst| .val (.dct _)=>Gc .dct| .val (.tup _)=>Gc .tup
 | .val (.ty _)=>none| .val (.scr _)=>none| .val (.ref _)=>none
end
section
variable{X:Cx}
def Xc(k:St.Kd):xN K (.type k.ty) (.type "list")=Gc (k.isA "list"):=by
 cases k<;>rfl
noncomputable def Pr(T:xq):vZ:=T== "int" ||T== "bool" ||T== "tuple" ||T== "str" ||T== "list"
def iN(h:Pr T=true)(k:St.Kd):xN K (.type k.ty) (.type T)=Gc (k.isA T):=by
 unfold Pr at h
 simp only[vv,wI]at h
 rcases h with(((rfl|rfl)|rfl)|rfl)|rfl
 .exact St.dz k
 .exact St.YC k
 .exact St.kit_tuple k
 .exact St.cV k
 .exact Xc k
noncomputable def QK:Op2:=λa t=>match t with
 | .val (.ty T)=>if Pr T=true then(kdW a).map λk=>.val (.bl (k.isA T))else none
 |_=>none
def O4:Eg X (.builtin "isinstance") (rN X.K (o2 QK)):=by
 intro pins s σ H xs us Q I r h
 obtain⟨M,ws,w,e,mo,sh,q⟩:=h
 obtain⟨v,w1,v',w2,rfl,rfl,s1,s2,e1⟩:=VD sh e
 unfold QK at e1
 split at e1
 .rename_i T
  split at e1
  .rename_i hT
   cases e2:kdW w1 with
   |none=>rw[e2]at e1;cases e1
   |some k=>
    rw[e2]at e1
    cases e1
    obtain rfl:=BM.iv s2
    obtain⟨u1,u2,rfl,r1,r2⟩:=r.two
    cases (show u2=AAH T from r2)
    have fin:∀tk,EP X pins σ Q (.bool (k.isA T)) {s with toks:=tk}:=λtk=>⟨.bl _,H,I.tok tk,rfl,q _ _ (.same mo (.bl _))⟩
    have kk:=iN (K:=X.K) hT k
    cases w1 with
    |own ds=>
     cases e2
     obtain⟨a,ys,rfl,h1,_⟩:=s1
     exact FG I r1 (.lst h1) kk fin
    |val d=>
     have s1':BM X.K M H v d:=s1
     cases s1' with
     |non=>cases e2;exact FG I r1 .non kk fin
     |bl b=>cases e2;exact FG I r1 (.bl b) kk fin
     |int b=>cases e2;exact FG I r1 (.int b) kk fin
     |str b=>cases e2;exact FG I r1 (.str b) kk fin
     |ty b=>cases e2
     |scr h=>cases e2
     |lst h n rr=>cases e2;exact FG I r1 (.lst h) kk fin
     |dct h n rr=>cases e2;exact FG I r1 (.dK h) kk fin
     |ref h=>cases e2
     |tup h rr=>
      cases e2
      rename_i a ys ds
      cases (show u1=u5 a from r1)
      obtain⟨its,_,⟨o,h1,h2,_⟩,_⟩:=I.tuple h
      exact v7 ACA I.kIn ⟨o,h1,h2⟩ kk (λz=>nomatch z) fin
  .cases e1
 .cases e1
noncomputable def A9(fs:Wp Ev):Ev:=λE S=>(evs fs E S).bind λr=>if r.1.length<=sizeLine then Gc (.tup r.1,r.2)else none
noncomputable def YS(c:vZ)(fs:Wp Ev):Ev:=λE S=>(evs fs E S).bind λr=>if r.1.length<=sizeLine then fin c (.own r.1) r.2 else none
abbrev Ja:=YS false
abbrev JV:=YS true
def Dx(h:DEs X es fs):DE X (.Tuple es k pos) (A9 fs):=⟨Ax (Uu h.pe) λσ H Q z=>by
 obtain⟨M,E,S,d,S',e,r,st,q⟩:=z
 obtain⟨⟨ds,S1⟩,e1,e⟩:=Ac e
 dsimp only at e
 split at e
 .cases e
  refine Ee e1 r st λvs H1 M1 g1 st1 d1=>⟨by rw[d1.length];assumption,λp hp=>?_⟩
  have n:=Nw.tup st1.mo hp d1
  exact q _ _ M1 (g1.trans (.grow st1.mo n.grow)) (st1.grow n.grow) n.rel
 .cases e⟩
def UC(h:DEs X es fs):DE X (.List es pos) (YS c fs):=⟨Ax (fX h.pe) λσ H Q z=>by
 obtain⟨M,E,S,d,S',e,r,st,q⟩:=z
 obtain⟨⟨ds,S1⟩,e1,e⟩:=Ac e
 dsimp only at e
 split at e
 .refine Ee e1 r st λvs H1 M1 g1 st1 d1=>⟨by rw[d1.length];assumption,λp hp=>?_⟩
  obtain⟨M2,g2,st2,d2⟩:=(Nw.lst st1.mo hp d1).fin st1 e
  exact q _ _ M2 (g1.trans g2) st2 d2
 .cases e⟩
noncomputable def D6(f g:Ev):Ev:=λE S=>(f E S).bind λr=>match r.1 with
 | .bl true=>g E r.2
 | .bl false=>Gc (.bl false,r.2)
 |_=>none
noncomputable def eOr(f g:Ev):Ev:=λE S=>(f E S).bind λr=>match r.1 with
 | .bl false=>g E r.2
 | .bl true=>Gc (.bl true,r.2)
 |_=>none
noncomputable def Ew(f:Ev):Ev:=λE S=>(f E S).bind λr=>match r.1 with
 | .bl b=>Gc (.bl (!b),r.2)
 |_=>none
noncomputable def eIf(c f g:Ev):Ev:=λE S=>(c E S).bind λr=>match r.1 with
 | .bl true=>f E r.2
 | .bl false=>g E r.2
 |_=>none
def Nu(h:BM K M H v (.bl b)):v=.bl b:=by cases h;rfl
variable{a b c:vi}{rest:Wp vi}{f g h:Ev}
def UP(h:DE X a f):DE X (.BoolOp op [a] pos) f:=⟨iG h.pe⟩
def jD(ha:DE X a f)(hb:DE X (.BoolOp .And (b::rest) pos) g):DE X (.BoolOp .And (a::b::rest) pos) (D6 f g):=⟨Ax (gA ha.pe hb.pe) λσ H Q z=>by
 obtain⟨M,E,S,d,S',e,r,st,q⟩:=z
 obtain⟨⟨d1,S1⟩,e1,e⟩:=Ac e
 dsimp only at e
 refine⟨M,E,S,d1,S1,e1,r,st,λv H1 M1 g1 st1 r1=>?_⟩
 split at e
 .cases Nu r1
  refine⟨_,rfl,?_⟩
  refine Yy ?_
  exact⟨M1,E,S1,d,S',e,r.step g1.st,st1,λv H2 M2 g2 st2 r2=>q _ _ M2 (g1.trans g2) st2 r2⟩
 .cases e
  cases Nu r1
  refine⟨_,rfl,?_⟩
  refine Ze ?_
  exact q _ _ M1 g1 st1 r1
 .cases e⟩
def kK(ha:DE X a f)(hb:DE X (.BoolOp .Or (b::rest) pos) g):DE X (.BoolOp .Or (a::b::rest) pos) (eOr f g):=⟨Ax (oy ha.pe hb.pe) λσ H Q z=>by
 obtain⟨M,E,S,d,S',e,r,st,q⟩:=z
 obtain⟨⟨d1,S1⟩,e1,e⟩:=Ac e
 dsimp only at e
 refine⟨M,E,S,d1,S1,e1,r,st,λv H1 M1 g1 st1 r1=>?_⟩
 split at e
 .cases Nu r1
  refine⟨_,rfl,?_⟩
  refine Ze ?_
  exact⟨M1,E,S1,d,S',e,r.step g1.st,st1,λv H2 M2 g2 st2 r2=>q _ _ M2 (g1.trans g2) st2 r2⟩
 .cases e
  cases Nu r1
  refine⟨_,rfl,?_⟩
  refine Yy ?_
  exact q _ _ M1 g1 st1 r1
 .cases e⟩
def qz(ha:DE X a f):DE X (.UnaryOp .Not a pos) (Ew f):=⟨Ax (gW ha.pe) λσ H Q z=>by
 obtain⟨M,E,S,d,S',e,r,st,q⟩:=z
 obtain⟨⟨d1,S1⟩,e1,e⟩:=Ac e
 dsimp only at e
 split at e
 .cases e
  refine⟨M,E,S,_,_,e1,r,st,λv H1 M1 g1 st1 r1=>?_⟩
  cases Nu r1
  exact⟨_,rfl,q _ _ M1 g1 st1 (.bl _)⟩
 .cases e⟩
inductive tDT(K:W1)(f:Ev)(σ:Sg)(H:Hp)(Q:vZ->Hp->Prop):Prop
 |mk (M:Ms) (E:En) (S:Sto) (b:vZ) (S':Sto) (e:f E S=Gc (.bl b,S')) (r:EnR K M E σ H) (st:StR K M S H) (q:∀H' M',Gr M H M' H'->StR K M' S' H'->Q b H')
structure DT(X:Cx)(e:vi)(f:Ev):Prop where
 pe:PT X e (tDT X.K f)
structure DW(X:Cx)(e:vi)(f:Ev):Prop where
 pe:PW X e (tDT X.K f)
def DW.dt(h:DW X a f):DT X a f:=⟨PW.pt h.pe⟩
def Xb(h:PT X a (jA t))(m:∀σ H Q,tD X.K f σ H Q->t σ H Q):DT X a f:=⟨UJ h λσ H Q z=>by
 obtain⟨M,E,S,b,S',e,r,st,q⟩:=z
 refine m _ _ _ ⟨M,E,S,_,S',e,r,st,λv H1 M1 g1 st1 r1=>?_⟩
 cases Nu r1
 exact⟨_,rfl,q _ M1 g1 st1⟩⟩
def Fi(h:DE X a f)(he:zn (∀whole,isTrue a X.env whole=(do let v<-whole;standAt a.pos;holding [v] (truthy v))) xL):DT X a f:=Xb (t:=tD X.K f) (fM h.pe he) λ_ _ _ z=>z
def IX{f:Op2}(ho:OpR X (compareOp op) (rOp X.K f))(ha:DE X a fa)(hb:DE X b fb)(hm:zn (behindInMarks op b=false) ww):DT X (.Compare a [op] [b] pos) (eOp (o2 f) [fa,fb]):=
 Xb (VF ho ha.pe hb.pe hm) λ_ _ _ h=>RT h
def Fx(ha:DT X a f):DT X (.UnaryOp .Not a pos) (Ew f):=⟨UJ (jE ha.pe) λσ H Q z=>by
 obtain⟨M,E,S,b,S',e,r,st,q⟩:=z
 obtain⟨⟨w1,S1⟩,e1,e⟩:=Ac e
 dsimp only at e
 split at e
 .cases e
  exact⟨M,E,S,_,_,e1,r,st,q⟩
 .cases e⟩
def Zy(ha:DT X a f):DW X (.BoolOp .And [a] pos) f:=⟨cX ha.pe⟩
def ZZ(ha:DT X a f):DW X (.BoolOp .Or [a] pos) f:=⟨jv ha.pe⟩
def UD(h:PW X e t)(m:∀σ H Q,t' σ H Q->t σ H Q):PW X e t':=λwh pins s σ H Q I q=>h wh pins s σ H Q I (m _ _ _ q)
def kW(ha:DT X a f)(hb:DW X (.BoolOp .And (b::rest) pos) g):DW X (.BoolOp .And (a::b::rest) pos) (D6 f g):=⟨UD (ff ha.pe hb.pe) λσ H Q z=>by
 obtain⟨M,E,S,k,S',e,r,st,q⟩:=z
 obtain⟨⟨w1,S1⟩,e1,e⟩:=Ac e
 dsimp only at e
 split at e
 .refine⟨M,E,S,_,S1,e1,r,st,λH1 M1 g1 st1=>?_⟩
  refine Yy ?_
  exact⟨M1,E,S1,k,S',e,r.step g1.st,st1,λH2 M2 g2 st2=>q _ M2 (g1.trans g2) st2⟩
 .cases e
  refine⟨M,E,S,_,_,e1,r,st,λH1 M1 g1 st1=>?_⟩
  refine Ze ?_
  exact q _ M1 g1 st1
 .cases e⟩
def fP(ha:DT X a f)(hb:DW X (.BoolOp .Or (b::rest) pos) g):DW X (.BoolOp .Or (a::b::rest) pos) (eOr f g):=⟨UD (pW ha.pe hb.pe) λσ H Q z=>by
 obtain⟨M,E,S,k,S',e,r,st,q⟩:=z
 obtain⟨⟨w1,S1⟩,e1,e⟩:=Ac e
 dsimp only at e
 split at e
 .refine⟨M,E,S,_,S1,e1,r,st,λH1 M1 g1 st1=>?_⟩
  refine Ze ?_
  exact⟨M1,E,S1,k,S',e,r.step g1.st,st1,λH2 M2 g2 st2=>q _ M2 (g1.trans g2) st2⟩
 .cases e
  refine⟨M,E,S,_,_,e1,r,st,λH1 M1 g1 st1=>?_⟩
  refine Yy ?_
  exact q _ M1 g1 st1
 .cases e⟩
def su(hc:DT X c f)(ha:DE X a g)(hb:DE X b h):DE X (.IfExp c a b pos) (eIf f g h):=⟨Ax (W7 hc.pe ha.pe hb.pe) λσ H Q z=>by
 obtain⟨M,E,S,d,S',e,r,st,q⟩:=z
 obtain⟨⟨w1,S1⟩,e1,e⟩:=Ac e
 dsimp only at e
 split at e
 .refine⟨M,E,S,_,S1,e1,r,st,λH1 M1 g1 st1=>?_⟩
  refine Yy ?_
  exact⟨M1,E,S1,d,S',e,r.step g1.st,st1,λv H2 M2 g2 st2 r2=>q _ _ M2 (g1.trans g2) st2 r2⟩
 .refine⟨M,E,S,_,S1,e1,r,st,λH1 M1 g1 st1=>?_⟩
  refine Ze ?_
  exact⟨M1,E,S1,d,S',e,r.step g1.st,st1,λv H2 M2 g2 st2 r2=>q _ _ M2 (g1.trans g2) st2 r2⟩
 .cases e⟩
end
inductive Fl where
 |nx
 |ret (d:D)
abbrev Ex:=En->Sto->uR (Fl×En×Sto)
def End(K:W1)(M:Ms)(H:Hp)(Dn:Ends)(E':En)(S':Sto):Fl->Prop
 | .nx=>∀σ' H' M',Gr M H M' H'->EnR K M' E' σ' H'->StR K M' S' H'->Dn.nx σ' H'
 | .ret d=>∀v H' M',Gr M H M' H'->StR K M' S' H'->BM K M' H' v d->Dn.rt v H'
inductive tX(K:W1)(f:Ex)(Dn:Ends)(σ:Sg)(H:Hp):Prop
 |mk (M:Ms) (E:En) (S:Sto) (fl:Fl) (E':En) (S':Sto) (e:f E S=Gc (fl,E',S')) (r:EnR K M E σ H) (st:StR K M S H) (q:End K M H Dn E' S' fl)
structure DS(X:Cx)(st:vH)(f:Ex):Prop where
 pe:PS X st (tX X.K f)
structure DSs(X:Cx)(st:Wp vH)(f:Ex):Prop where
 pe:PSs X st (tX X.K f)
def Fc(h:PS X e t)(m:∀Dn σ H,t' Dn σ H->t Dn σ H):PS X e t':=λpins s σ H Dn I q=>h pins s σ H Dn I (m _ _ _ q)
def Ov(h:PSs X e t)(m:∀Dn σ H,t' Dn σ H->t Dn σ H):PSs X e t':=λpins s σ H Dn I q=>h pins s σ H Dn I (m _ _ _ q)
def End.later{M M1:Ms}(q:End K M H Dn E' S' fl)(g:Gr M H M1 H1):End K M1 H1 Dn E' S' fl:=by
 cases fl with
 |nx=>exact λσ' H' M' g' r st=>q σ' H' M' (g.trans g') r st
 |ret d=>exact λv H' M' g' st r=>q v H' M' (g.trans g') st r
noncomputable def AN(f g:Ex):Ex:=λE S=>(f E S).bind λr=>match r.1 with
 | .nx=>g r.2.1 r.2.2
 | .ret w=>Gc (.ret w,r.2)
noncomputable def BO:Ex:=λE S=>Gc (.nx,E,S)
section
variable{X:Cx}{st:vH}{rest a b:Wp vH}{f g h:Ex}{c e:vi}{k:Ev}{pos:Pos}
def CO:DSs X [] BO:=⟨Ov bZ λDn σ H z=>by
 obtain⟨M,E,S,fl,E',S',e,r,st,q⟩:=z
 cases e
 exact q _ _ M (.refl st.mo) r st⟩
def Aa(h1:DS X st f)(h2:DSs X rest g):DSs X (st::rest) (AN f g):=⟨Ov (OL h1.pe h2.pe) λDn σ H z=>by
 obtain⟨M,E,S,fl,E',S',e,r,st,q⟩:=z
 obtain⟨⟨f1,E1,S1⟩,e1,e⟩:=Ac e
 dsimp only at e
 split at e
 .exact⟨M,E,S,.nx,E1,S1,e1,r,st,λσ1 H1 M1 g1 r1 st1=>⟨M1,E1,S1,fl,E',S',e,r1,st1,q.later g1⟩⟩
 .cases e
  exact⟨M,E,S,.ret _,_,_,e1,r,st,q⟩⟩
def Aq(h1:DS X st f):DSs X [st] f:=⟨KR h1.pe⟩
noncomputable def xIf(c:Ev)(f g:Ex):Ex:=λE S=>(c E S).bind λr=>match r.1 with
 | .bl true=>f E r.2
 | .bl false=>g E r.2
 |_=>none
def HG(hc:DT X c k)(ha:DSs X a f)(hb:DSs X b g):DS X (.If c a b pos) (xIf k f g):=⟨Fc (mX hc.pe ha.pe hb.pe) λDn σ H z=>by
 obtain⟨M,E,S,fl,E',S',e,r,st,q⟩:=z
 obtain⟨⟨w1,S1⟩,e1,e⟩:=Ac e
 dsimp only at e
 split at e
 .refine⟨M,E,S,_,S1,e1,r,st,λH1 M1 g1 st1=>?_⟩
  refine Yy ?_
  exact⟨M1,E,S1,fl,E',S',e,r.step g1.st,st1,q.later g1⟩
 .refine⟨M,E,S,_,S1,e1,r,st,λH1 M1 g1 st1=>?_⟩
  refine Ze ?_
  exact⟨M1,E,S1,fl,E',S',e,r.step g1.st,st1,q.later g1⟩
 .cases e⟩
noncomputable def AZ(k:Ev):Ex:=λE S=>(k E S).map λr=>(.ret r.1,E,r.2)
def CP(h:DE X e k):DS X (.Return (Gc e) pos) (AZ k):=⟨Fc (Ry h.pe) λDn σ H z=>by
 obtain⟨M,E,S,fl,E',S',e,r,st,q⟩:=z
 obtain⟨⟨d,S1⟩,e1,e⟩:=IV e
 cases e
 exact⟨M,E,S,d,S1,e1,r,st,λv H1 M1 g1 st1 r1=>q _ _ M1 g1 st1 r1⟩⟩
end
section
variable{K:W1}
def EnR.put(r:EnR K M E σ H)(rd:BM K M H v d):EnR K M (E.set i (Gc d)) (σ.set i (Gc v)) H:=by
 refine⟨by rw[wU,wU];exact r.len,λj e ej=>?_⟩
 by_cases h:i=j
 .subst h
  by_cases hi:i<E.length
  .rw[uh hi]at ej
   cases ej
   exact⟨v,uh (by rw[<-r.len];exact hi),rd⟩
  .rw[List.getElem?_eq_none_iff.mpr (by rw[wU];lia)]at ej;cases ej
 .rw[uV h]at ej
  obtain⟨v',h1,h2⟩:=r.val j e ej
  exact⟨v',by rw[uV h];exact h1,h2⟩
end
noncomputable def Ay(i:Nat)(k:Ev):Ex:=λE S=>(k E S).map λr=>(.nx,E.set i (Gc r.1),r.2)
def Er{X:Cx}{e:vi}{pos pos':Pos} i(h:DE X e k)(hN:X.N.Nodup)(hi:zn (X.N[i]?=Gc x) ww)(hx:zn (Loc X.env.scope x) wn)(hs:zn (swapsWith e (Gc (.Name x pos')) pos.line X.env=pure false) ww)(hf:zn (X.fn x=true\/X.env.scope.names.lookup x=Gc .local) wf):DS X (.Assign [.Name x pos'] e pos) (Ay i k):=⟨
 Fc (Zd hN hi hx h.pe hs hf) λDn σ H z=>by
  obtain⟨M,E,S,fl,E',S',e,r,st,q⟩:=z
  obtain⟨⟨d,S1⟩,e1,e⟩:=IV e
  cases e
  exact⟨M,E,S,d,S1,e1,r,st,λv H1 M1 g1 st1 r1=>q _ _ M1 g1 ((r.step g1.st).put r1) st1⟩⟩
noncomputable def Bo(k:Ev):Ex:=λE S=>(k E S).map λr=>(.nx,E,r.2)
def Ke(h:DE X e k)(hs:zn (swapsWith e none pos.line X.env=pure false) ww):DS X (.Expr e pos) (Bo k):=⟨Fc (Ua h.pe hs) λDn σ H z=>by
 obtain⟨M,E,S,fl,E',S',e,r,st,q⟩:=z
 obtain⟨⟨d,S1⟩,e1,e⟩:=IV e
 cases e
 exact⟨M,E,S,d,S1,e1,r,st,λv H1 M1 g1 st1 r1=>q _ _ M1 g1 (r.step g1.st) st1⟩⟩
noncomputable def Ek(S:Sto)(n:Nat):uR (Wp D):=match S[n]? with
 |some (.lst ds)=>Gc ds
 |_=>none
def E9(h:Ek S n=Gc ds):S[n]?=Gc (.lst ds):=by
 unfold Ek at h
 split at h
 .rename_i e
  cases h
  exact e
 .cases h
abbrev Mo:=Sto->Wp D->Wp D->uR (D×Wp D)
noncomputable def NC(op:Mo)(f:Ev)(fs:Wp Ev):Ev:=λE S=>(f E S).bind λr=>match r.1 with
 | .ref n=>(Ek r.2 n).bind λ_=>(evs fs E r.2).bind λp=>(Ek p.2 n).bind λds=>(op p.2 ds p.1).map λq=>(q.1,p.2.set n (.lst q.2))
 |_=>none
inductive l9(K:W1)(op:Mo)(x:V)(vs:Wp V)(H:Hp)(Q:VK):Prop
 |mk (M:Ms) (S:Sto) (n:Nat) (a:uf) (ds args:Wp D) (d:D) (ds':Wp D) (hx:x=.ref a) (hc:M.cel[n]?=Gc a) (hn:S[n]?=Gc (.lst ds)) (e:op S ds args=Gc (d,ds')) (st:StR K M S H) (ra:Ae K M H vs args) (q:∀v H',StR K M (S.set n (.lst ds')) H'->Gr M H M H'->BM K M H' v d->Q v H')
section
variable{X:Cx}
def hO(h:tD X.K (NC op f fs) σ H Q):tBM X.K "list" (l9 X.K op) (tD X.K f) (tDs X.K fs) σ H Q:=by
 obtain⟨M,E,S,d,S',e,r,st,q⟩:=h
 obtain⟨⟨d1,S1⟩,e1,e⟩:=Ac e
 dsimp only at e
 split at e
 .rename_i n
  obtain⟨ds0,e2,e⟩:=Ac e
  obtain⟨⟨args,S2⟩,e3,e⟩:=Ac e
  obtain⟨ds,e4,e⟩:=Ac e
  obtain⟨⟨dd,ds'⟩,e5,e⟩:=IV e
  cases e
  refine⟨M,E,S,_,S1,e1,r,st,λv H1 M1 g1 st1 r1=>?_⟩
  cases r1 with
  |ref hc=>
   rename_i a
   obtain⟨xs,h1,h2⟩:=st1.cell n a _ hc (E9 e2)
   refine⟨.inl ⟨rfl,xs,.of h1⟩,?_⟩
   refine Ee e3 (r.step g1.st) st1 λvs H2 M2 g2 st2 r2=>?_
   exact⟨M2,S2,n,a,ds,args,dd,ds',rfl,MQ g2.pre hc,E9 e4,e5,st2,r2,λv H3 st3 g3 r3=>q _ _ M2 ((g1.trans g2).trans g3) st3 r3⟩
 .cases e
def kP{id:xq}{name:Str}{apos cpos:Pos}(slot:Slot "list" name id)(hty:typeOf (.builtin id)=pure (.type "method_descriptor"))(hm:MtR X id (l9 X.K op))(ho:DE X o f)(ha:DEs X (e::es) fs)(hbase:zn (attributeBase o name X.env (eval o X.env)=eval o X.env) ww)(hfew:zn (((backTo cpos (ue (e::es) X.env)).all (λx=> !x.1) && (backToKw cpos (keywordEach [] X.env)).all (λx=>x.1.isSome) && decide ((e::es).length+([]:Wp AAg).length+(if([]:Wp AAg).isEmpty then 0 else 1)<30))=true) ww)(hline:zn ((apos.endLine==cpos.line)=true) ww)(hs:zn (ue (e::es) X.env=(false,eval e X.env)::ue es X.env) ww)(hplain:zn ((backTo cpos (ue es X.env)).any (·.1)=false) ww):DE X (.Call (.Attribute o name apos) (e::es) [] cpos) (NC op f fs):=⟨Ax (nJ PySem.F.plainAttrs_list slot hty hm ho.pe ha.pe hbase hfew hline hs hplain) λσ H Q z=>hO z⟩
noncomputable def Nt:Mo
 |_,ds,[x]=>if ds.length<sizeLine then Gc (.non,ds++[x])else none
 |_,_,_=>none
def RQ(h:Ae K M H vs [d]):∃v,vs=[v]/\BM K M H v d:=by
 cases h with
 |cons h t=>cases t;exact⟨_,rfl,h⟩
def dS:MtR X "list.append" (l9 X.K Nt):=by
 intro pins s σ H x vs v us Q I rx rv h
 obtain⟨M,S,n,a,ds,args,d,ds',rfl,hc,hn,e,st,ra,q⟩:=h
 unfold Nt at e
 split at e
 .split at e
  .rename_i hz
   cases e
   obtain⟨xs,h1,h2⟩:=st.cell n a _ hc hn
   obtain⟨y,rfl,ry⟩:=RQ ra
   obtain⟨st2,g2⟩:=st.chg hc hn (h2.append (.cons ry .nil))
   exact PF pins s σ H _ _ v us Q I rx rv ⟨a,xs,y,rfl,rfl,h1,by rw[h2.length];exact hz,q _ _ st2 g2 .non⟩
  .cases e
 .cases e
end
noncomputable def Mq(k f o:Ev):Ex:=λE S=>(k E S).bind λr=>(f E r.2).bind λb=>(o E b.2).bind λi=>match b.1,i.1 with
 | .ref n,.int j=>(Ek i.2 n).bind λds=>(ixN ds.length j).map λm=>(.nx,E,i.2.set n (.lst (ds.set m r.1)))
 |_,_=>none
def lI {ps pos:Pos}(h:DE X e k)(hb:DE X bs f)(ht:DE X t o)(ha:zn (∀v,assign (.Subscript bs t ps) X.env v=(do
      let ov ← holding [v] (eval bs X.env)
      let iv ← holding [v, ov] (eval t X.env)
      standAt ps
      holding [v, ov, iv] (setItem ov iv v)
      release [v, ov, iv] [])) wv)
    (hs:zn (swapsWithSole [.Subscript bs t ps] e pos.line X.env=pure false) ww)(hw:zn (swappedStores [.Subscript bs t ps] e X.env=pure none) ww)
    (h1:zn ((assignEach [.Subscript bs t ps] X.env).map (·.2)=[assign (.Subscript bs t ps) X.env]) ww) :
    DS X (.Assign [.Subscript bs t ps] e pos) (Mq k f o):=⟨
  Fc (ZT h.pe (gJ hb.pe ht.pe set_list ha) hs hw h1) fun Dn σ H z => by
    obtain⟨M,E,S,fl,E',S',e,r,st,q⟩:=z
    obtain⟨⟨d,S1⟩,e1,e⟩:=Ac e
    obtain⟨⟨b,S2⟩,e2,e⟩:=Ac e
    obtain⟨⟨i,S3⟩,e3,e⟩:=Ac e
    dsimp only at e e1 e2 e3
    split at e
    · rename_i n j _
      obtain⟨ds,e4,e⟩:=Ac e
      obtain⟨m,e5,e⟩:=IV e
      cases e
      refine ⟨M, E, S, d, S1, e1, r, st, fun v H1 M1 g1 st1 r1 => ?_⟩
      refine ⟨M1, E, S1, _, S2, e2, r.step g1.st, st1, fun bv H2 M2 g2 st2 r2 => ?_⟩
      refine ⟨M2, E, S2, _, S3, e3, (r.step g1.st).step g2.st, st2, fun iv H3 M3 g3 st3 r3 => ?_⟩
      cases r3
      cases r2 with
      | ref hc =>
        rename_i a
        have hc3:=MQ g3.pre hc
        obtain⟨xs,h1,h2⟩:=st3.cell n a _ hc3 (E9 e4)
        obtain⟨st4,g4⟩:=st3.chg hc3 (E9 e4) (h2.set ((r1.step g2.st).step g3.st) m)
        have g:=((g1.trans g2).trans g3).trans g4
        exact ⟨a, xs, j, m, rfl, rfl, h1, by rw [h2.length]; exact e5, q _ _ M3 g (r.step g.st) st4⟩
    · cases e⟩
abbrev Fn:=Wp D->Sto->uR (D×Sto)
noncomputable def flD:Fl->D
 | .nx=>.non
 | .ret d=>d
noncomputable def AV(N:Nat)(body:Ex):Fn:=λds S=>(body (ds.map Gc++uo (N-ds.length) none) S).map λr=>(flD r.1,r.2.2)
def AS{α:Type}(a:α):α:=Classical.choose (⟨a,rfl⟩:∃x,x=a)
def JM(a:α):AS a=a:=Classical.choose_spec (⟨a,rfl⟩:∃x,x=a)
inductive spD(K:W1)(np:Nat)(f:Fn)(vs:Wp V)(H:Hp)(Q:VK)(E:XK):Prop
 |mk (M:Ms) (ds:Wp D) (S:Sto) (d:D) (S':Sto) (l:ds.length=np) (e:f ds S=Gc (d,S')) (r:Ae K M H vs ds) (st:StR K M S H) (q:∀v H' M',Gr M H M' H'->StR K M' S' H'->BM K M' H' v d->Q v H')
def Pw{α:Type}{xs:Wp α}{i:Nat}{x:α}(h:(xs.map Gc)[i]?=Gc (Gc x)):xs[i]?=Gc x:=by
 rw[um]at h
 cases e:xs[i]? with
 |none=>rw[e]at h;cases h
 |some y=>rw[e]at h;cases h;rfl
def UI{α:Type}{xs:Wp (uR α)}{k i:Nat}{x:α}(h:(xs++uo k none)[i]?=Gc (Gc x)):xs[i]?=Gc (Gc x):=by
 by_cases hi:i<xs.length
 .rw[uT hi]at h;exact h
 .rw[vI (by lia),y7]at h
  split at h<;>cases h
def bz{α:Type}{xs:Wp (uR α)}{k i:Nat}{x:uR α}(h:xs[i]?=Gc x):(xs++uo k none)[i]?=Gc x:=by
 rw[uT (ua.mp h).1];exact h
def EnR.args(r:Ae K M H vs ds) k:EnR K M (ds.map Gc++uo k none) (vs.map Gc++uo k none) H:=by
 refine⟨by simp[r.length],λi d e=>?_⟩
 obtain⟨v,h1,h2⟩:=r.get (Pw (UI e))
 exact⟨v,bz (by rw[um,h1];rfl),h2⟩
def gT(Fu:Fun K x x st f fd)(S:Aj N ps (AB st))(hp:ps.length=np)(hb:∀cdv A outer s H E,Cj k (A.deeper (u4 x (AB st) s.heap.objs.size f cdv))->DSs (IW CX0 P w K mg base N x (AB st) f cdv A outer s H E).nox (Ar st) b):Ji P w K mg base CX0 (k+1) f fd ps (spD K np (AS (AV N.length b))):=by
 rw[JM]
 refine Fu.ok S (λvs H Q E h=>?_) (λcdv A outer s H vs Q E hr h=>?_)
 .obtain⟨M,ds,S0,d,S',hl,_,r,_⟩:=h
  have:=r.length
  lia
 .obtain⟨M,ds,S0,d,S',hl,e,r,st,q⟩:=h
  have hlen:=r.length
  refine⟨_,(hb cdv A outer s H E hr).pe,?_⟩
  obtain⟨⟨fl,E',S1⟩,e1,e⟩:=IV e
  cases e
  refine⟨M,_,S0,fl,E',S1,e1,?_,st,?_⟩
  .rw[show L2.start N vs=vs.map Gc++uo (N.length-ds.length) none from by unfold L2.start;rw[hlen]]
   exact .args r _
  .cases fl with
   |nx=>exact λσ' H' M' g _ st'=>q _ _ M' g st' .non
   |ret d=>exact λv H' M' g st' r'=>q _ _ M' g st' r'
def kQ(S:St.Src K mg x st)(sc:Aj N ps (AB st))(hp:ps.length=np)(hbi:∀f fd,Fun K x x st f fd->Binds K fd ps [])(hb:∀f cdv A outer s H E,Cj k (A.deeper (u4 x (AB st) s.heap.objs.size f cdv))->DSs (IW CX0 P w K mg base N x (AB st) f cdv A outer s H E).nox (Ar st) b):St.Dfn P w K mg base x (k+1) ps (spD K np (AS (AV N.length b))):=by
 obtain⟨f,fd,Fu,hm⟩:=S.ex
 exact⟨f,fd,hm,Fu.kp,hbi f fd Fu,gT Fu sc hp λcdv A outer s H E hr=>hb f cdv A outer s H E hr⟩
noncomputable def AF(f:Fn)(fs:Wp Ev):Ev:=λE S=>(evs fs E S).bind λr=>f r.1 r.2
def U3(hn:fs.length=np)(h:tD K (AF f fs) σ H Q):dQ (spD K np f) [] E0 (tDs K fs) σ H Q:=by
 obtain⟨M,E,S,d,S',e,r,st,q⟩:=h
 obtain⟨⟨ds,S1⟩,e1,e⟩:=Ac e
 refine Ee e1 r st λvs H1 M1 g1 st1 r1=>?_
 rw[vt]
 exact⟨M1,ds,S1,d,S',by rw[Hm e1];exact hn,e,r1,st1,λv H2 M2 g2 st2 r2=>q _ _ M2 (g1.trans g2) st2 r2⟩
def cQ{X:Cx}{k np:Nat}{x:Str}{ps:Wp Str}{p pos:Pos}(d:St.Dfn X.prog X.w X.K X.mg X.base x k ps (spD X.K np f))(hr:Cj k X.A)(hg:Gl X x)(ha:DEs X (e::es) fs)(hn:zn (fs.length=np) ww)(hdb:zn ((x==("__debug__":Str))=false) xz)(he:zn (ue (e::es) X.env=(false,eval e X.env)::ue es X.env) ww)(hpl:zn ((backTo pos (ue es X.env)).any (·.1)=false) ww):DE X (.Call (.Name x p) (e::es) [] pos) (AF f fs):=⟨Ax (St.oA d hr hg ha.pe hdb he hpl) λσ H Q z=>U3 hn z⟩
abbrev Tf:=D->En->Sto->uR En
inductive tG(K:W1)(t:Tf)(v:V)(σ:Sg)(H:Hp)(Q:St->Hp->Prop):Prop
 |mk (M:Ms) (d:D) (E E':En) (S:Sto) (e:t d E S=Gc E') (r:EnR K M E σ H) (st:StR K M S H) (rd:BM K M H v d) (q:∀σ',EnR K M E' σ' H->Q σ' H)
structure DG(X:Cx)(tg:vi)(t:Tf):Prop where
 pe:PG X tg (tG X.K t)
noncomputable def tNm(i:Nat):Tf:=λd E _=>Gc (E.set i (Gc d))
def VO(h:PG X e t)(m:∀v σ H Q,t' v σ H Q->t v σ H Q):PG X e t':=λpins s σ H v u Q I r q=>h pins s σ H v u Q I r (m _ _ _ _ q)
def HF{X:Cx}{pos:Pos} i(hN:X.N.Nodup)(hi:zn (X.N[i]?=Gc x) ww)(hx:zn (Loc X.env.scope x) wn)(hf:zn (X.fn x=true\/X.env.scope.names.lookup x=Gc .local) wf):DG X (.Name x pos) (tNm i):=⟨VO (aJ hN hi hx hf) λv σ H Q z=>by
 obtain⟨M,d,E,E',S,e,r,st,rd,q⟩:=z
 cases e
 exact q _ (r.put rd)⟩
noncomputable def tMs:Wp Tf->Wp D->En->Sto->uR En
 | [],[],E,_=>Gc E
 |t::ts,d::ds,E,S=>(t d E S).bind λE1=>tMs ts ds E1 S
 |_,_,_,_=>none
noncomputable def tTp(ts:Wp Tf):Tf:=λd E S=>match d with
 | .tup ds=>tMs ts ds E S
 | .lst ds=>tMs ts ds E S
 | .ref n=>(Ek S n).bind λds=>tMs ts ds E S
 |_=>none
noncomputable def tGs(K:W1):Wp Tf->TGs
 | []=>qi
 |t::ts=>fq (tG K t) (tGs K ts)
theorem SA{K:W1}{M:Ms}{H:Hp}{S:Sto}(st:StR K M S H):∀{ts} {ds} {vs} {E E'} {σ} {Q:Sg->Hp->Prop},tMs ts ds E S=Gc E'->EnR K M E σ H->Ae K M H vs ds->(∀σ',EnR K M E' σ' H->Q σ' H)->tGs K ts vs σ H Q
 | [],[],_,E,E',σ,Q,e,r,rd,q=>by
   cases e
   cases rd
   exact⟨rfl,q _ r⟩
 |t::ts,d::ds,_,E,E',σ,Q,e,r,rd,q=>by
  obtain⟨E1,e1,e⟩:=Ac e
  cases rd with
  |cons h1 h2=>exact⟨_,_,rfl,M,d,E,E1,S,e1,r,st,h1,λσ1 r1=>SA st e r1 h2 q⟩
 | [],_::_,_,E,E',σ,Q,e,r,rd,q=>by cases e
 |_::_,[],_,E,E',σ,Q,e,r,rd,q=>by cases e
theorem OT:∀{ts} {ds} {E E'} {S},tMs ts ds E S=Gc E'->ds.length=ts.length
 | [],[],_,_,_,_=>rfl
 |t::ts,d::ds,E,E',S,e=>by
  obtain⟨E1,e1,e⟩:=Ac e
  simp[OT e]
 | [],_::_,_,_,_,e=>by cases e
 |_::_,[],_,_,_,e=>by cases e
structure DGs(X:Cx)(es:Wp vi)(ts:Wp Tf):Prop where
 pe:PGs X es (tGs X.K ts)
def Lx:DGs X [] []:=⟨du⟩
def Cr(h:DG X e t)(g:DGs X es ts)(hs:zn ((assignEach (e::es) X.env).map (·.2)=assign e X.env::(assignEach es X.env).map (·.2)) ww):DGs X (e::es) (t::ts):=⟨XC h.pe g.pe hs⟩
def WN{X:Cx}{k:Nat}{pos:Pos}(hc:X.calm=true)(h:DGs X es ts)(hn:zn ((assignEach es X.env).length=ts.length) ww)(hst:zn ((assignEach es X.env).findIdx? (·.1)=none) ww):DG X (.Tuple es k pos) (tTp ts):=⟨
 VO (kJ hc h.pe hn hst) λv σ H Q z=>by
  obtain⟨M,d,E,E',S,e,r,st,rd,q⟩:=z
  unfold tTp at e
  split at e
  .cases rd with
   |tup h1 h2=>exact⟨_,_,rfl,.inl h1,by rw[h2.length];exact OT e,SA st e r h2 q⟩
  .cases rd with
   |lst h1 n h2=>exact⟨_,_,rfl,.inr h1,by rw[h2.length];exact OT e,SA st e r h2 q⟩
  .obtain⟨ds,e1,e⟩:=Ac e
   cases rd with
   |ref hc=>
    obtain⟨xs,h1,h2⟩:=st.cell _ _ _ hc (E9 e1)
    exact⟨_,_,rfl,.inr h1,by rw[h2.length];exact OT e,SA st e r h2 q⟩
  .cases e⟩
noncomputable def II(t:Tf)(k:Ev):Ex:=λE S=>(k E S).bind λr=>(t r.1 E r.2).map λE'=>(.nx,E',r.2)
def Q8{pos:Pos}(h:DE X e k)(hg:DG X tg t)(hs:zn (swapsWithSole [tg] e pos.line X.env=pure false) ww)(hw:zn (swappedStores [tg] e X.env=pure none) ww)(h1:zn ((assignEach [tg] X.env).map (·.2)=[assign tg X.env]) ww):DS X (.Assign [tg] e pos) (II t k):=⟨Fc (ZT h.pe hg.pe hs hw h1) λDn σ H z=>by
 obtain⟨M,E,S,fl,E',S',e,r,st,q⟩:=z
 obtain⟨⟨d,S1⟩,e1,e⟩:=Ac e
 obtain⟨E2,e2,e⟩:=IV e
 cases e
 exact⟨M,E,S,d,S1,e1,r,st,λv H1 M1 g1 st1 r1=>⟨M1,d,E,_,S1,e2,r.step g1.st,st1,r1,λσ' r2=>q _ _ M1 g1 r2 st1⟩⟩⟩
noncomputable def Tx(i j:Nat)(f g:Ev):Ex:=λE S=>(evs [f,g] E S).bind λr=>match r.1 with
 | [d,d']=>Gc (.nx,(E.set i (Gc d)).set j (Gc d'),r.2)
 |_=>none
def qG{pt2 pos:Pos}(hc:X.calm=true)(hN:X.N.Nodup)(hi:X.N[i]?=Gc x)(hj:X.N[j]?=Gc y)(hij:i≠j)(hx:X.env.scope.names.lookup x=Gc .local)(hy:X.env.scope.names.lookup y=Gc .local)(ha:DE X a f)(hb:DE X b g)(hw:zn (swappedStores [.Tuple [.Name x px,.Name y py] kt pt] (.Tuple [a,b] k2 pt2) X.env=pure (Gc [x,y])) ww)(hsa:zn (ue [a,b] X.env=(false,eval a X.env)::ue [b] X.env) ww)(hsb:zn (ue [b] X.env=(false,eval b X.env)::ue [] X.env) ww)(hs:zn (swapsWithSole [.Tuple [.Name x px,.Name y py] kt pt] (.Tuple [a,b] k2 pt2) pos.line X.env=pure false) ww):DS X (.Assign [.Tuple [.Name x px,.Name y py] kt pt] (.Tuple [a,b] k2 pt2) pos) (Tx i j f g):=⟨by
 refine Fc (i0 hc hN hi hj hij hx hy (F5 ha.pe (F5 hb.pe NU hsb) hsa) hw hs) λDn σ H z=>?_
 obtain⟨M,E,S,fl,E',S',e,r,st,q⟩:=z
 obtain⟨⟨ds,S1⟩,e1,e⟩:=Ac e
 refine Ee (K:=X.K) (fs:=[f,g]) e1 r st λvs H1 M1 g1 st1 r1=>?_
 dsimp only at e
 split at e
 .rename_i d d'
  cases e
  cases r1 with
  |cons h1 t=>
   cases t with
   |cons h2 t=>
    cases t
    exact⟨_,_,rfl,q _ _ M1 g1 (((r.step g1.st).put h1).put h2) st1⟩
 .cases e⟩
noncomputable def CY:Ex:=λ_ _=>none
def IQ:DS X st CY:=⟨λ_ _ _ _ _ _ z=>by
 obtain⟨M,E,S,fl,E',S',e,_⟩:=z
 cases e⟩
abbrev Gd:=Wp (Nat×Wp D)
def gOk(gs:Gd)(S:Sto):Prop:=∀g∈gs,Ek S g.1=Gc g.2
abbrev Sr:=En->Sto->uR ((Wp D×Gd)×Sto)
structure jB(K:W1)(M:Ms)(H:Hp)(gs:Gd)(ds:Wp D)(J:It):Prop where
 go:∀(i:Nat) (H2:Hp) (M2:Ms) (S2:Sto),Sp1 M H M2 H2->StR K M2 S2 H2->gOk gs S2->i<ds.length->J.go i H2
 stop:∀(i:Nat) (H2:Hp) (M2:Ms) (S2:Sto),Sp1 M H M2 H2->StR K M2 S2 H2->gOk gs S2->ds.length<=i->J.stop i H2
 yld:∀(i:Nat) (H2:Hp) (M2:Ms) (S2:Sto) (x:V) (H3:Hp) (d:D),Sp1 M H M2 H2->StR K M2 S2 H2->gOk gs S2->ds[i]?=Gc d->J.yld i H2 x H3->(∀a o,H2 a=Gc o->H3 a=Gc o)/\BM K M2 H3 x d
inductive tI(K:W1)(s:Sr)(σ:Sg)(H:Hp)(R:It->Hp->Prop):Prop
 |mk (M:Ms) (E:En) (S:Sto) (ds:Wp D) (gs:Gd) (S':Sto) (e:s E S=Gc ((ds,gs),S')) (r:EnR K M E σ H) (st:StR K M S H) (q:∀J H' M',Gr M H M' H'->StR K M' S' H'->jB K M' H' gs ds J->R J H')
structure DI(X:Cx)(tg iter:vi)(s:Sr):Prop where
 pe:PI X tg iter (tI X.K s)
def Oa(h:PI X tg e t)(m:∀σ H R,t' σ H R->t σ H R):PI X tg e t':=λpins s σ H R I q=>h pins s σ H R I (m _ _ _ q)
noncomputable def tH(K:W1)(tl:TE):TI:=λσ H R=>tl σ H λx H1=>∃a,x=.ref a/\(((∃xs,SqL K H1 a xs)/\R (Itl K a) H1)\/((∃xs,SqT K H1 a xs)/\R (Itt K a) H1))
def jW(hl:PE X l tl):PI X tg l (tH X.K tl):=by
 intro pins s σ H R I h
 refine thn (hl pins s σ H _ I h) λv s1 z=>?_
 obtain⟨x,H1,I1,r1,q1⟩:=z
 obtain⟨a,e,q1⟩:=q1
 subst e
 cases r1
 rcases q1 with⟨⟨xs,hq⟩,q⟩|⟨⟨xs,hq⟩,q⟩
 .obtain⟨its,rv,p,hz⟩:=I1.list hq
  refine wZ p.isList ?_
  refine⟨s1.heap.objs.size,[s1.heap.objs.size],_,_,H1,rfl,I1.kept (t':=s1.toks) λb o e=>uQ _ e,Uk a _,⟨_,ux _ rfl,rfl,rfl⟩,λb hb=>?_,q⟩
  have e:b=s1.heap.objs.size:=by simpa using hb
  subst e
  exact I1.aX (uc _) (I1.hok.fresh (uc _))
 .obtain⟨its,rv,p,hz⟩:=I1.tuple hq
  refine wm (show s1.heap.IsTuple a its.toArray from p) ?_
  refine⟨s1.heap.objs.size,[s1.heap.objs.size],_,_,H1,rfl,I1.kept (t':=s1.toks) λb o e=>uQ _ e,Tj a _,⟨_,ux _ rfl,rfl,rfl⟩,λb hb=>?_,q⟩
  have e:b=s1.heap.objs.size:=by simpa using hb
  subst e
  exact I1.aX (uc _) (I1.hok.fresh (uc _))
def Ae.get'(h:Ae K M H vs ds)(hi:i<ds.length):∃x,vs[i]?=Gc x:=by
 have:=h.length
 exact⟨vs[i],uS (by lia)⟩
structure SqF(K:W1)(M:Ms)(H:Hp)(gs:Gd)(k:vZ)(a:uf)(ds:Wp D):Prop where
 keep:∀(H2:Hp) (M2:Ms) (S2:Sto),Sp1 M H M2 H2->StR K M2 S2 H2->gOk gs S2->∃xs,(if k=true then SqT K H2 a xs else SqL K H2 a xs)/\Ae K M2 H2 xs ds
noncomputable def sqD(S:Sto):D->uR (Wp D×Gd)
 | .tup ds=>Gc (ds,[])
 | .lst ds=>Gc (ds,[])
 | .ref n=>(Ek S n).map λds=>(ds,[(n,ds)])
 | .scr ns=>Gc (ns.map .int,[])
 |_=>none
def RL(st:StR K M S H)(h:BM K M H v d)(e:sqD S d=Gc (ds,gs)):∃k a,v=.ref a/\SqF K M H gs k a ds:=by
 cases h with
 |tup h r=>cases e;exact⟨true,_,rfl,⟨λH2 M2 S2 g _ _=>⟨_,g.sqT h,r.step g⟩⟩⟩
 |lst h n r=>cases e;exact⟨false,_,rfl,⟨λH2 M2 S2 g _ _=>⟨_,SqL.of (g.keep _ _ h n),r.step g⟩⟩⟩
 |scr h=>
  cases e
  refine⟨false,_,rfl,⟨λH2 M2 S2 g _ _=>⟨_,?_,LU⟩⟩⟩
  rcases h with⟨h,n⟩|h
  .rcases h with h|⟨o,h⟩
   .exact .inl (.inl (g.keep _ _ h n))
   .exact .inl (.inr ⟨o,g.keep _ _ h n⟩)
  .exact .inr h
 |ref h=>
  obtain⟨es,e1,e⟩:=IV e
  cases e
  refine⟨false,_,rfl,⟨λH2 M2 S2 g st2 ok=>?_⟩⟩
  obtain⟨xs,h1,h2⟩:=st2.cell _ _ _ (MQ g.pre h) (E9 (ok _ (vQ.mpr rfl)))
  exact⟨xs,SqL.of h1,h2⟩
 |non=>cases e
 |bl b=>cases e
 |int b=>cases e
 |str b=>cases e
 |ty b=>cases e
 |dct h n r=>cases e
def nY(h:SqF K M H gs k a ds):jB K M H gs ds (if k=true then Itt K a else Itl K a):=by
 cases k with
 |true=>
  exact{
   go:=λi H2 M2 S2 g st ok hi=>let⟨xs,h1,h2⟩:=h.keep H2 M2 S2 g st ok;let⟨x,hx⟩:=h2.get' hi;⟨xs,x,h1,hx⟩
   stop:=λi H2 M2 S2 g st ok hi=>let⟨xs,h1,h2⟩:=h.keep H2 M2 S2 g st ok;⟨xs,h1,by have:=h2.length;lia⟩
   yld:=λi H2 M2 S2 x H3 d g st ok hd hy=>by
    obtain⟨xs,h1,h2⟩:=h.keep H2 M2 S2 g st ok
    obtain⟨rfl,hy⟩:=hy
    refine⟨λ_ _ e=>e,?_⟩
    have hx:=hy xs h1
    obtain⟨x',h3,h4⟩:=h2.get hd
    rw[hx]at h3;cases h3
    exact h4}
 |false=>
  exact{
   go:=λi H2 M2 S2 g st ok hi=>let⟨xs,h1,h2⟩:=h.keep H2 M2 S2 g st ok;let⟨x,hx⟩:=h2.get' hi;⟨xs,x,h1,hx⟩
   stop:=λi H2 M2 S2 g st ok hi=>let⟨xs,h1,h2⟩:=h.keep H2 M2 S2 g st ok;⟨xs,h1,by have:=h2.length;lia⟩
   yld:=λi H2 M2 S2 x H3 d g st ok hd hy=>by
    obtain⟨xs,h1,h2⟩:=h.keep H2 M2 S2 g st ok
    obtain⟨rfl,hy⟩:=hy
    refine⟨λ_ _ e=>e,?_⟩
    have hx:=hy xs h1
    obtain⟨x',h3,h4⟩:=h2.get hd
    rw[hx]at h3;cases h3
    exact h4}
noncomputable def F7(f:Ev):Sr:=λE S=>(f E S).bind λr=>(sqD r.2 r.1).map λp=>(p,r.2)
def OC(e:sqD S d=Gc (ds,gs)):gOk gs S:=by
 cases d<;>first|(cases e;done)|skip
 all_goals first
  |(cases e;intro g hg;cases hg;done)
  |(obtain⟨es,e1,e⟩:=IV e
    cases e
    intro g hg
    rw[vQ.mp hg]
    exact e1)
def ZO(h:DE X e f):DI X tg e (F7 f):=⟨Oa (jW h.pe) λσ H R z=>by
 obtain⟨M,E,S,ds,gs,S',e,r,st,q⟩:=z
 obtain⟨⟨d,S1⟩,e1,e⟩:=Ac e
 obtain⟨⟨ds',gs'⟩,e2,e⟩:=IV e
 cases e
 refine⟨M,E,S,d,S1,e1,r,st,λv H1 M1 g1 st1 r1=>?_⟩
 obtain⟨k,a,rfl,sq⟩:=RL st1 r1 e2
 obtain⟨xs,hs,_⟩:=sq.keep H1 M1 S1 (Gr.refl st1.mo).st st1 (OC e2)
 have it:=nY sq
 refine⟨a,rfl,?_⟩
 cases k with
 |true=>exact .inr ⟨⟨xs,hs⟩,q _ _ M1 g1 st1 it⟩
 |false=>exact .inl ⟨⟨xs,hs⟩,q _ _ M1 g1 st1 it⟩⟩
noncomputable def NK(lo:Int)(n:Nat):Wp D:=(u6 n).map λ(i:Nat)=>.int (lo+(i:Int))
theorem jC:jB K M H [] (NK lo n) (Itr lo n) where
 go:=λi H2 M2 S2 g st ok hi=>by
  have:i<n:=by unfold NK at hi;simpa using hi
  exact this
 stop:=λi H2 M2 S2 g st ok hi=>by
  have:n<=i:=by unfold NK at hi;simpa using hi
  exact this
 yld:=λi H2 M2 S2 x H3 d g st ok hd hy=>by
  obtain⟨rfl,rfl⟩:=hy
  refine⟨λ_ _ e=>e,?_⟩
  unfold NK at hd
  rw[um]at hd
  cases e:(u6 n)[i]? with
  |none=>rw[e]at hd;cases hd
  |some j=>
   rw[e]at hd
   cases hd
   have:j=i:=by
    obtain⟨h1,h2⟩:=ua.mp e
    simpa using h2.symm
   subst this
   exact .int _
noncomputable def Oy(fs:Wp Ev):Sr:=λE S=>(evs fs E S).bind λr=>match r.1 with
 | [.int j]=>if(decide (-(2^62)<=j) && decide (j<2^62))=true then Gc ((NK 0 j.toNat,[]),r.2)else none
 | [.int i,.int j]=>if(decide (-(2^62)<=i) && decide (i<2^62) && decide (-(2^62)<=j) && decide (j<2^62))=true then Gc ((NK i (j-i).toNat,[]),r.2)else none
 |_=>none
def RB(h:Ae K M H vs [.int j]):vs=[.int j]:=by
 cases h with
 |cons h t=>cases t;cases h;rfl
def PQ(h:Ae K M H vs [.int i,.int j]):vs=[.int i,.int j]:=by
 cases h with
 |cons h t=>cases h;cases RB t;rfl
def QQ(hg:Gl X "range")(hm:X.mg "range"=none)(ha:DEs X [a] [o])(hs:zn (ue [a] X.env=[(false,eval a X.env)]) ww):DI X tg (.Call (.Name "range" p) [a] [] pos) (Oy [o]):=⟨
 Oa (UA hg hm ha.pe hs) λσ H R z=>by
  obtain⟨M,E,S,ds,gs,S',e,r,st,q⟩:=z
  obtain⟨⟨ws,S1⟩,e1,e⟩:=Ac e
  have hl:=Hm e1
  refine Ee e1 r st λvs H1 M1 g1 st1 r1=>?_
  dsimp only at e
  split at e
  .split at e
   .rename_i j hk
    rw[ub]at hk
    cases e
    exact⟨j,RB r1,ur hk.1,ur hk.2,q _ _ M1 g1 st1 jC⟩
   .cases e
  .simp at hl
  .cases e⟩
open Classical in
def Md(gs:Gd)(t:Tf)(body:Ex):Wp D->En->Sto->uR (Fl×En×Sto)
 | [],E,S=>if gOk gs S then Gc (.nx,E,S)else none
 |d::ds,E,S=>if gOk gs S then(t d E S).bind λE1=>(body E1 S).bind λr=>match r.1 with
  | .nx=>Md gs t body ds r.2.1 r.2.2
  | .ret w=>Gc (.ret w,r.2)
  else none
def NH(s:Sr)(t:Tf)(body:Ex):Ex:=λE S=>(s E S).bind λr=>Md r.1.2 t body r.1.1 E r.2
def O9{α:Type}{xs:Wp α}{x:α}{r:Wp α}(h:xs.drop i=x::r):xs[i]?=Gc x/\xs.drop (i+1)=r/\i<xs.length:=by
 have hi:i<xs.length:=by
  by_cases hi:i<xs.length
  .exact hi
  .rw[vz (by lia)]at h;cases h
 rw[vP hi]at h
 cases h
 exact⟨uS hi,rfl,hi⟩
def Zc(hp:PassesOwn (model X.prog X.w) X.A X.env X.xe)(hc:X.calm=true)(hi:DI X tg iter s)(hg:DG X tg t)(hb:DSs X body b)(hs:zn (∀x,foldedSetIterable iter X.env x=pure x) xL):DS X (.For tg iter body [] pos) (NH s t b):=⟨Fc (iX hp hc hi.pe hg.pe hb.pe hs) λDn σ H z=>by
 obtain⟨M,E,S,fl,E',S',e,r,st,q⟩:=z
 obtain⟨⟨⟨ds,gs⟩,S1⟩,e1,e⟩:=Ac e
 dsimp only at e
 refine⟨M,E,S,ds,gs,S1,e1,r,st,λJ H1 M1 g1 st1 it=>?_⟩
 refine⟨λi m σ' H'=>m=ds.length-i/\∃E2 S2 M2,Md gs t b (ds.drop i) E2 S2=Gc (fl,E',S')/\Gr M1 H1 M2 H'/\EnR X.K M2 E2 σ' H'/\StR X.K M2 S2 H',⟨_,rfl,E,S1,M1,e,.refl st1.mo,r.step g1.st,st1⟩,λi m σ2 H2 hW=>?_⟩
 obtain⟨rfl,E2,S2,M2,e2,g2,r2,st2⟩:=hW
 cases ed:ds.drop i with
 |nil=>
  rw[ed]at e2
  unfold Md at e2
  split at e2
  .rename_i ok
   cases e2
   left
   exact⟨it.stop i H2 M2 _ g2.st st2 ok (ABe.mp ed),q _ _ M2 (g1.trans g2) r2 st2⟩
  .cases e2
 |cons d rest=>
  obtain⟨d1,d2,d3⟩:=O9 ed
  rw[ed]at e2
  unfold Md at e2
  split at e2
  .rename_i ok
   obtain⟨E3,e3,e2⟩:=Ac e2
   obtain⟨⟨f4,E4,S4⟩,e4,e2⟩:=Ac e2
   dsimp only at e2
   right
   refine⟨it.go i H2 M2 S2 g2.st st2 ok d3,λσ' H'=>∃m',m'<ds.length-i/\(m'=ds.length-(i+1)/\∃E2 S2 M2,Md gs t b (ds.drop (i+1)) E2 S2=Gc (fl,E',S')/\Gr M1 H1 M2 H'/\EnR X.K M2 E2 σ' H'/\StR X.K M2 S2 H'),λσ' H' z=>z,λx H3 hy=>?_⟩
   obtain⟨k3,rx⟩:=it.yld i H2 M2 S2 x H3 d g2.st st2 ok d1 hy
   have g3:Gr M2 H2 M2 H3:=.grow st2.mo k3
   refine⟨M2,d,E2,E3,S2,e3,r2.step g3.st,st2.grow k3,rx,λσ4 r4=>?_⟩
   refine⟨M2,E3,S2,f4,E4,S4,e4,r4,st2.grow k3,?_⟩
   split at e2
   .exact λσ6 H6 M6 g6 r6 st6=>⟨_,ABf _ _ d3,rfl,E4,S4,M6,by rw[d2];exact e2,(g2.trans g3).trans g6,r6,st6⟩
   .cases e2
    exact λv H6 M6 g6 st6 r6=>q _ _ M6 (((g1.trans g2).trans g3).trans g6) st6 r6
  .cases e2⟩
noncomputable def HX(c:Ev)(b:Ex):Nat->En->Sto->uR (Fl×En×Sto)
 |0,_,_=>none
 |k+1,E,S=>(c E S).bind λr=>match r.1 with
  | .bl true=>(b E r.2).bind λp=>match p.1 with
    | .nx=>HX c b k p.2.1 p.2.2
    | .ret w=>Gc (.ret w,p.2)
  | .bl false=>Gc (.nx,E,r.2)
  |_=>none
noncomputable def PB(fuel:En->Nat)(c:Ev)(b:Ex):Ex:=λE S=>HX c b (fuel E) E S
def lS fuel(hp:PassesOwn (model X.prog X.w) X.A X.env X.xe)(hc:DT X c k)(hb:DSs X body b):DS X (.While c body [] pos) (PB fuel k b):=⟨
 Fc (Wz hp hc.pe hb.pe) λDn σ H z=>by
  obtain⟨M,E,S,fl,E',S',e,r,st,q⟩:=z
  refine⟨λm σ' H'=>∃E2 S2 M2,HX k b m E2 S2=Gc (fl,E',S')/\Gr M H M2 H'/\EnR X.K M2 E2 σ' H'/\StR X.K M2 S2 H',⟨fuel E,E,S,M,e,.refl st.mo,r,st⟩,λm σ2 H2 hW=>?_⟩
  obtain⟨E2,S2,M2,e2,g2,r2,st2⟩:=hW
  cases m with
  |zero=>cases e2
  |succ m=>
   obtain⟨⟨w3,S3⟩,e3,e2⟩:=Ac e2
   dsimp only at e2
   split at e2
   .obtain⟨⟨f4,E4,S4⟩,e4,e2⟩:=Ac e2
    refine⟨M2,E2,S2,true,S3,e3,r2,st2,λH3 M3 g3 st3=>?_⟩
    refine Yy ⟨λσ' H'=>∃m',m'<m+1/\∃E2 S2 M2,HX k b m' E2 S2=Gc (fl,E',S')/\Gr M H M2 H'/\EnR X.K M2 E2 σ' H'/\StR X.K M2 S2 H',λσ' H' z=>z,?_⟩
    refine⟨M3,E2,S3,f4,E4,S4,e4,r2.step g3.st,st3,?_⟩
    dsimp only at e2
    split at e2
    .exact λσ5 H5 M5 g5 r5 st5=>⟨m,by lia,E4,S4,M5,e2,(g2.trans g3).trans g5,r5,st5⟩
    .cases e2
     exact λv H5 M5 g5 st5 r5=>q _ _ M5 ((g2.trans g3).trans g5) st5 r5
   .cases e2
    refine⟨M2,_,S2,false,_,e3,r2,st2,λH3 M3 g3 st3=>?_⟩
    refine Ze ?_
    exact q _ _ M3 (g2.trans g3) (r2.step g3.st) st3
   .cases e2⟩
noncomputable def We(i:Nat):En->Nat:=λE=>match at? E i with
 |some (.int j)=>j.natAbs+2
 |_=>0
section
variable{M M' M2:Ms}{H H' H2:Hp}{S:Sto}
structure GrX(M:Ms)(H:Hp)(M':Ms)(H':Hp):Prop where
 pre:M.cel <+: M'.cel
 fresh:∀a,a∈M'.cel->a∈M.cel\/H a=none
 keep:∀a o,H a=Gc o->a∉M.cel->H' a=Gc o
 some:∀a,H a≠none->H' a≠none
def GrX.none(g:GrX M H M' H')(h:H' a=none):H a=none:=by
 cases e:H a with
 |none=>rfl
 |some o=>exact absurd h (g.some a (by rw[e];intro z;cases z))
def Gr.x(g:Gr M H M' H'):GrX M H M' H':=⟨g.pre,g.fresh,g.keep,g.some⟩
def GrX.trans(h:GrX M H M' H')(g:GrX M' H' M2 H2):GrX M H M2 H2:=
 ⟨h.pre.trans g.pre,λa z=>(g.fresh a z).elim (h.fresh a) λz=>.inr (h.none z),λa o e n=>g.keep a o (h.keep a o e n) (λz=>by
   rcases h.fresh a z with z|z
   .exact n z
   .rw[e]at z;cases z),λa e=>g.some a (h.some a e)⟩
def StR.gi(r:StR K M S H)(e:H a=none):StR K ⟨M.cel,a::M.tmp⟩ S (upd H a (.lst []))/\GrX M H ⟨M.cel,a::M.tmp⟩ (upd H a (.lst []))/\Sp1 M H ⟨M.cel,a::M.tmp⟩ (upd H a (.lst [])):=by
 have k:∀b o,H b=Gc o->upd H a (.lst []) b=Gc o:=CS e
 have na:¬M.mem a:=λz=>r.mo.some z e
 have s1:Sp1 M H ⟨M.cel,a::M.tmp⟩ (upd H a (.lst [])):=⟨r.mo,vj,λb z=>by
  rcases z with z|z
  .exact .inl (.inl z)
  .rcases uY.mp z with z|z
   .subst z;exact .inr e
   .exact .inl (.inr z),λb o eb _=>k b o eb⟩
 refine⟨⟨λb z=>?_,r.nd,λb hb z=>?_,r.len,λn b c h1 h2=>?_⟩,⟨vj,λb z=>.inl z,λb o eb _=>k b o eb,λb eb z=>?_⟩,s1⟩
 .by_cases h:b=a
  .subst h;exact⟨_,AX,trivial⟩
  .rw[AM h]
   refine r.mo b ?_
   rcases z with z|z
   .exact .inl z
   .rcases uY.mp z with z|z
    .exact absurd z h
    .exact .inr z
 .rcases uY.mp hb with hb|hb
  .subst hb;exact na (.inl z)
  .exact r.nt b hb z
 .exact(r.cell n b c h1 h2).step s1 λo e=>k _ _ e
 .cases h:H b with
  |none=>exact eb h
  |some o=>rw[k b o h]at z;cases z
def StR.cS(r:StR K M S H)(ha:a∈M.tmp):StR K M S (upd H a (.lst ys))/\Sp1 M H M (upd H a (.lst ys)):=by
 have s1:Sp1 M H M (upd H a (.lst ys)):=⟨r.mo,vj,λb z=>.inl z,λb o eb nb=>by rw[AM (λz=>nb (by rw[z];exact .inr ha))];exact eb⟩
 refine⟨⟨λb z=>?_,r.nd,r.nt,r.len,λn b c h1 h2=>?_⟩,s1⟩
 .by_cases h:b=a
  .subst h;exact⟨_,AX,trivial⟩
  .rw[AM h];exact r.mo b z
 .have hb:b≠a:=λz=>r.nt a ha (by rw[<-z];exact uv h1)
  exact(r.cell n b c h1 h2).step s1 λo e=>by rw[AM hb];exact e
def StR.cm(r:StR K ⟨c,a::t⟩ S H)(nt:a∉t)(e:H a=Gc (.lst xs))(rr:Ae K ⟨c,a::t⟩ H xs ds)(ef:fin cf (.own ds) S=Gc (d,S')):∃c',StR K ⟨c',t⟩ S' H/\BM K ⟨c',t⟩ H (.ref a) d/\c <+: c'/\(∀b∈c',b∈c\/b=a):=by
 have nc:a∉c:=r.nt a uk
 cases cf with
 |false=>
  cases ef
  have s1:Sp1 ⟨c,a::t⟩ H ⟨c,t⟩ H:=⟨r.mo,vj,λb z=>.inl (z.imp id (uW _)),λ_ _ e _=>e⟩
  refine⟨c,⟨λb z=>r.mo b (z.imp id (uW _)),r.nd,λb hb=>r.nt b (uW _ hb),r.len,λn b cl h1 h2=>?_⟩,.lst e (λz=>z.elim nc nt) (rr.step s1),vj,λb z=>.inl z⟩
  exact(r.cell n b cl h1 h2).step s1 λo e=>e
 |true=>
  cases ef
  have s1:Sp1 ⟨c,a::t⟩ H ⟨c++[a],t⟩ H:=⟨r.mo,xS _ _,λb z=>by
   rcases z with z|z
   .rcases vD.mp z with z|z
    .exact .inl (.inl z)
    .exact .inl (.inr (by rw[vQ.mp z];exact uk))
   .exact .inl (.inr (uW _ z)),λ_ _ e _=>e⟩
  have hl:c.length=S.length:=r.len
  refine⟨c++[a],⟨λb z=>?_,?_,λb hb z=>?_,by simp[hl],λn b cl h1 h2=>?_⟩,.ref ?_,xS _ _,λb z=>?_⟩
  .refine r.mo b ?_
   rcases z with z|z
   .rcases vD.mp z with z|z
    .exact .inl z
    .exact .inr (by rw[vQ.mp z];exact uk)
   .exact .inr (uW _ z)
  .rw[yX]
   refine⟨r.nd,by simp,λx hx y hy z=>?_⟩
   simp at hy;subst hy
   exact nc (by rw[<-z];exact hx)
  .rcases vD.mp z with z|z
   .exact r.nt b (uW _ hb) z
   .rw[vQ.mp z]at hb;exact nt hb
  .by_cases h:n<S.length
   .rw[uT (by rw[hl];exact h)]at h1
    rw[uT h]at h2
    exact(r.cell n b cl h1 h2).step s1 λo e=>e
   .have hm:n=S.length:=by
     have:=(ua.mp h2).1
     simp at this;lia
    subst hm
    rw[vI (by rw[hl];exact uc _)]at h1
    rw[vI (uc _)]at h2
    rw[hl]at h1
    simp at h1 h2
    subst h1 h2
    exact⟨xs,e,rr.step s1⟩
  .rw[<-hl];exact uy
  .rcases vD.mp z with z|z
   .exact .inl z
   .exact .inr (vQ.mp z)
end
open Classical in
def BZ(gs:Gd)(t:Tf)(c:Ev)(f:Ev):Wp D->Wp D->En->Sto->uR (Wp D×Sto)
 | [],acc,_,S=>if gOk gs S then Gc (acc,S)else none
 |d::ds,acc,E,S=>if gOk gs S then(if acc.length<sizeLine then(t d E S).bind λE1=>(c E1 S).bind λr=>match r.1 with
   | .bl true=>(f E1 r.2).bind λp=>BZ gs t c f ds (acc++[p.1]) E1 p.2
   | .bl false=>BZ gs t c f ds acc E1 r.2
   |_=>none
  else none)else none
noncomputable def BI:Ev:=λ_ S=>Gc (.bl true,S)
noncomputable def NA(cap:Wp Nat)(m:Nat)(E:En):En:=cap.map (at? E)++uo m none
def NY(cf:vZ)(cap:Wp Nat)(m:Nat)(s:Sr)(t:Tf)(c:Ev)(f:Ev):Ev:=λE S=>(s E S).bind λr=>(BZ r.1.2 t c f r.1.1 [] (NA cap m E) r.2).bind λq=>fin cf (.own q.1) q.2
noncomputable abbrev Bk:=NY false
noncomputable abbrev ZF:=NY true
noncomputable def ixC(cap:Wp Nat)(m:Nat):Wp (uR Nat):=cap.map Gc++uo m none
def EnR.cap(r:EnR K M E σ H) cap m:EnR K M (NA cap m E) (sig (ixC cap m) σ) H:=by
 unfold NA sig ixC
 refine⟨by simp,λi d e=>?_⟩
 have h1:=UI e
 rw[um]at h1
 cases e1:cap[i]? with
 |none=>rw[e1]at h1;cases h1
 |some j=>
  rw[e1]at h1
  have h2:at? E j=Gc d:=by simpa using h1
  obtain⟨v,hv,rd⟩:=r.val j d (at?_some h2)
  refine⟨v,?_,rd⟩
  have hi:i<cap.length:=(ua.mp e1).1
  rw[wV,uT (by simpa using hi),um,um,e1]
  show Gc ((σ[j]?).join)=Gc (Gc v)
  rw[hv]
  rfl
def VM(h:tD K (NY cf cap m s t c f) σ H Q):cn (ixC cap m) (tI K s) (tG K t) (tDT K c) (tD K f) σ H Q:=by
 obtain⟨M,E,S,d,S',e,r,st,q⟩:=h
 obtain⟨⟨⟨ds,gs⟩,S1⟩,e1,e⟩:=Ac e
 obtain⟨⟨accf,Sf⟩,e3,e⟩:=Ac e
 dsimp only at e e3
 refine⟨M,E,S,ds,gs,S1,e1,r,st,λJ H1 M1 g1 st1 it A0 hD=>?_⟩
 obtain⟨st0,gx0,s0⟩:=st1.gi hD
 have nt:A0∉M1.tmp:=λz=>st1.mo.some (.inr z) hD
 refine⟨λi mm σ' H' ys=>mm=ds.length-i/\∃Ei Si Mi acc,BZ gs t c f (ds.drop i) acc Ei Si=Gc (accf,Sf)/\GrX M1 H1 Mi H'/\Mi.tmp=A0::M1.tmp/\EnR K Mi Ei σ' H'/\StR K Mi Si H'/\H' A0=Gc (.lst ys)/\Ae K Mi H' ys acc,
  ⟨_,rfl,_,S1,_,[],e3,gx0,rfl,((r.step g1.st).step s0).cap cap m,st0,AX,.nil⟩,λi mm σ2 H2 ys hW=>?_⟩
 obtain⟨rfl,Ei,Si,Mi,acc,ec,gx,ht,r2,st2,hy,ry⟩:=hW
 have sp:Sp1 M1 H1 Mi H2:=⟨st1.mo,gx.pre,λa z=>by
  rcases z with z|z
  .exact(gx.fresh a z).imp .inl id
  .rw[ht]at z
   rcases uY.mp z with z|z
   .subst z;exact .inr hD
   .exact .inl (.inr z),λa o eo no=>gx.keep a o eo λz=>no (.inl z)⟩
 refine⟨hy,?_⟩
 cases ed:ds.drop i with
 |nil=>
  rw[ed]at ec
  unfold BZ at ec
  split at ec
  .rename_i ok
   cases ec
   left
   obtain⟨ci,ti⟩:=Mi
   have ht':ti=A0::M1.tmp:=ht
   subst ht'
   obtain⟨c',st',rd',pr',sub'⟩:=st2.cm nt hy ry e
   refine⟨it.stop i H2 _ _ sp st2 ok (ABe.mp ed),q _ _ ⟨c',M1.tmp⟩ (g1.trans ⟨st1.mo,gx.pre.trans pr',rfl,λa z=>?_,gx.keep,gx.some⟩) st' rd'⟩
   rcases sub' a z with z|z
   .exact gx.fresh a z
   .subst z;exact .inr hD
  .cases ec
 |cons d rest=>
  obtain⟨d1,d2,d3⟩:=O9 ed
  rw[ed]at ec
  unfold BZ at ec
  split at ec
  .rename_i ok
   split at ec
   .rename_i hz
    obtain⟨E3,e4,ec⟩:=Ac ec
    obtain⟨⟨w5,S5⟩,e5,ec⟩:=Ac ec
    right
    refine⟨it.go i H2 Mi Si sp st2 ok d3,by rw[ry.length];exact hz,λx H3 hyl=>?_⟩
    obtain⟨k3,rx⟩:=it.yld i H2 Mi Si x H3 d sp st2 ok d1 hyl
    have g3:Gr Mi H2 Mi H3:=.grow st2.mo k3
    have st3:=st2.grow k3
    refine⟨Mi,d,Ei,E3,Si,e4,r2.step g3.st,st3,rx,λσ4 r4=>?_⟩
    have hA:A0∈Mi.tmp:=by rw[ht];exact uk
    have hy3:H3 A0=Gc (.lst ys):=k3 _ _ hy
    have ry3:Ae K Mi H3 ys acc:=ry.step g3.st
    have fin:∀{E6:En} {S6:Sto} {M6:Ms} {H6:Hp} {zs:Wp V} {acc6:Wp D},BZ gs t c f rest acc6 E6 S6=Gc (accf,Sf)->GrX M1 H1 M6 H6->M6.tmp=A0::M1.tmp->EnR K M6 E6 σ4 H6->StR K M6 S6 H6->H6 A0=Gc (.lst zs)->Ae K M6 H6 zs acc6->
      ∃m',m'<ds.length-i/\(m'=ds.length-(i+1)/\∃Ei Si Mi acc,BZ gs t c f (ds.drop (i+1)) acc Ei Si=Gc (accf,Sf)/\GrX M1 H1 Mi H6/\Mi.tmp=A0::M1.tmp/\EnR K Mi Ei σ4 H6/\StR K Mi Si H6/\H6 A0=Gc (.lst zs)/\Ae K Mi H6 zs acc):=
     λ{E6 S6 M6 H6 zs acc6} ec g6 t6 r6 st6 h6 y6=>⟨_,ABf _ _ d3,rfl,E6,S6,M6,acc6,by rw[d2];exact ec,g6,t6,r6,st6,h6,y6⟩
    dsimp only at ec
    split at ec
    .obtain⟨⟨w7,S7⟩,e7,ec⟩:=Ac ec
     refine⟨Mi,E3,Si,true,S5,e5,r4,st3,λH5 M5 g5 st5=>?_⟩
     refine Yy ?_
     refine⟨M5,E3,S5,w7,S7,e7,r4.step g5.st,st5,λy H7 M7 g7 st7 d7=>?_⟩
     have nA:∀{M6:Ms} {H6:Hp} {S6:Sto},StR K M6 S6 H6->A0∈M6.tmp->A0∉M6.cel:=λr6 h6=>r6.nt A0 h6
     have hA5:A0∈M5.tmp:=by rw[g5.tmp];exact hA
     have hA7:A0∈M7.tmp:=by rw[g7.tmp];exact hA5
     have hy5:H5 A0=Gc (.lst ys):=g5.keep _ _ hy3 (nA st3 hA)
     have hy7:H7 A0=Gc (.lst ys):=g7.keep _ _ hy5 (nA st5 hA5)
     have ry7:Ae K M7 H7 ys acc:=(ry3.step g5.st).step g7.st
     refine⟨hy7,?_⟩
     obtain⟨st8,s8⟩:=st7.cS (ys:=ys++[y]) hA7
     have gx7:GrX M1 H1 M7 H7:=((gx.trans g3.x).trans g5.x).trans g7.x
     have gx8:GrX M1 H1 M7 (upd H7 A0 (.lst (ys++[y]))):=⟨gx7.pre,gx7.fresh,λa o eo no=>by
      rw[AM (λz=>by subst z;rw[hD]at eo;cases eo)]
      exact gx7.keep a o eo no,λa ea=>by
      by_cases h:a=A0
      .subst h;rw[AX];intro z;cases z
      .rw[AM h];exact gx7.some a ea⟩
     exact fin ec gx8 (by rw[g7.tmp,g5.tmp];exact ht) (((r4.step g5.st).step g7.st).step s8) st8 AX ((ry7.append (.cons d7 .nil)).step s8)
    .refine⟨Mi,E3,Si,false,S5,e5,r4,st3,λH5 M5 g5 st5=>?_⟩
     refine Ze ?_
     exact fin ec ((gx.trans g3.x).trans g5.x) (by rw[g5.tmp];exact ht) (r4.step g5.st) st5 (g5.keep _ _ hy3 (st3.nt A0 hA)) (ry3.step g5.st)
    .cases ec
   .cases ec
  .cases ec
structure DTs(X:Cx)(ifs:Wp vi)(c:Ev):Prop where
 pe:PTs X ifs (tDT X.K c)
def X0(h:PTs X e t)(m:∀σ H Q,t' σ H Q->t σ H Q):PTs X e t':=λpins s σ H Q I q=>h pins s σ H Q I (m _ _ _ q)
def QV:DTs X [] BI:=⟨X0 bG λσ H Q z=>by
 obtain⟨M,E,S,b,S',e,r,st,q⟩:=z
 cases e
 exact q _ M (.refl st.mo) st⟩
def cF(h:DT X c f):DTs X [c] f:=⟨eE h.pe⟩
section
variable{X:Cx}{N':Wp Str}{cf:vZ}{scope:wX}{elt tg iter:vi}{pos:Pos}{t:Tf}
def Blk(X:Cx)(N':Wp Str)(scope:wX)(tg:vi)(ifs:Wp vi)(elt:vi)(t:Tf)(c f:Ev):Prop:=
 ∀(s:ui) (H:Hp) (fp:Wp uf),DG (Hd X N' scope s H fp) tg t/\DTs (Hd X N' scope s H fp) ifs c/\DE (Hd X N' scope s H fp) elt f
def Q1 cap m N'(hc:X.calm=true)(S:AO X.N X.env.scope N' (ixC cap m) scope)(hi:DI X tg iter s)(hb:Blk X N' scope tg ifs elt t c f)(hs:zn (∀x,foldedSetIterable iter X.env x=pure x) xL):DE X (.ListComp elt [⟨tg,iter,ifs,0⟩] scope pos) (NY cf cap m s t c f):=⟨
 Ax (aA (g:=tG X.K t) (tc:=tDT X.K c) (te:=tD X.K f) hc S hi.pe (λs H fp=>⟨(hb s H fp).1.pe,(hb s H fp).2.1.pe,(hb s H fp).2.2.pe⟩) hs) λ_ _ _ h=>VM h⟩
def Sq{py spos:Pos} cap m N'(hc:X.calm=true)(hN:X.N.Nodup)(hi':X.N[i]?=Gc y)(hx:X.env.scope.names.lookup y=Gc .local)(S:AO X.N X.env.scope N' (ixC cap m) scope)(hi:DI X tg iter s)(hb:Blk X N' scope tg ifs elt t c f)(hsw:zn (swapsWith (.ListComp elt [⟨tg,iter,ifs,0⟩] scope pos) (Gc (.Name y py)) spos.line X.env=pure true) ww)(hs:zn (∀x,foldedSetIterable iter X.env x=pure x) xL):DS X (.Assign [.Name y py] (.ListComp elt [⟨tg,iter,ifs,0⟩] scope pos) spos) (Ay i (NY cf cap m s t c f)):=⟨
 Fc (Ts (g:=tG X.K t) (tc:=tDT X.K c) (te:=tD X.K f) hc hN hi' hx S hi.pe (λs H fp=>⟨(hb s H fp).1.pe,(hb s H fp).2.1.pe,(hb s H fp).2.2.pe⟩) hsw hs) λDn σ H z=>by
  obtain⟨M,E,S,fl,E',S',e,r,st,q⟩:=z
  obtain⟨⟨d,S1⟩,e1,e⟩:=IV e
  cases e
  exact VM ⟨M,E,S,d,S1,e1,r,st,λv H1 M1 g1 st1 r1=>q _ _ M1 g1 ((r.step g1.st).put r1) st1⟩⟩
end
noncomputable def IU{α:Type}(xs:Wp α)(lo hi:uR Int):Wp α:=(xs.drop (HT.sIx xs.length 0 lo)).take (HT.sIx xs.length xs.length hi-HT.sIx xs.length 0 lo)
def Vn(h:Ae K M H xs ds) lo hi:Ae K M H (Y0 xs lo hi) (IU ds lo hi):=by
 unfold Y0 IU
 rw[h.length]
 exact(h.drop _).take _
def UN{xs:Wp α}(h1:HT.sIx xs.length 0 lo=0)(h2:HT.sIx xs.length xs.length hi=xs.length):IU xs lo hi=xs:=by
 unfold IU
 rw[h1,h2]
 simp
noncomputable def wSl(lo hi:uR Int):Op1:=λw=>match w with
 | .val (.tup ds)=>Gc (.val (.tup (IU ds lo hi)))
 | .val (.str z)=>if z.length<=sizeLine then Gc (.val (.str (Txt.slice z lo hi)))else none
 |w=>(asL w).map λds=>.own (IU ds lo hi)
def sA(K:W1):V->uR Int->uR Int->Hp->VK->Prop:=λx lo hi H Q=>∃M w r,wSl lo hi w=Gc r/\MOk M H/\Sh K M H x w/\∀v H',Nw K M H H' v r->Q v H'
def iy:SlR X (λx lo hi H Q=>∃z,x=.str z/\z.length<=sizeLine/\Q (.str (Txt.slice z lo hi)) H):=by
 intro pins s σ H x v vl vu lo hi sl Q I rx hs pl pu h
 obtain⟨z,rfl,hz,q⟩:=h
 obtain⟨t,rfl⟩:=rx
 have fin:∀t' k,EP X pins σ Q (.str (Txt.slice z lo hi) t') {s with toks:=k}:=λt' k=>⟨.str _,H,I.tok k,⟨t',rfl⟩,q⟩
 cases pl with
 |none=>
  cases pu with
  |none=>exact⟨"str",_,xw.lookup,AA8 _ _ _,x9 (l:=none) (u:=none) (st:=none) hs rfl (zx ⟨uZ (ABB z _ _) hz,fin⟩)⟩
  |int j u=>exact⟨"str",_,xw.lookup,AA8 _ _ _,x9 (l:=none) (u:=Gc (j,u)) (st:=none) hs rfl (zx ⟨uZ (ABB z _ _) hz,fin⟩)⟩
 |int i u'=>
  cases pu with
  |none=>exact⟨"str",_,xw.lookup,AA8 _ _ _,x9 (l:=Gc (i,u')) (u:=none) (st:=none) hs rfl (zx ⟨uZ (ABB z _ _) hz,fin⟩)⟩
  |int j u=>exact⟨"str",_,xw.lookup,AA8 _ _ _,x9 (l:=Gc (i,u')) (u:=Gc (j,u)) (st:=none) hs rfl (zx ⟨uZ (ABB z _ _) hz,fin⟩)⟩
def pY:SlR X (sA X.K):=by
 intro pins s σ H x v vl vu lo hi sl Q I rx hs pl pu h
 obtain⟨M,w,r,e,mo,sh,q⟩:=h
 unfold wSl at e
 split at e
 .rename_i ds
  cases e
  cases sh with
  |tup hx rr=>
   rename_i a xs
   have hl:=rr.length
   by_cases hw:HT.sIx xs.length 0 lo=0/\HT.sIx xs.length xs.length hi=xs.length
   .refine St.iL pins s σ H _ v vl vu lo hi sl Q I rx hs pl pu ⟨a,xs,rfl,hx,hw.1,hw.2,?_⟩
    have ew:IU ds lo hi=ds:=UN (by rw[<-hl];exact hw.1) (by rw[<-hl];exact hw.2)
    rw[ew]at q
    exact q _ _ (.same mo (.tup hx rr))
   .exact gm pins s σ H _ v vl vu lo hi sl Q I rx hs pl pu ⟨a,xs,rfl,hx,hw,λp hp=>q _ _ (.tup mo hp (Vn rr lo hi))⟩
 .split at e
  .cases e
   cases sh
   exact iy pins s σ H _ v vl vu lo hi sl Q I rx hs pl pu ⟨_,rfl,by assumption,q _ _ (.same mo (.str _))⟩
  .cases e
 .cases e1:asL w with
  |none=>rw[e1]at e;cases e
  |some ds=>
   rw[e1]at e
   cases e
   obtain⟨a,xs,rfl,h1,rr⟩:=sh.l e1
   exact aj pins s σ H _ v vl vu lo hi sl Q I rx hs pl pu ⟨a,xs,rfl,.of h1,λp hp=>q _ _ (.lst mo hp (Vn rr lo hi))⟩
noncomputable def eT:Wv->uR Int
 | .val (.int i)=>Gc i
 |_=>none
noncomputable def Ih(l h:vZ):OpN:=λws=>match l,h,ws with
 |false,false,[a]=>wSl none none a
 |true,false,[a,b]=>(eT b).bind λi=>wSl (Gc i) none a
 |false,true,[a,b]=>(eT b).bind λi=>wSl none (Gc i) a
 |true,true,[a,b,c]=>(eT b).bind λi=>(eT c).bind λj=>wSl (Gc i) (Gc j) a
 |_,_,_=>none
def WH(s:Sh K M H v w)(e:eT w=Gc i):v=.int i:=by
 cases w with
 |own ds=>cases e
 |val d=>
  cases d<;>first|(cases e;done)|skip
  cases e;cases s;rfl
section
variable{X:Cx}{e lo hi:vi}{oe ol oh:Ev}{c:vZ}{pos p2:Pos}
def oU(h:DE X e oe)(hl:DE X lo ol):DE X (.Subscript e (.Slice (Gc lo) none none p2) pos) (O0 c (Ih true false) [oe,ol]):=⟨Ax (N4 pY h.pe (Oq hl.pe) Wb) λσ H Q z=>by
 obtain⟨M0,E,S0,w,S1,e,r,st,q⟩:=z
 have z:tD X.K oe σ H λx H1=>tD X.K ol σ H1 λy H2=>rN X.K (Ih true false) [x,y] H2 Q:=Nb (Q:=Q) e r st q
 refine EK z λx H1 z1=>EK z1 λy H2 z2=>?_
 obtain⟨M,ws,w',e1,mo,sh,q1⟩:=z2
 cases sh with
 |cons h1 t=>
  cases t with
  |cons h2 t=>
   cases t
   obtain⟨i,ei,e1⟩:=Ac e1
   exact⟨i,WH h2 ei,M,_,w',e1,mo,h1,q1⟩⟩
def bp(h:DE X e oe)(hh:DE X hi oh):DE X (.Subscript e (.Slice none (Gc hi) none p2) pos) (O0 c (Ih false true) [oe,oh]):=⟨Ax (N4 pY h.pe Wb (Oq hh.pe)) λσ H Q z=>by
 obtain⟨M0,E,S0,w,S1,e,r,st,q⟩:=z
 have z:tD X.K oe σ H λx H1=>tD X.K oh σ H1 λy H2=>rN X.K (Ih false true) [x,y] H2 Q:=Nb (Q:=Q) e r st q
 refine EK z λx H1 z1=>EK z1 λy H2 z2=>?_
 obtain⟨M,ws,w',e1,mo,sh,q1⟩:=z2
 cases sh with
 |cons h1 t=>
  cases t with
  |cons h2 t=>
   cases t
   obtain⟨i,ei,e1⟩:=Ac e1
   exact⟨i,WH h2 ei,M,_,w',e1,mo,h1,q1⟩⟩
def Vv(r:BM K M H v d)(e:eT (dr S d)=Gc i):v=.int i:=by
 cases r<;>first|(cases e;done)|skip
 .cases e;rfl
 .rename_i n h
  unfold dr at e
  dsimp only at e
  split at e<;>cases e
def oQ(h:DE X e oe)(hl:DE X lo ol)(hh:DE X hi oh):DE X (.Subscript e (.Slice (Gc lo) (Gc hi) none p2) pos) (O0 c (Ih true true) [oe,ol,oh]):=⟨Ax (N4 pY h.pe (Oq hl.pe) (Oq hh.pe)) λσ H Q z=>by
 obtain⟨M0,E,S0,w,S1,e,r,st,q⟩:=z
 obtain⟨⟨ds,S2⟩,e1,e⟩:=Ac e
 obtain⟨w2,e2,e⟩:=Ac e
 obtain⟨⟨d1,Sa⟩,ea,e1⟩:=Ac e1
 obtain⟨⟨ds1,Sb⟩,eb,e1⟩:=IV e1
 cases e1
 obtain⟨⟨d2,Sc⟩,ec,eb⟩:=Ac eb
 obtain⟨⟨ds2,Sd⟩,ed,eb⟩:=IV eb
 cases eb
 obtain⟨⟨d3,Se⟩,ee,ed⟩:=Ac ed
 obtain⟨⟨ds3,Sf⟩,ef,ed⟩:=IV ed
 cases ed
 cases ef
 obtain⟨i,ei,e2⟩:=Ac e2
 obtain⟨j,ej,e2⟩:=Ac e2
 refine⟨M0,E,S0,d1,Sa,ea,r,st,λx H1 M1 g1 st1 r1=>?_⟩
 refine⟨M1,E,Sa,d2,Sc,ec,r.step g1.st,st1,λy H2 M2 g2 st2 r2=>⟨i,?_,?_⟩⟩
 .exact Vv r2 ei
 refine⟨M2,E,Sc,d3,Se,ee,(r.step g1.st).step g2.st,st2,λu H3 M3 g3 st3 r3=>⟨j,?_,?_⟩⟩
 .exact Vv r3 ej
 refine⟨M3,_,w2,e2,st3.mo,cG st3 ((r1.step g2.st).step g3.st),λv H4 n=>?_⟩
 obtain⟨M4,g4,st4,d4⟩:=n.fin st3 e
 exact q v H4 M4 (((g1.trans g2).trans g3).trans g4) st4 d4⟩
noncomputable def SQ(oa ob oc:Ev):Ev:=λE S=>(evs [oa,ob] E S).bind λr=>match r.1 with
 | [.int i,.int j]=>if i<=j then(oc E r.2).bind λp=>match p.1 with
     | .int k=>Gc (.bl (decide (j<=k)),p.2)
     |_=>none
   else Gc (.bl false,r.2)
 |_=>none
def oK(h:tD K (SQ oa ob oc) σ H Q):VQ (rI0 λi j=>.bl (decide (i<=j))) (rI0 λi j=>.bl (decide (i<=j))) (tD K oa) (tD K ob) (tD K oc) σ H Q:=by
 obtain⟨M,E,S,d,S',e,r,st,q⟩:=h
 obtain⟨⟨ws,S1⟩,e1,e⟩:=Ac e
 have zz:=Ee (K:=K) (σ:=σ) (fs:=[oa,ob]) (Q:=λvs H2=>∃i j:Int,vs=[V.int i,V.int j]/\rI0 (λi j=>.bl (decide (i<=j))) (.int i) (.int j) H2 λz H3=>∃k,z=.bl k/\(if k=true then tD K oc σ H3 λw' H4=>rI0 (λi j=>.bl (decide (i<=j))) (.int j) w' H4 Q else Q (.bl false) H3)) e1 r st (λvs H1 M1 g1 st1 r1=>by
  dsimp only at e
  split at e
  .rename_i i j
   have hv:=PQ r1
   refine⟨i,j,hv,i,j,rfl,rfl,_,rfl,?_⟩
   by_cases hij:i<=j
   .rw[vC hij]at e
    rw[vC (by simpa using hij)]
    obtain⟨⟨w2,S2⟩,e2,e⟩:=Ac e
    dsimp only at e
    split at e
    .rename_i k
     cases e
     refine⟨M1,E,S1,_,_,e2,r.step g1.st,st1,λv H2 M2 g2 st2 r2=>?_⟩
     cases r2
     exact⟨j,k,rfl,rfl,q _ _ M2 (g1.trans g2) st2 (.bl _)⟩
    .cases e
   .rw[vB hij]at e
    cases e
    rw[vB (by simpa using hij)]
    exact q _ _ M1 g1 st1 (.bl _)
  .cases e)
 refine EK (show tD K oa σ H _ from zz) λx H1 z1=>EK z1 λy H2 z2=>?_
 obtain⟨i,j,ev,z2⟩:=z2
 cases ev
 exact z2
def cD{a b c:vi}(ha:DE X a oa)(hb:DE X b ob)(hc:DE X c oc)(hm:zn (lastMarks [.LtE,.LtE] [b,c]=false) wr):DE X (.Compare a [.LtE,.LtE] [b,c] pos) (SQ oa ob oc):=⟨
 Ax (R0 YT YT ha.pe hb.pe hc.pe hm) λ_ _ _ h=>oK h⟩
structure QM(K:W1)(mg:Str->uR uX)(x:Str)(d:D):Prop where
 ex:∃v u,mg x=Gc u/\RelV v u/\∀M H,BM K M H v d
def bI(c:QM X.K X.mg x d)(hg:Gl X x)(hd:zn ((x==("__debug__":Str))=false) xz):DE X (.Name x pos) (eC d):=⟨by
 obtain⟨v,u,h1,h2,h3⟩:=c.ex
 exact Ax (OI hg h1 h2 hd) λσ H Q z=>by
  obtain⟨M0,E,S0,w,S1,e,rr,st,q⟩:=z
  cases e
  exact q _ _ M0 (.refl st.mo) st (h3 _ _)⟩
def iB(hg:Gl X x)(hm:X.mg x=none)(hv:bootBuiltins x=Gc (.type T))(hn:zn (x≠ "__name__") xz)(hd:zn ((x==("__debug__":Str))=false) xz):DE X (.Name x pos) (eC (.ty T)):=
 O3 (eL (v:=.ty T) hg hm hv rfl hn hd) λ_ _ _=>.ty T
structure fO(K:W1)(w:wG)(mg:Str->uR uX)(x:Str)(tbl:Wp (Str×D)):Prop where
 ex:∃a kvs,mg x=Gc (.ref a)/\TopD K w a kvs/\∀k,(tbl.lookup k=none->kvs.lookup k=none)/\∀d,tbl.lookup k=Gc d->∃v,kvs.lookup k=Gc v/\∀M H,BM K M H v d
noncomputable def gn(tbl:Wp (Str×D)):Op1
 | .val (.str k)=>(tbl.lookup k).map .val
 |_=>none
noncomputable def NX(neg:vZ)(tbl:Wp (Str×D)):Op1
 | .val (.str k)=>Gc (.val (.bl (if neg then !(tbl.lookup k).isSome else(tbl.lookup k).isSome)))
 |_=>none
def jG{p:Pos}(c:fO X.K X.w X.mg x tbl)(hg:Gl X x)(h:DE X i o)(hs:zn (OS i) wp)(hd:zn ((x==("__debug__":Str))=false) xz):DE X (.Subscript (.Name x p) i pos) (eOp (o1 (gn tbl)) [o]):=⟨by
 obtain⟨a,kvs,h1,h2,h3⟩:=c.ex
 refine Ax (bJ Y5 (OI (v:=.ref a) hg h1 rfl hd) h.pe hs) λσ H Q z=>?_
 refine EK (WG z) λy H1 z1=>?_
 obtain⟨M,w,r,e,mo,sh,q⟩:=z1
 unfold gn at e
 split at e
 .rename_i k
  cases e1:tbl.lookup k with
  |none=>rw[e1]at e;cases e
  |some d=>
   rw[e1]at e
   cases e
   cases sh
   obtain⟨v,q1,q2⟩:=(h3 k).2 d e1
   exact⟨a,kvs,k,v,rfl,rfl,h2,q1,q _ _ (.same mo (q2 _ _))⟩
 .cases e⟩
def ji{x:Str}(h2:TopD X.K X.w a kvs)(h3:∀k,(tbl.lookup k=none->kvs.lookup k=none)/\∀d,tbl.lookup k=Gc d->∃v,kvs.lookup k=Gc v/\∀M H,BM X.K M H v d)(z:rUn X.K (NX neg tbl) y H Q):ZV X.K X.w neg y (.ref a) H Q:=by
 obtain⟨M,w,r,e,mo,sh,q⟩:=z
 unfold NX at e
 split at e
 .rename_i k
  cases e
  cases sh
  refine⟨a,kvs,k,rfl,rfl,h2,?_⟩
  have:(kvs.lookup k).isSome=(tbl.lookup k).isSome:=by
   cases e1:tbl.lookup k with
   |none=>rw[(h3 k).1 e1];rfl
   |some d=>obtain⟨v,q1,_⟩:=(h3 k).2 d e1;rw[q1];rfl
  rw[this]
  exact q _ _ (.same mo (.bl _))
 .cases e
def Qc(c:fO X.K X.w X.mg x tbl)(hg:Gl X x)(h:DE X i o)(hd:zn ((x==("__debug__":Str))=false) xz):DT X (.Compare i [.NotIn] [.Name x p] pos) (eOp (o1 (NX true tbl)) [o]):=by
 obtain⟨a,kvs,h1,h2,h3⟩:=c.ex
 exact Xb (VF PM h.pe (OI (v:=.ref a) hg h1 rfl hd) rfl) λσ H Q z=>EK (WG z) λy H1 z1=>ji (x:=x) h2 h3 z1
end
noncomputable def Mr:Nat->Wp D->Wp D
 |_,[]=>[]
 |k,d::ds=>.tup [.int k,d]::Mr (k+1) ds
theorem Jj:∀{ds} {k i:Nat},(Mr k ds)[i]?=(ds[i]?).map λd=>.tup [.int ((k+i:Nat):Int),d]
 | [],k,i=>by simp[Mr]
 |d::ds,k,0=>by simp[Mr]
 |d::ds,k,i+1=>by
  simp only[Mr,List.getElem?_cons_succ]
  rw[Jj,show k+1+i=k+(i+1) by lia]
theorem OE:∀{ds} {k},(Mr k ds).length=ds.length
 | [],k=>rfl
 |d::ds,k=>by simp[Mr,OE (ds:=ds)]
def SqF.sqB{K:W1}{M:Ms}{H:Hp}{gs:Gd}{k:vZ}{a:uf}{ds:Wp D}(h:SqF K M H gs k a ds){H2:Hp}{M2:Ms}(g:Sp1 M H M2 H2)(st:StR K M2 S2 H2)(ok:gOk gs S2):∃xs,SqB K H2 k a xs/\Ae K M2 H2 xs ds:=by
 obtain⟨xs,h1,h2⟩:=h.keep H2 M2 S2 g st ok
 refine⟨xs,?_,h2⟩
 cases k with
 |true=>exact h1
 |false=>exact h1
theorem kE(h:SqF K M H gs k a ds):jB K M H gs (Mr 0 ds) (ItE K k a) where
 go:=λi H2 M2 S2 g st ok hi=>by
  rw[OE]at hi
  obtain⟨xs,h1,h2⟩:=h.sqB g st ok
  obtain⟨x,hx⟩:=h2.get' hi
  exact⟨xs,x,h1,hx⟩
 stop:=λi H2 M2 S2 g st ok hi=>by
  rw[OE]at hi
  obtain⟨xs,h1,h2⟩:=h.sqB g st ok
  exact⟨xs,h1,by have:=h2.length;lia⟩
 yld:=λi H2 M2 S2 x H3 d g st ok hd hy=>by
  obtain⟨xs,h1,h2⟩:=h.sqB g st ok
  obtain⟨p,y,hp,rfl,hy,rfl⟩:=hy
  have hx:=hy xs h1
  rw[Jj]at hd
  obtain⟨d0,e,hd⟩:=IV hd
  subst hd
  obtain⟨x',h3,h4⟩:=h2.get e
  rw[hx]at h3;cases h3
  have k3:=CS (o:=.tup [.int i,y]) hp
  refine⟨k3,.tup (.of AX) (.cons ?_ (.cons (h4.step (Gr.grow st.mo k3).st) .nil))⟩
  rw[Nat.zero_add]
  exact .int _
noncomputable def bf(f:Ev):Sr:=λE S=>(f E S).bind λr=>(sqD r.2 r.1).map λp=>((Mr 0 p.1,p.2),r.2)
def gq(hg:Gl X "enumerate")(hm:X.mg "enumerate"=none)(ha:DE X a f)(hs:zn (ue [a] X.env=[(false,eval a X.env)]) ww):DI X (.Tuple elts k tp) (.Call (.Name "enumerate" p) [a] [] pos) (bf f):=⟨
 Oa (X9 hg hm (F5 ha.pe NU (by rw[hs];rfl)) hs) λσ H R z=>by
  obtain⟨M,E,S,ds,gs,S',e,r,st,q⟩:=z
  obtain⟨⟨d,S1⟩,e1,e⟩:=Ac e
  obtain⟨⟨ds',gs'⟩,e2,e⟩:=IV e
  cases e
  refine⟨M,E,S,d,S1,e1,r,st,λv H1 M1 g1 st1 r1=>?_⟩
  obtain⟨k,a,rfl,sq⟩:=RL st1 r1 e2
  obtain⟨xs,hs,_⟩:=sq.sqB (Gr.refl st1.mo).st st1 (OC e2)
  exact⟨k,a,rfl,⟨xs,hs⟩,q _ _ M1 g1 st1 (kE sq)⟩⟩
noncomputable def NM(ds es:Wp D):Wp D:=(ds.zip es).map λp=>.tup [p.1,p.2]
def Xy{i:Nat}(h:(NM ds es)[i]?=Gc d):∃x y,ds[i]?=Gc x/\es[i]?=Gc y/\d=.tup [x,y]:=by
 unfold NM at h
 simp only[um,xG]at h
 obtain⟨⟨x,y⟩,h1,h2⟩:=h
 rw[yk]at h1
 exact⟨x,y,h1.1,h1.2,h2.symm⟩
def LW:(NM ds es).length=min ds.length es.length:=by simp[NM]
def SqF.more(h:SqF K M H gs k a ds)(s:∀g∈gs,g∈gs'):SqF K M H gs' k a ds:=⟨λH2 M2 S2 g st ok=>h.keep H2 M2 S2 g st λx hx=>ok x (s x hx)⟩
theorem jM(h:SqF K M H gs k a ds)(h':SqF K M H gs m b es):jB K M H gs (NM ds es) (Itz K k a m b) where
 go:=λi H2 M2 S2 g st ok hi=>by
  rw[LW]at hi
  obtain⟨xs,h1,r⟩:=h.sqB g st ok
  obtain⟨ys,h2,r'⟩:=h'.sqB g st ok
  obtain⟨x,hx⟩:=r.get' (show i<ds.length by lia)
  obtain⟨y,hy⟩:=r'.get' (show i<es.length by lia)
  exact⟨xs,ys,x,y,h1,h2,hx,hy⟩
 stop:=λi H2 M2 S2 g st ok hi=>by
  rw[LW]at hi
  obtain⟨xs,h1,r⟩:=h.sqB g st ok
  obtain⟨ys,h2,r'⟩:=h'.sqB g st ok
  have:=r.length
  have:=r'.length
  exact⟨xs,ys,h1,h2,by lia⟩
 yld:=λi H2 M2 S2 x H3 d g st ok hd hy=>by
  obtain⟨xs,h1,r⟩:=h.sqB g st ok
  obtain⟨ys,h2,r'⟩:=h'.sqB g st ok
  obtain⟨p,x1,y1,hp,rfl,q1,q2,rfl⟩:=hy
  obtain⟨d1,d2,e1,e2,rfl⟩:=Xy hd
  have hx:=q1 xs h1
  have hy:=q2 ys h2
  obtain⟨x',h3,h4⟩:=r.get e1
  obtain⟨y',h5,h6⟩:=r'.get e2
  rw[hx]at h3;cases h3
  rw[hy]at h5;cases h5
  have k3:=CS (o:=.tup [x1,y1]) hp
  exact⟨k3,.tup (.of AX) (.cons (h4.step (Gr.grow st.mo k3).st) (.cons (h6.step (Gr.grow st.mo k3).st) .nil))⟩
noncomputable def bC(f g:Ev):Sr:=λE S=>(evs [f,g] E S).bind λr=>match r.1 with
 | [d,e]=>(sqD r.2 d).bind λp=>(sqD r.2 e).map λq=>((NM p.1 q.1,p.2++q.2),r.2)
 |_=>none
def qI{p pos tp:Pos}{elts:Wp vi}{k:Nat}(hg:Gl X "zip")(hm:X.mg "zip"=none)(ha:DE X a f)(hb:DE X b g)(hs:zn (ue [a,b] X.env=[(false,eval a X.env),(false,eval b X.env)]) ww)(hs2:zn (ue [b] X.env=[(false,eval b X.env)]) ww):DI X (.Tuple elts k tp) (.Call (.Name "zip" p) [a,b] [] pos) (bC f g):=⟨
 Oa (gz hg hm (AD ha (AD hb AI hs2) (by rw[hs,hs2])).pe hs hs2) λσ H R z=>by
  obtain⟨M,E,S,ds,gs,S',e,r,st,q⟩:=z
  obtain⟨⟨ws,S1⟩,e1,e⟩:=Ac e
  refine Ee (fs:=[f,g]) e1 r st λvs H1 M1 g1 st1 r1=>?_
  dsimp only at e
  split at e
  .obtain⟨⟨ds1,gs1⟩,eu,e⟩:=Ac e
   obtain⟨⟨ds2,gs2⟩,ee,e⟩:=IV e
   cases e
   cases r1 with
   |cons h1 t=>
    cases t with
    |cons h2 t=>
     cases t
     obtain⟨k1,a1,rfl,s1⟩:=RL st1 h1 eu
     obtain⟨k2,a2,rfl,s2⟩:=RL st1 h2 ee
     obtain⟨xs,hxs,_⟩:=s1.sqB (Gr.refl st1.mo).st st1 (OC eu)
     obtain⟨ys,hys,_⟩:=s2.sqB (Gr.refl st1.mo).st st1 (OC ee)
     exact⟨_,_,_,_,rfl,⟨_,hxs⟩,⟨_,hys⟩,q _ _ M1 g1 st1 (jM (s1.more λx hx=>zh _ hx) (s2.more λx hx=>vW _ hx))⟩
  .cases e⟩
noncomputable def intD:D->uR Int
 | .int i=>Gc i
 |_=>none
noncomputable def LF(ds:Wp D):uR (Wp Int):=ds.mapM intD
theorem Mj:∀{vs} {ds} {ns},Ae K M H vs ds->LF ds=Gc ns->vs=ns.map V.int
 |_,_,ns,.nil,e=>by cases e;rfl
 |_,_,ns,.cons (d:=d) (ds:=ds) h t,e=>by
  unfold LF at e
  rw[AAV]at e
  cases e1:intD d with
  |none=>rw[e1]at e;cases e
  |some b=>
   rw[e1]at e
   cases e2:ds.mapM intD with
   |none=>rw[e2]at e;cases e
   |some cs=>
    rw[e2]at e
    cases e
    have hd:d=.int b:=by
     cases d<;>first|(cases e1;done)|skip
     cases e1;rfl
    subst hd
    cases h
    rw[uw,<-Mj t e2]
def Vc(hc:X.calm=true):Eg X (.builtin "sum") (λxs H Q=>∃(p:uf) (ns:Wp Int),xs=[.ref p]/\SqL X.K H p (ns.map V.int)/\Q (.int ns.sum) H):=by
 intro pins s σ H xs us Q I r h
 obtain⟨p,ns,rfl,hp,q⟩:=h
 obtain⟨u,rfl,ru⟩:=r.one
 cases (show u=u5 p from ru)
 obtain⟨its,rv,pl,hz⟩:=I.list hp
 have hd:X.A.in1.handled=none:=I.ok.hd hc
 refine call_sum_walkG (wZ pl.isList ?_)
 have hlen:ns.length=its.length:=by have:=rv.length;simpa using this
 have hpl:=pl.isList
 have hlt:p<s.heap.objs.size:=by
  obtain⟨o,ho,_⟩:=hpl
  exact uj ho
 refine⟨s.heap.objs.size,_,_,its.length,_,_,λi=>ns.getD i 0,rfl,St.NO (vs:=its) hd (vE hlt),⟨⟨_,ux _ rfl,rfl,rfl⟩,?_⟩,?_,?_,?_⟩
 .obtain⟨o,ho,r⟩:=hpl
  exact⟨o,uQ _ ho,r⟩
 .intro b hb
  rw[v5]
  simp at hb
  rcases hb with h|h
  .rw[h];exact AAs _
  .rw[h];exact Nat.lt_succ_of_lt hlt
 .intro i v hv
  have hi:i<its.length:=(ua.mp hv).1
  have hb:(ns.map V.int)[i]?=Gc (.int (ns.getD i 0)):=by
   rw[um,uS (by lia)]
   simp[uz,uS (show i<ns.length by lia)]
  obtain⟨u,hu,ru⟩:=rv.get hb
  rw[hv]at hu
  cases hu
  exact ru
 .intro h' tk t' hk
  have e:preSum (λi=>ns.getD i 0) its.length=ns.sum:=by
   rw[<-hlen,St.LX (uc _),zL (uc _)]
  rw[e]
  exact⟨.int _,H,I.kept (t':=tk) λb o eb=>hk b o (by simp;exact vE (uj eb)) (uQ _ eb),⟨_,rfl⟩,q⟩
noncomputable def Xu:Op1:=λw=>(asL w).bind λds=>(LF ds).map λns=>.val (.int ns.sum)
def iU(hc:X.calm=true):Eg X (.builtin "sum") (rN X.K (o1 Xu)):=by
 intro pins s σ H xs us Q I r h
 obtain⟨M,ws,w,e,mo,sh,q⟩:=h
 obtain⟨v,w1,rfl,rfl,s1,e1⟩:=JE sh e
 obtain⟨ds,e2,e1⟩:=Ac e1
 obtain⟨ns,e3,e1⟩:=IV e1
 cases e1
 obtain⟨a,ys,rfl,h3,h4⟩:=s1.l e2
 exact Vc hc pins s σ H _ us Q I r ⟨a,ns,rfl,by rw[<-Mj h4 e3];exact .of h3,q _ _ (.same mo (.int _))⟩
noncomputable def NI(ns:Wp Int):Wp Int:=ns.mergeSort (λa b=>decide (a<=b))
def NW ns:(NI ns).Perm ns:=List.mergeSort_perm _ _
def TU ns:(NI ns).Pairwise (· <= ·):=by
 have:=List.pairwise_mergeSort (le:=λ(a b:Int)=>decide (a<=b)) (λa b c h1 h2=>by simp at *; lia) (λa b=>by simp;lia) ns
 unfold NI
 exact this.imp λh=>ur h
def SI(p:ms.Perm ns)(s:ms.Pairwise (· <= ·)):ms=NI ns:=PySem.W.ksm_same (p.trans (NW ns).symm) s (TU ns)
theorem intsAre_of:∀{ns} {its},Vals (ns.map V.int) its->yq its ns
 | [],_,.nil=>.nil
 |n::ns,_,.cons h t=>by
  obtain⟨tk,rfl⟩:=h
  exact .cons n tk (intsAre_of t)
theorem K5:∀{ns} {its},yq its ns->Vals (ns.map V.int) its
 |_,_,.nil=>.nil
 |_,_,.cons n tk t=>.cons ⟨tk,rfl⟩ (K5 t)
def Pj:Eg X (.builtin "sorted") (λxs H Q=>∃p ns,xs=[.ref p]/\SqL X.K H p (ns.map V.int)/\ns.length<64/\∀q,H q=none->Q (.ref q) (upd H q (.lst ((NI ns).map V.int)))):=by
 intro pins s σ H xs us Q I r h
 obtain⟨p,ns,rfl,hp,h64,q⟩:=h
 obtain⟨u,rfl,ru⟩:=r.one
 cases (show u=u5 p from ru)
 obtain⟨its,rv,pl,hz⟩:=I.list hp
 have hlen:ns.length=its.length:=by have:=rv.length;simpa using this
 refine PyProof.Rows.sorted_ints pl.isList (intsAre_of rv) (by lia) λout ns' a1 a2 a3=>?_
 obtain⟨e,he⟩:=PyProof.Rows.sortedAll_at s.heap its out
 have hn:H (s.heap.objs.size+1)=none:=I.hok.fresh (AAf _)
 have hs:=SI a2 a3
 subst hs
 refine⟨.ref _,_,I.laid (a:=s.heap.objs.size+1) (o:=.lst ((NI ns).map V.int)) (t':=s.toks) (λ_ _=>PyProof.Rows.sortedAll_old) (AAf _) ?_,rfl,q _ hn⟩
 refine⟨?_,out.toList,e,K5 a1,?_⟩
 .rw[vN,(NW ns).length_eq]
  have:(64:Nat)<=sizeLine:=by decide
  lia
 .rw[Array.toArray_toList];exact he
noncomputable def Og:Op1:=λw=>(asL w).bind λds=>(LF ds).bind λns=>if ns.length<64 then Gc (.own ((NI ns).map D.int))else none
def Zn:Eg X (.builtin "sorted") (rN X.K (o1 Og)):=by
 intro pins s σ H xs us Q I r h
 obtain⟨M,ws,w,e,mo,sh,q⟩:=h
 obtain⟨v,w1,rfl,rfl,s1,e1⟩:=JE sh e
 obtain⟨ds,e2,e1⟩:=Ac e1
 obtain⟨ns,e3,e1⟩:=Ac e1
 split at e1
 .cases e1
  obtain⟨a,ys,rfl,h3,h4⟩:=s1.l e2
  exact Pj pins s σ H _ us Q I r ⟨a,ns,rfl,by rw[<-Mj h4 e3];exact .of h3,by assumption,λp hp=>q _ _ (.lst mo hp LU)⟩
 .cases e1
def OJ l items n b items2 n2 dd sl(hs0:¬(!items.isEmpty && wN (items.size+items2.size))=true)(hs1:items.size<=sizeLine)(hs2:items.size+items2.size<=sizeLine+1):Meets (zK.«list.extend» ⟨[.ref l,.ref b],[]⟩) (λ_ R s=>s.heap.get? l=Gc {cls:=.type "list",dict:=none,data:=.seq items n,slots:= #[]}/\s.heap.get? b=Gc {cls:=.type "tuple",dict:=dd,data:=.seq items2 n2,slots:=sl}/\R (.ok (.ret vL)) {s with heap:=s.heap.update l (AAQ λx=>x++items2),toks:=s.toks}):=
 .of_wp λprog w A R s h=>by
  obtain⟨hp,g,d,tk,os⟩:=s;obtain⟨hl,hb,h⟩:=h;have f1:=AutoSeq1.idx_int;have f2:=AutoSeq1.sub_tuple_tuple;have f3:=AutoSeq1.sub_list_list;have f4:=AutoSeq1.sub_tuple_list;have f5:=AutoSeq1.sub_list_tuple
  have hz':(items++items2).size<=sizeLine+1:=by rw[Array.size_append];exact hs2
  wp_walk using(wpAny_updateSeq hl rfl (hz:=hs1) (_hz':=hz')),u9 hl,u9 hb;exact⟨_,rfl,h⟩
def W0(K:W1):V->Wp V->Hp->VK->Prop:=λx vs H Q=>∃l b xs zs,x=.ref l/\vs=[.ref b]/\H l=Gc (.lst xs)/\SqT K H b zs/\xs.length+zs.length<=sizeLine/\Q .non (upd H l (.lst (xs++zs)))
def TJ:MtM X "list.extend" (W0 X.K):=by
 intro pins s σ H x vs v us Q I rx rv h
 obtain⟨l,b,xs,zs,rfl,rfl,hH,hB,hz,q⟩:=h
 cases rx
 obtain⟨u,rfl,ru⟩:=rv.one
 cases ru
 obtain⟨z,its,n,r,hl,e⟩:=I.ZD hH
 obtain⟨its2,r2,⟨⟨c,dd,dt,sl⟩,e2,hc,n2,hd⟩,z2⟩:=I.tuple hB
 simp only at hc hd
 subst hc hd
 have hl2:=r2.length
 have hsz:its.toArray.size+its2.toArray.size<=sizeLine:=by rw[uq,uq];lia
 have hlong:¬(!its.toArray.isEmpty && wN (its.toArray.size+its2.toArray.size))=true:=by
  rw[Ot hsz,AAS]
  exact vY
 refine zY ACF ⟨_,e,rfl⟩ ABt (ABY _ _)
  (OJ l its.toArray n b its2.toArray n2 dd sl hlong (by rw[uq];lia) (by lia)) ⟨e,e2,?_⟩
 refine⟨.non,_,I.mY (its':=its++its2) hH e (by simp) (r.append r2) ?_,rfl,q⟩
 rw[vp]
 lia
noncomputable def lh:Mo
 |S,ds,[x]=>match dr S x with
  | .val (.tup zs)=>if ds.length+zs.length<=sizeLine then Gc (.non,ds++zs)else none
  |w=>(asL w).bind λzs=>if ds.length+zs.length<=sizeLine then Gc (.non,ds++zs)else none
 |_,_,_=>none
def m9:MtR X "list.extend" (l9 X.K lh):=by
 intro pins s σ H x vs v us Q I rx rv h
 obtain⟨M,S,n,a,ds,args,d,ds',rfl,hc,hn,e,st,ra,q⟩:=h
 unfold lh at e
 split at e
 .obtain⟨xs,h1,h2⟩:=st.cell n a _ hc hn
  obtain⟨y,rfl,ry⟩:=RQ ra
  have sy:=cG st ry
  split at e
  .rename_i ed
   rw[ed]at sy
   split at e
   .rename_i hz
    cases e
    cases sy with
    |tup hx rr=>
     obtain⟨st2,g2⟩:=st.chg hc hn (h2.append rr)
     exact TJ pins s σ H _ _ v us Q I rx rv ⟨a,_,xs,_,rfl,rfl,h1,hx,by rw[h2.length,rr.length];exact hz,q _ _ st2 g2 .non⟩
   .cases e
  .obtain⟨zs,e1,e⟩:=Ac e
   split at e
   .rename_i hz
    cases e
    obtain⟨b,ys,rfl,h3,h4⟩:=sy.l e1
    obtain⟨st2,g2⟩:=st.chg hc hn (h2.append h4)
    exact Ug pins s σ H _ _ v us Q I rx rv ⟨a,b,xs,ys,rfl,rfl,h1,h3,by rw[h2.length,h4.length];exact hz,q _ _ st2 g2 .non⟩
   .cases e
 .cases e
def Yl:OpR X (binaryOp .Mult) (λx y H Q=>∃a xs k,x=.ref a/\y=.int k/\SqT X.K H a xs/\xs≠[]/\k<=0/\ -(2^63)<=k/\∀p,H p=none->Q (.ref p) (upd H p (.tup []))):=by
 intro pins s σ H x y v u Q I rx ry h
 obtain⟨a,xs,k,rfl,rfl,hx,hne,hk,hk2,q2⟩:=h
 cases rx
 obtain⟨t,rfl⟩:=ry
 obtain⟨its,r,⟨⟨c,dd,data,sl⟩,ho,hc,n,hd⟩,hzz⟩:=I.tuple hx
 simp only at hc hd
 subst hc hd
 have hl:=r.length
 have hpos:0<xs.length:=ABv.mpr hne
 refine yj (T:="tuple") (U:="int") (by decide) ⟨_,ho,rfl⟩ (λs'=>zX s' k t) HB ABK yM Kx AAw.lookup
  (zY yM (zX s k t) AAx (AAh _ _) (Ic k t a its.toArray n dd sl) ⟨ho,rfl,⟨_,ho,rfl⟩,?_⟩)
 refine wk zZ ⟨_,ho,rfl⟩ F.entry_tuple_mul ?_ (ACH _ _)
 unfold zK.«tuple.__mul__»
 wp_walk using u9 ho
 rw[vB (show¬(decide (k< -2^63)||decide (k≥2^63))=true by
  rw[vv]
  rintro (z|z)
  .have:=ur z;lia
  .have:=ur z;lia)]
 wp_walk using u9 ho
 have hemp:its.toArray.isEmpty=false:=by
  cases its with
  |nil=>rw[xf]at hl;lia
  |cons b bs=>rfl
 rw[vB (show¬(its.toArray.isEmpty||k==1)=true by
  rw[hemp,Bool.false_or]
  intro z
  have:=eq_of_beq z
  lia)]
 wp_walk using u9 ho
 all_goals first
  |exact⟨_,rfl,.ref _,_,I.laid (o:=.tup []) (t':=s.toks) (λb ob q=>uQ _ q) (uc _) ⟨wL _,[],.nil,yl _ _⟩,rfl,q2 _ (I.hok.fresh (uc _))⟩
  |(exfalso
    rename_i hh
    exact hh (by rw[vv];exact .inl (xO hk)))
noncomputable def B5:Op2:=λa b=>match asT a with
 |some xs=>match asI b with
  |some k=>if(!xs.isEmpty && decide (k<=0) && decide (-(2^63)<=k))=true then Gc (.val (.tup []))else gN (.val (.tup xs)) (.val (.int k))
  |none=>gN a b
 |none=>gN a b
def mU:OpR X (binaryOp .Mult) (rOp X.K B5):=by
 intro pins s σ H x y v u Q I rx ry h
 obtain⟨M,w1,w2,r,e,mo,s1,s2,q⟩:=h
 have no:gN w1 w2=Gc r->wpAny (model X.prog X.w) X.A (binaryOp .Mult v u) (EP X pins σ Q) X.xe s:=λe=>aF pins s σ H x y v u Q I rx ry ⟨M,_,_,r,e,mo,s1,s2,q⟩
 unfold B5 at e
 cases e1:asT w1 with
 |none=>rw[e1]at e;exact no e
 |some xs=>
  rw[e1]at e
  dsimp only at e
  cases e2:asI w2 with
  |none=>rw[e2]at e;exact no e
  |some k=>
   rw[e2]at e
   obtain rfl:=RM e1
   obtain rfl:=Pf e2
   by_cases hk:(!xs.isEmpty && decide (k<=0) && decide (-(2^63)<=k))=true
   .dsimp only at e
    rw[vC hk]at e
    rw[ub,ub]at hk
    cases e
    obtain rfl:=BM.iv s2
    obtain⟨a,ys,rfl,h1,r1⟩:=BM.iv s1
    have hne:ys≠[]:=λzz=>by
     subst zz
     cases r1
     exact absurd hk.1.1 (by decide)
    exact Yl pins s σ H _ _ v u Q I rx ry ⟨a,ys,k,rfl,rfl,h1,hne,ur hk.1.2,ur hk.2,λp hp=>q _ _ (.tup mo hp .nil)⟩
   .dsimp only at e
    rw[vB hk]at e
    exact no e
def IE(hr:Cj k A):A.units+100<cLine:=by have:=hr.un;lia
noncomputable def scE:Nat->vi->Wp wX
 |0,_=>[]
 |n+1,.ListComp e gs s _=>s::(gs.flatMap λg=>scE n g.iter)++scE n e++(gs.flatMap λg=>g.ifs.flatMap (scE n))
 |n+1,.BoolOp _ vs _=>vs.flatMap (scE n)
 |n+1,.Call f as _ _=>scE n f++as.flatMap (scE n)
 |n+1,.BinOp a _ b _=>scE n a++scE n b
 |n+1,.UnaryOp _ a _=>scE n a
 |n+1,.Compare a _ cs _=>scE n a++cs.flatMap (scE n)
 |n+1,.Subscript a b _=>scE n a++scE n b
 |n+1,.Tuple es _ _=>es.flatMap (scE n)
 |n+1,.List es _=>es.flatMap (scE n)
 |n+1,.IfExp c a b _=>scE n c++scE n a++scE n b
 |n+1,.Dict _ vs _=>vs.flatMap (scE n)
 |n+1,.Slice a b c _=>(a.toList++b.toList++c.toList).flatMap (scE n)
 |n+1,.Attribute v _ _=>scE n v
 |_,_=>[]
noncomputable def scS:Nat->vH->Wp wX
 |0,_=>[]
 |n+1,.Return (Gc e) _=>scE 30 e
 |n+1,.Assign ts e _=>ts.flatMap (scE 30)++scE 30 e
 |n+1,.AugAssign t _ e _=>scE 30 t++scE 30 e
 |n+1,.Expr e _=>scE 30 e
 |n+1,.If t a b _=>scE 30 t++a.flatMap (scS n)++b.flatMap (scS n)
 |n+1,.For _ it a b _=>scE 30 it++a.flatMap (scS n)++b.flatMap (scS n)
 |n+1,.While t a b _=>scE 30 t++a.flatMap (scS n)++b.flatMap (scS n)
 |_,_=>[]
noncomputable def IK(st:vH)(k:Nat):wX:=((Ar st).flatMap (scS 20)).getD k (AB st)
structure mn(P:va)(w:wG)(K:W1)(mg:Str->uR uX)(base:vq)(x:Str)(k np:Nat)(tbl:Wp (Str×Fn)):Prop where
 ex:∃a kvs,mg x=Gc (.ref a)/\TopD K w a kvs/\∀p G,tbl.lookup p=Gc G->∃f fd ps,kvs.lookup p=Gc (.ref f)/\Ji P w K mg base CX0 k f fd ps (spD K np G)/\vm K (.ref f)=true/\Binds K fd ps []
noncomputable def iI(tbl:Wp (Str×Fn))(i j:Nat)(fs:Wp Ev):Ex:=λE S=>if((at? E i).isNone && decide (i<E.length))=true then(at? E j).bind λw=>match w with
 | .str p=>(tbl.lookup p).bind λG=>AZ (AF G fs) E S
 |_=>none
 else none
def EnR.au(r:EnR K M E σ H)(h:at? E i=none):EnR K M E (σ.set i (Gc v)) H:=by
 refine⟨by rw[wU];exact r.len,λj d e=>?_⟩
 have ne:i≠j:=λz=>by
  subst z
  unfold at? at h
  rw[e]at h
  cases h
 obtain⟨u,h1,h2⟩:=r.val j d e
 exact⟨u,by rw[uV ne];exact h1,h2⟩
def bL{X:Cx}{k np:Nat}{tbl:Wp (Str×Fn)}{x h y:Str}{px ph ph2 py pr p1 p2 pc:Pos} i j(T:mn X.prog X.w X.K X.mg X.base x k np tbl)(hr:Cj k X.A)(ha:DEs X (e::es) fs)(hnp:fs.length=np)(hN:X.N.Nodup)(hg:zn (Gl X x) ww)(hi:zn (X.N[i]?=Gc h) ww)(hil:zn (X.env.scope.names.lookup h=Gc .local) ww)(hj:zn (X.N[j]?=Gc y) ww)(hv:zn (Vis X.env.scope y) wT)(hdx:zn ((x==("__debug__":Str))=false) xz)(hdy:zn ((y==("__debug__":Str))=false) xz)(hcy:zn ((y==("__classdict__":Str))=false) xz)(hdh:zn ((h==("__debug__":Str))=false) xz)(hch:zn ((h==("__classdict__":Str))=false) xz)(hs:zn (swapsWith (.Subscript (.Name x px) (.Name y py) p1) (Gc (.Name h ph)) p2.line X.env=pure false) ww)(hpl:zn (OS (.Name y py)) wp)(he:zn (ue (e::es) X.env=(false,eval e X.env)::ue es X.env) ww)(hpa:zn ((backTo pc (ue es X.env)).any (·.1)=false) ww):DSs X [.Assign [.Name h ph] (.Subscript (.Name x px) (.Name y py) p1) p2,.Return (Gc (.Call (.Name h ph2) (e::es) [] pc)) pr] (iI tbl i j fs):=⟨by
 obtain⟨a,kvs,t1,t2,t3⟩:=T.ex
 refine Ov (OL (Zd (i:=i) hN hi (.inl hil) (bJ Y5 (OI (v:=.ref a) hg t1 rfl hdx) (IZ hj hv hdy hcy) hpl) hs (.inr hil)) (KR (Ry (Xj (k:=k) (i:=i) hi (.inl hil) hr ha.pe hdh hch he hpa)))) λDn σ H z=>?_
 obtain⟨M,E,S,fl,E',S',e,r,st,q⟩:=z
 unfold iI at e
 split at e
 .rename_i hnone
  rw[ub]at hnone
  have hlt:=ur hnone.2
  have hnone:at? E i=none:=by simpa using hnone.1
  obtain⟨w,e1,e⟩:=Ac e
  split at e
  .rename_i p
   obtain⟨G,e2,e⟩:=Ac e
   obtain⟨⟨d4,S4⟩,e3,e⟩:=IV e
   cases e
   obtain⟨v,hv1,hv2⟩:=r.val j _ (at?_some e1)
   cases hv2
   obtain⟨f,fd,ps,l1,l2,l3,l4⟩:=t3 p G e2
   refine⟨_,hv1,a,kvs,p,_,rfl,rfl,t2,l1,?_⟩
   have r1:=r.au (v:=.ref f) hnone
   have hlen:i<σ.length:=by
    have:=r.len
    lia
   refine⟨f,spD X.K np G,uh hlen,⟨fd,ps,l2,l3,l4⟩,?_⟩
   exact U3 (σ:=σ.set i (Gc (.ref f))) hnp ⟨M,_,S,d4,S4,e3,r1,st,q⟩
  .cases e
 .cases e⟩
def js{kV doc pm cdv ct:uX}(X:K.In h)(G:h.Ns mainGlobals mg)(a:vF K mainGlobals x=Gc (Gc (.ref f)))(l:K.lookup f=Gc ⟨oc,od,.func (wY x x (F2 st) (Ar st) (AB st) .none kV doc pm an cdv ct),osl⟩)(c:x5 K cdv x=true)(k:vm K (.ref f)=true):St.Src K mg x st:=
 ⟨f,_,VI l c k,wQ X G a⟩
def IsD(K:W1)(u:uX)(d:D):Prop:=∃v,RelV v u/\∀M H,BM K M H v d
def dZ:IsD K (.int i t) (.int i):=⟨.int i,⟨t,rfl⟩,λ_ _=>.int i⟩
def bS:IsD K (.str x t) (.str x):=⟨.str x,⟨t,rfl⟩,λ_ _=>.str x⟩
def gI:IsD K (.bool b) (.bl b):=⟨.bl b,rfl,λ_ _=>.bl b⟩
def eA:IsD K .none .non:=⟨.non,rfl,λ_ _=>.non⟩
theorem Rv:∀{us} {ds},Paired (λd u=>IsD K u d) ds us->∃xs,Vals xs us/\∀M H,Ae K M H xs ds
 |_,_,.nil=>⟨[],.nil,λ_ _=>.nil⟩
 |_,_,.cons h t=>by
  obtain⟨v,h1,h2⟩:=h
  obtain⟨xs,h3,h4⟩:=Rv t
  exact⟨v::xs,.cons h1 h3,λM H=>.cons (h2 M H) (h4 M H)⟩
def bW(l:K.lookup a=Gc ⟨.type "tuple",od,.seq its.toArray n,osl⟩)(hz:its.length<=sizeLine)(r:Paired (λd u=>IsD K u d) ds its):IsD K (.ref a) (.tup ds):=by
 obtain⟨xs,h1,h2⟩:=Rv r
 exact⟨.ref a,rfl,λM H=>.tup (.inr ⟨_,its.toArray,n,l,rfl,rfl,by simpa using hz,by simpa using h1⟩) (h2 M H)⟩
def iF(X:K.In h)(G:h.Ns mainGlobals mg)(e:vF K mainGlobals x=Gc (Gc u))(r:IsD K u d):QM K mg x d:=by
 obtain⟨v,h1,h2⟩:=r
 exact⟨v,u,wQ X G e,h1,h2⟩
theorem UT:∀{tbl} {es},Paired (λp (e:y9)=>(∃t,e.key=.str p.1 t)/\IsD K e.val p.2) tbl es->∃kvs,Paired (λp (e:y9)=>(∃t,e.key=.str p.1 t)/\RelV p.2 e.val) kvs es/\∀k,(tbl.lookup k=none->kvs.lookup k=none)/\∀d,tbl.lookup k=Gc d->∃v,kvs.lookup k=Gc v/\∀M H,BM K M H v d
 |_,_,.nil=>⟨[],.nil,λk=>⟨λ_=>rfl,λd e=>by cases e⟩⟩
 |(k0,d0)::tbl,_::es,.cons hh t=>by
  obtain⟨hk,v,h1,h2⟩:=hh
  obtain⟨kvs,h3,h4⟩:=UT t
  refine⟨(k0,v)::kvs,.cons ⟨hk,h1⟩ h3,λk=>?_⟩
  rw[vT,vT]
  cases e:k==k0 with
  |true=>exact⟨λz=>(nomatch z),λd z=>by cases z;exact⟨v,rfl,h2⟩⟩
  |false=>exact h4 k
def dX(X:K.In h)(G:h.Ns mainGlobals mg)(e:vF K mainGlobals x=Gc (Gc (.ref a)))(l:K.lookup a=Gc ⟨.type "dict",none,.dict es.toArray n, #[]⟩)(hk:zv w.params es)(hne:(a==sysModules)=false)(hp:Paired (λp (e:y9)=>(∃t,e.key=.str p.1 t)/\IsD K e.val p.2) tbl es):fO K w mg x tbl:=by
 obtain⟨kvs,h1,h2⟩:=UT hp
 exact⟨a,kvs,wQ X G e,Yw l hk hne h1,h2⟩
structure lR(w:wG)(K:W1)(mg:Str->uR uX)(x:Str)(ns:Wp (Str×Str)):Prop where
 ex:∃a kvs,mg x=Gc (.ref a)/\TopD K w a kvs/\Paired (λ(n:Str×Str) (q:Str×V)=>n.1=q.1/\∃f,q.2=.ref f/\mg n.2=Gc (.ref f)) ns kvs
theorem PJ(X:K.In h)(G:h.Ns mainGlobals mg):∀{ns:Wp (Str×Str)} {es},Paired (λn (e:y9)=>(∃t,e.key=.str n.1 t)/\∃f,e.val=.ref f/\vF K mainGlobals n.2=Gc (Gc (.ref f))) ns es->∃kvs:Wp (Str×V),Paired (λp (e:y9)=>(∃t,e.key=.str p.1 t)/\RelV p.2 e.val) kvs es/\Paired (λn q=>n.1=q.1/\∃f,q.2=.ref f/\mg n.2=Gc (.ref f)) ns kvs
 |_,_,.nil=>⟨[],.nil,.nil⟩
 |(k0,g0)::ns,_::es,.cons hh t=>by
  obtain⟨hk,f,h1,h2⟩:=hh
  obtain⟨kvs,h3,h4⟩:=PJ X G t
  exact⟨(k0,.ref f)::kvs,.cons ⟨hk,h1⟩ h3,.cons ⟨rfl,f,rfl,wQ X G h2⟩ h4⟩
def Zv(X:K.In h)(G:h.Ns mainGlobals mg)(e:vF K mainGlobals x=Gc (Gc (.ref a)))(l:K.lookup a=Gc ⟨.type "dict",none,.dict es.toArray n, #[]⟩)(hk:zv w.params es)(hne:(a==sysModules)=false)(hp:Paired (λn (e:y9)=>(∃t,e.key=.str n.1 t)/\∃f,e.val=.ref f/\vF K mainGlobals n.2=Gc (Gc (.ref f))) ns es):lR w K mg x ns:=by
 obtain⟨kvs,h1,h2⟩:=PJ X G hp
 exact⟨a,kvs,wQ X G e,Yw l hk hne h1,h2⟩
def br{k np:Nat}:∀{ns:Wp (Str×Str)} {kvs:Wp (Str×V)} {tbl},Paired (λn q=>n.1=q.1/\∃f,q.2=.ref f/\mg n.2=Gc (.ref f)) ns kvs->Paired (λn q=>n.1=q.1/\∃j ps,j<=k/\St.Dfn P w K mg base n.2 j ps (spD K np q.2)) ns tbl->∀p G,tbl.lookup p=Gc G->∃f fd ps,kvs.lookup p=Gc (.ref f)/\Ji P w K mg base CX0 k f fd ps (spD K np G)/\vm K (.ref f)=true/\Binds K fd ps []:=by
 intro ns kvs tbl a
 induction a generalizing tbl with
 |nil=>intro b p G e;cases b;cases e
 |cons h1 t1 ih=>
  intro b p G e
  cases b with
  |cons h2 t2=>
  rename_i n0 q1 n1 l1 q2 l2
  obtain⟨k1,v1⟩:=q1
  obtain⟨k2,G2⟩:=q2
  obtain⟨e1,f,e2,e3⟩:=h1
  obtain⟨e4,j,ps,hj,hd⟩:=h2
  have e5:k1=k2:=e1.symm.trans e4
  subst e5
  rw[vT]at e⊢
  cases eq:p==k1 with
  |true=>
   rw[eq]at e
   cases e
   obtain⟨f',fd,m1,m2,m3,m4⟩:=hd.ex
   have:f'=f:=by
    have:=m1.symm.trans e3
    cases this;rfl
   subst this
   exact⟨f',fd,ps,by rw[show v1=.ref f' from e2],m4.mono hj,m2,m3⟩
  |false=>
   rw[eq]at e
   exact ih t2 p G e
def ag(T:lR w K mg x ns)(h:Paired (λn q=>n.1=q.1/\∃j ps,j<=k/\St.Dfn P w K mg base n.2 j ps (spD K np q.2)) ns tbl):mn P w K mg base x k np tbl:=by
 obtain⟨a,kvs,h1,h2,h3⟩:=T.ex
 exact⟨a,kvs,h1,h2,br h3 h⟩
noncomputable def putD(kvs:Wp (Key×D))(k:Key)(v:D):Wp (Key×D):=
 if(kvs.any λkv=>decide (kv.1=k))=true then kvs.map (λkv=>if kv.1=k then(kv.1,v)else kv)else kvs++[(k,v)]
noncomputable def Ia(kvs more:Wp (Key×D)):Wp (Key×D):=more.foldl (λacc kv=>putD acc kv.1 kv.2) kvs
noncomputable def Rr:Wp (Key×D)->Key->uR D
 | [],_=>none
 |(j,d)::r,k=>if j=k then Gc d else Rr r k
noncomputable def eQ:D->uR Key
 | .int i=>Gc (.inl i)
 | .str x=>Gc (.inr x)
 |_=>none
noncomputable def cI(S:Sto):D->uR (Wp (Key×D))
 | .dct es=>Gc es
 | .ref n=>match S[n]? with
   |some (.dct es)=>Gc es
   |_=>none
 |_=>none
noncomputable def Yk:vZ->Wp (Key×D)->Sto->D×Sto
 |false,es,S=>(.dct es,S)
 |true,es,S=>(.ref S.length,S++[.dct es])
section
variable{K:W1}{M M':Ms}{H:Hp}{S:Sto}{E:En}{σ:Sg}
def B6.any k(h:B6 K M H kvs es):(kvs.any λkv=>decide (kv.1=k))=es.any λkv=>decide (kv.1=k):=h.ind (P:=λv d=>(v.any λkv=>decide (kv.1=k))=d.any λkv=>decide (kv.1=k)) rfl λ_ t=>by rw[xJ,xJ,t]
def B6.app(h:B6 K M H kvs es)(s:B6 K M H kvs' es'):B6 K M H (kvs++kvs') (es++es'):=h.ind (P:=λv d=>B6 K M H (v++kvs') (d++es')) s λh t=>.cons h t
theorem B6.kX(r:BM K M H v d):∀{kvs} {es},B6 K M H kvs es->B6 K M H (kvs.map λkv=>if kv.1=k then(kv.1,v)else kv) (es.map λkv=>if kv.1=k then(kv.1,d)else kv)
 |_,_,.nil=>.nil
 |_,_,.cons (k:=k') h t=>by
  rw[uw,uw]
  by_cases e:k'=k
  .rw[vC e,vC e];exact .cons r (B6.kX r t)
  .rw[vB e,vB e];exact .cons h (B6.kX r t)
def B6.put(r:BM K M H v d)(h:B6 K M H kvs es):B6 K M H (putK kvs k v) (putD es k d):=by
 unfold putK putD
 rw[h.any k]
 split
 .exact h.kX r
 .exact h.app (.cons r .nil)
def B6.merge(h:B6 K M H more more')(g:B6 K M H kvs es):B6 K M H (L8 kvs more) (Ia es more'):=
 h.ind (P:=λv d=>∀kvs es,B6 K M H kvs es->B6 K M H (L8 kvs v) (Ia es d)) (λ_ _ g=>g) (λr t _ _ g=>t _ _ (g.put r)) _ _ g
theorem B6.val k:∀{kvs} {es},B6 K M H kvs es->(Tw kvs k=none/\Rr es k=none)\/∃v d,Tw kvs k=Gc v/\Rr es k=Gc d/\BM K M H v d
 |_,_,.nil=>.inl ⟨rfl,rfl⟩
 |_,_,.cons (k:=k') (d:=d) (v:=v) (ds:=ds) h t=>by
  by_cases e:k'=k
  .exact .inr ⟨v,d,N6 e,by simp[Rr,e],h⟩
  .rw[Ob e]
   have:Rr ((k',d)::ds) k=Rr ds k:=by simp[Rr,e]
   rw[this]
   exact B6.val k t
def ZU(r:BM K M H v d)(e:eQ d=Gc k):v=kV k:=by
 cases r<;>cases e<;>rfl
def Zp(st:StR K M S H)(r:BM K M H v d)(e:cI S d=Gc es):∃a kvs,v=.ref a/\H a=Gc (.dK kvs)/\B6 K M H kvs es:=by
 cases r with
 |dct h n r=>cases e;exact⟨_,_,rfl,h,r⟩
 |ref h=>
  rename_i a n
  unfold cI at e
  dsimp only at e
  split at e
  .rename_i es' e'
   cases e
   obtain⟨kvs,h1,h2⟩:=st.cell n a _ h e'
   exact⟨a,kvs,rfl,h1,h2⟩
  .cases e
 |_=>cases e
def StR.dn(r:StR K M S H)(e:H a=none):StR K ⟨M.cel,a::M.tmp⟩ S (upd H a (.dK []))/\Sp1 M H ⟨M.cel,a::M.tmp⟩ (upd H a (.dK [])):=by
 have k:∀b o,H b=Gc o->upd H a (.dK []) b=Gc o:=CS e
 have na:¬M.mem a:=λz=>r.mo.some z e
 have s1:Sp1 M H ⟨M.cel,a::M.tmp⟩ (upd H a (.dK [])):=⟨r.mo,vj,λb z=>by
  rcases z with z|z
  .exact .inl (.inl z)
  .rcases uY.mp z with z|z
   .subst z;exact .inr e
   .exact .inl (.inr z),λb o eb _=>k b o eb⟩
 refine⟨⟨λb z=>?_,r.nd,λb hb z=>?_,r.len,λn b c h1 h2=>?_⟩,s1⟩
 .by_cases h:b=a
  .subst h;exact⟨_,AX,trivial⟩
  .rw[AM h]
   refine r.mo b ?_
   rcases z with z|z
   .exact .inl z
   .rcases uY.mp z with z|z
    .exact absurd z h
    .exact .inr z
 .rcases uY.mp hb with hb|hb
  .subst hb;exact na (.inl z)
  .exact r.nt b hb z
 .exact(r.cell n b c h1 h2).step s1 λo e=>k _ _ e
def StR.sW cf(r:StR K ⟨c,a::t⟩ S H)(nt:a∉t)(rr:B6 K ⟨c,a::t⟩ H kvs es):∃c',StR K ⟨c',t⟩ (Yk cf es S).2 (upd H a (.dK kvs))/\BM K ⟨c',t⟩ (upd H a (.dK kvs)) (.ref a) (Yk cf es S).1/\c <+: c'/\(∀b∈c',b∈c\/b=a):=by
 have nc:a∉c:=r.nt a uk
 have hl:c.length=S.length:=r.len
 have ne:∀b∈c,b≠a:=λb hb z=>nc (by rw[<-z];exact hb)
 have kp:∀b o,H b=Gc o->¬Ms.mem ⟨c,a::t⟩ b->upd H a (.dK kvs) b=Gc o:=λb o eb nb=>by rw[AM (λz=>nb (.inr (by rw[z];exact uk)))];exact eb
 have old:∀{c':Wp uf},Sp1 ⟨c,a::t⟩ H ⟨c',t⟩ (upd H a (.dK kvs))->∀(n:Nat) (b:uf) (cl:Cl),c[n]?=Gc b->S[n]?=Gc cl->Qr K ⟨c',t⟩ (upd H a (.dK kvs)) b cl:=λs1 n b cl h1 h2=>by
  have hb:=ne b (uv h1)
  exact(r.cell n b cl h1 h2).step s1 λo e=>by rw[AM hb];exact e
 have mo:∀b,Ms.mem ⟨c,t⟩ b\/b=a->∃o,upd H a (.dK kvs) b=Gc o/\Mob o:=λb z=>by
  by_cases h:b=a
  .subst h;exact⟨_,AX,trivial⟩
  .rw[AM h]
   rcases z with z|z
   .exact r.mo b (z.imp id (uW _))
   .exact absurd z h
 cases cf with
 |false=>
  have s1:Sp1 ⟨c,a::t⟩ H ⟨c,t⟩ (upd H a (.dK kvs)):=⟨r.mo,vj,λb z=>.inl (z.imp id (uW _)),kp⟩
  exact⟨c,⟨λb z=>mo b (.inl z),r.nd,λb hb=>r.nt b (uW _ hb),r.len,old s1⟩,.dct AX (λz=>z.elim nc nt) (rr.step s1),vj,λb z=>.inl z⟩
 |true=>
  have s1:Sp1 ⟨c,a::t⟩ H ⟨c++[a],t⟩ (upd H a (.dK kvs)):=⟨r.mo,xS _ _,λb z=>by
   rcases z with z|z
   .rcases vD.mp z with z|z
    .exact .inl (.inl z)
    .exact .inl (.inr (by rw[vQ.mp z];exact uk))
   .exact .inl (.inr (uW _ z)),kp⟩
  refine⟨c++[a],⟨λb z=>mo b ?_,?_,λb hb z=>?_,by simp[Yk,hl],λn b cl h1 h2=>?_⟩,.ref (by rw[<-hl];exact uy),xS _ _,λb z=>?_⟩
  .rcases z with z|z
   .rcases vD.mp z with z|z
    .exact .inl (.inl z)
    .exact .inr (vQ.mp z)
   .exact .inl (.inr z)
  .rw[yX]
   refine⟨r.nd,by simp,λx hx y hy z=>?_⟩
   simp at hy;subst hy
   exact nc (by rw[<-z];exact hx)
  .rcases vD.mp z with z|z
   .exact r.nt b (uW _ hb) z
   .rw[vQ.mp z]at hb;exact nt hb
  .have h2:(S++[Cl.dct es])[n]?=Gc cl:=h2
   by_cases h:n<S.length
   .rw[uT (by rw[hl];exact h)]at h1
    rw[uT h]at h2
    exact old s1 n b cl h1 h2
   .have hm:n=S.length:=by
     have:=(ua.mp h2).1
     simp at this;lia
    subst hm
    rw[vI (by rw[hl];exact uc _)]at h1
    rw[vI (uc _)]at h2
    rw[hl]at h1
    simp at h1 h2
    subst h1 h2
    exact⟨kvs,AX,rr.step s1⟩
  .rcases vD.mp z with z|z
   .exact .inl z
   .exact .inr (vQ.mp z)
noncomputable def evP:Wp (Ev×Ev)->En->Sto->uR (Wp (Key×D)×Sto)
 | [],_,S=>Gc ([],S)
 |(k,v)::r,E,S=>(k E S).bind λa=>(eQ a.1).bind λkk=>(v E a.2).bind λb=>(evP r E b.2).map λq=>((kk,b.1)::q.1,q.2)
theorem Zg:∀{fs} {M} {S} {es} {S'} {H} {Q},evP fs E S=Gc (es,S')->EnR K M E σ H->StR K M S H->(∀kvs H' M',Gr M H M' H'->StR K M' S' H'->B6 K M' H' kvs es->kvs.length=fs.length->Q (kvs.map λkv=>(kV kv.1,kv.2)) H')->Rj (fs.map λx=>(tD K x.1,tD K x.2)) σ H Q
 | [],M,S,es,S',H,Q,e,r,st,q=>by
   cases e
   exact q [] H M (.refl st.mo) st .nil rfl
 |(fk,fv)::fs,M,S,es,S',H,Q,e,r,st,q=>by
  obtain⟨⟨dk,S1⟩,e1,e⟩:=Ac e
  obtain⟨kk,ek,e⟩:=Ac e
  obtain⟨⟨dv,S2⟩,e2,e⟩:=Ac e
  obtain⟨⟨es',S3⟩,e3,e⟩:=IV e
  cases e
  refine⟨M,E,S,dk,S1,e1,r,st,λv H1 M1 g1 st1 d1=>?_⟩
  refine⟨M1,E,S1,dv,S2,e2,r.step g1.st,st1,λv2 H2 M2 g2 st2 d2=>?_⟩
  refine Zg e3 ((r.step g1.st).step g2.st) st2 λkvs H3 M3 g3 st3 rk hl=>?_
  rw[ZU d1 ek]
  exact q ((kk,v2)::kvs) H3 M3 ((g1.trans g2).trans g3) st3 (.cons (d2.step g3.st) rk) (by simp[hl])
end
noncomputable def VB(cf:vZ)(fs:Wp (Ev×Ev)):Ev:=λE S=>(evP fs E S).map λr=>Yk cf (Ia [] r.1) r.2
abbrev iY:=VB false
section
variable{X:Cx}{pos:Pos}
structure DPs(X:Cx)(pos:Pos)(ks:Wp (uR vi))(vs:Wp vi)(fs:Wp (Ev×Ev)):Prop where
 pe:PPs X pos ks vs (fs.map λx=>(tD X.K x.1,tD X.K x.2))
 all:ks.all (·.isSome)=true
 len:ks.length=vs.length
 num:fs.length=vs.length
def aY:DPs X pos [] [] []:=⟨ae,rfl,rfl,rfl⟩
def RY(hk:DE X k fk)(hv:DE X v fv)(h:DPs X pos ks vs fs):DPs X pos (Gc k::ks) (v::vs) ((fk,fv)::fs):=
 ⟨YV hk.pe hv.pe h.pe,by rw[yN,h.all];rfl,by rw[vG,vG,h.len],by rw[vG,vG,h.num]⟩
def dJ{K:W1}{M:Ms}{H:Hp}{S S':Sto}{Q:VK}{cf:vZ}{M2:Ms}(st:StR K M S H)(hp:H p=none)(g:Gr ⟨M.cel,p::M.tmp⟩ (upd H p (.dK [])) M2 H2)(st2:StR K M2 S2 H2)(rk:B6 K M2 H2 kvs es)(q:∀v H' M',Gr M H M' H'->StR K M' (Yk cf es S2).2 H'->BM K M' H' v (Yk cf es S2).1->Q v H'):Q (.ref p) (upd H2 p (.dK kvs)):=by
 obtain⟨c2,t2⟩:=M2
 have ht:t2=p::M.tmp:=g.tmp
 subst ht
 have np:p∉M.tmp:=λz=>st.mo.some (.inr z) hp
 obtain⟨c',st',rd,pr,sub⟩:=st2.sW cf np rk
 refine q _ _ ⟨c',M.tmp⟩ ⟨st.mo,(show M.cel <+: c2 from g.pre).trans pr,rfl,λb z=>?_,λb o eb nb=>?_,λb eb=>?_⟩ st' rd
 .rcases sub b z with z|z
  .rcases g.fresh b z with z|z
   .exact .inl z
   .right
    by_cases h:b=p
    .rw[h];exact hp
    .rw[AM h]at z;exact z
  .right;rw[z];exact hp
 .have h:b≠p:=λz=>by rw[z,hp]at eb;cases eb
  rw[AM h]
  exact g.keep b o (by rw[AM h];exact eb) nb
 .by_cases h:b=p
  .subst h;rw[AX];intro z;cases z
  .rw[AM h]
   exact g.some b (by rw[AM h];exact eb)
def jY(h:DPs X pos ks vs fs)(h0:ks≠[])(h15:ks.length<=15):DE X (.Dict ks vs pos) (VB cf fs):=⟨
 Ax (aw h.pe h.all h.len h0 h15) λσ H Q z=>by
  obtain⟨M,E,S,d,S',e,r,st,q⟩:=z
  obtain⟨⟨es,S2⟩,e1,e⟩:=IV e
  intro p hp
  obtain⟨st0,s0⟩:=st.dn hp
  refine Zg e1 (r.step s0) st0 λkvs H2 M2 g st2 rk hl=>⟨g.keep p _ AX (st0.nt p uk),kvs,rfl,by rw[hl,h.num,<-h.len];exact h15,?_⟩
  refine dJ (cf:=cf) (S':=S') st hp g st2 (rk.merge .nil) ?_
  have e':Yk cf (Ia [] es) S2=(d,S'):=e
  rw[e']
  exact q⟩
noncomputable def lB(fd fk fx:Ev):Ev:=λE S=>(fd E S).bind λa=>(cI a.2 a.1).bind λ_=>(fk E a.2).bind λb=>(fx E b.2).bind λc=>(cI c.2 a.1).bind λes=>(eQ b.1).map λk=>((Rr es k).getD c.1,c.2)
def ip(hu:X.A.units+100<cLine)(ho:DE X o fd)(hk:DE X e fk)(hx:DE X f fx)(m:M2 X o "get" apos e f cpos):DE X (.Call (.Attribute o "get" apos) [e,f] [] cpos) (lB fd fk fx):=⟨
 Ax (YM (by lia) ho.pe hk.pe hx.pe m) λσ H Q z=>by
  obtain⟨M,E,S,d,S',e,r,st,q⟩:=z
  obtain⟨⟨a,S1⟩,e1,e⟩:=Ac e
  obtain⟨es1,ed,e⟩:=Ac e
  obtain⟨⟨b,S2⟩,e2,e⟩:=Ac e
  obtain⟨⟨c,S3⟩,e3,e⟩:=Ac e
  obtain⟨es,ed3,e⟩:=Ac e
  obtain⟨k,ek,e⟩:=IV e
  cases e
  refine⟨M,E,S,a,S1,e1,r,st,λv H1 M1 g1 st1 d1=>?_⟩
  obtain⟨p,kvs,rfl,hp,_⟩:=Zp st1 d1 ed
  refine⟨p,rfl,.inl ⟨kvs,.inl hp⟩,M1,E,S1,b,S2,e2,r.step g1.st,st1,λv2 H2 M2 g2 st2 d2=>?_⟩
  refine⟨M2,E,S2,c,S3,e3,(r.step g1.st).step g2.st,st2,λv3 H3 M3 g3 st3 d3=>?_⟩
  obtain⟨p',kvs3,e4,hp3,rk⟩:=Zp st3 ((d1.step g2.st).step g3.st) ed3
  cases e4
  rw[ZU d2 ek]
  refine⟨_,.k hp3,?_⟩
  rcases rk.val k with⟨h1,h2⟩|⟨v,d,h1,h2,h3⟩
  .rw[h1];rw[h2]at q;exact q _ _ M3 ((g1.trans g2).trans g3) st3 d3
  .rw[h1];rw[h2]at q;exact q _ _ M3 ((g1.trans g2).trans g3) st3 h3⟩
end
def Tb(old:uf->Prop)(H:Hp)(h:vq)(e:uf)(v:uX):Prop:=
 v=.none\/∃T oT ts,v=.ref T/\T≠e/\h.get? T=Gc oT/\oT.data=.fields ts/\ts[3]?=Gc .none/\H T=none/\¬old T
structure Fly(old:uf->Prop)(H:Hp)(h:vq)(e C:uf)(od:uR uf):Prop where
 free:H e=none
 new:¬old e
 ex:∃oe vs a0 v,h.get? e=Gc oe/\oe.cls=.ref C/\oe.data=.fields vs/\vs[0]?=Gc a0/\vs[1]?=Gc v/\Tb old H h e v/\∀dx,od=Gc dx->oe.dict=Gc dx
def Fly.imp(f:Fly old H h e C od)(m:∀b,old' b->old b):Fly old' H h e C od:=by
 obtain⟨oe,vs,a0,v,h1,h2,h3,h4,h5,t,hd⟩:=f.ex
 refine⟨f.free,λz=>f.new (m _ z),oe,vs,a0,v,h1,h2,h3,h4,h5,?_,hd⟩
 rcases t with t|⟨T,oT,ts,t1,t2,t3,t4,t5,t6,t7⟩
 .exact .inl t
 .exact .inr ⟨T,oT,ts,t1,t2,t3,t4,t5,t6,λz=>t7 (m _ z)⟩
structure jV(old:uf->Prop)(H:Hp)(h:vq)(e C:uf)(od:uR uf):Prop where
 free:H e=none
 new:¬old e
 ex:∃oe vs a0 T oT ts,h.get? e=Gc oe/\oe.cls=.ref C/\oe.data=.fields vs/\vs[0]?=Gc a0/\vs[1]?=Gc (.ref T)/\(T≠e/\h.get? T=Gc oT/\oT.data=.fields ts/\ts[3]?=Gc .none/\H T=none/\¬old T)/\∀dx,od=Gc dx->oe.dict=Gc dx
def jV.fly(f:jV old H h e C od):Fly old H h e C od:=by
 obtain⟨oe,vs,a0,T,oT,ts,h1,h2,h3,h4,h5,r,hd⟩:=f.ex
 exact⟨f.free,f.new,oe,vs,a0,.ref T,h1,h2,h3,h4,h5,.inr ⟨T,oT,ts,rfl,r⟩,hd⟩
structure Trn(X:Cx)(old:uf->Prop)(H:Hp)(h h':vq)(e C:uf)(od:uR uf):Prop where
 keep:∀b o,h.get? b=Gc o->b∉frs X.stack->(H b≠none\/old b\/∀vs,o.data≠.fields vs)->h'.get? b=Gc o
 slot:∀b o,h.get? b=Gc o->(∀vs,o.data≠.fields vs)->∃sl,h'.get? b=Gc {o with slots:=sl}
 fly:jV old H h' e C od
def CT.there(x:CT P w H h a o):∃ob,h.get? a=Gc ob:=by
 cases o with
 |lst xs=>obtain⟨_,_,_,_,e⟩:=x;exact⟨_,e⟩
 |tup xs=>obtain⟨_,_,_,ob,e,_⟩:=x;exact⟨_,e⟩
 |dK kvs=>obtain⟨_,_,_,_,o,_,_,e,_⟩:=x;exact⟨_,e⟩
 |dT kvs=>obtain⟨_,_,_,_,o,_,_,e,_⟩:=x;exact⟨_,e⟩
 |set S n=>obtain⟨o,_,_,_,e,_⟩:=x;exact⟨_,e⟩
 |ins C dx fs=>obtain⟨_,_,_,e,_⟩:=x;exact⟨_,e⟩
 |own y=>obtain⟨_,e⟩:=x;exact⟨_,e⟩
 |xd fs=>obtain⟨_,⟨_,_,_,e,_⟩,_⟩:=x;exact⟨_,e⟩
 |rng lo hi=>obtain⟨_,_,_,e⟩:=x;exact⟨_,e⟩
 |frz ob u=>obtain⟨e,_⟩:=x;exact⟨_,e⟩
 |tbl ps=>exact⟨_,(show h.get? a=Gc _ from x)⟩
 |met f y=>exact⟨_,(show h.get? a=Gc _ from x)⟩
 |ext φ=>obtain⟨_,⟨_,e⟩,_⟩:=x;exact⟨_,e⟩
section
variable{X:Cx}{pins:Wp (uf×Obj)}{σ:St}{H:Hp}{s:ui}{old:uf->Prop}{e C:uf}{od:uR uf}{Q:Unit->ui->Prop}{E:uX->ui->Prop}{A:wy}
def US{h:vq}(ha:h.get? a=Gc oa)(hd:oa.data=.fields vs)(hb:h.get? b=Gc o)(n:∀vs,o.data≠.fields vs):b≠a:=λz=>by
 rw[z,ha]at hb
 cases hb
 exact n _ hd
def dW{h:vq}(ha:h.get? a=Gc oa)(hd:oa.data=.fields vs)(fr:H a=none)(nw:¬old a)(hb:h.get? b=Gc o)(k:H b≠none\/old b\/∀vs,o.data≠.fields vs):b≠a:=λz=>by
 subst z
 rcases k with k|k|k
 .exact k fr
 .exact nw k
 .exact US ha hd hb k rfl
def RF{ts:yo uX}(h:ts[i]?=Gc v):ts.setIfInBounds i v=ts:=by
 apply Array.ext (by simp)
 intro j h1 h2
 rw[Array.getElem_setIfInBounds]
 split
 .rename_i z
  subst z
  obtain⟨_,q⟩:=xT.mp h
  exact q.symm
 .rfl
def O7(I:Inv X pins σ H s)(hA:A.frames=Gc X.stack)(hst:X.stack=X.env::X.outer)(hf:X.env.frame=Gc X.env.locals)(free:H e=none)(new:¬old e)(ho:∀b,old b->s.heap.get? b≠none)(he:s.heap.get? e=Gc oe)(hc:oe.cls=.ref C)(hd:oe.data=.fields vs)(h0:vs[0]?=Gc a0)(hz:1<vs.size)(hdx:∀dx,od=Gc dx->oe.dict=Gc dx)(hQ:∀h',Trn X old H s.heap h' e C od->Q () {s with heap:=h'}):wpAny M A (do let a<-frameOf X.env;let pl<-entryPlaceOf X.env.locals hadNext;let b<-ABw head a .none (rawInt X.env.locals) .none pl;setField (.ref e) 1 b) (λ_ s2=>wpAny M A (setFlight (.ref e) none) Q E s2) E s:=by
 have st:=I.stack
 have ef:e∉frs X.stack:=λm=>by
  obtain⟨_,o,q,n⟩:=st.mem m
  exact US he hd q n rfl
 have hfr:A.frames=Gc (X.env::X.outer):=by rw[hA,hst]
 rw[hst]at st
 refine uP (wpAny_frameOf_fun hfr st hf λh1 hs=>?_)
 obtain⟨sz,out,sl⟩:=hs
 refine uP (wpAny_entryPlaceOf λpl hpl=>?_)
 unfold ABw newFields
 refine uP (xA ?_ (hpl.sizeOk5 _ _ _ _ _))
 generalize hob:({cls:=.type "traceback",data:=.fields ([head,.ref X.env.locals,.none,rawInt X.env.locals,.none]++(if pl.isEmpty then uo 6 vL else pl)).toArray}:Obj)=tb
 have ef':e∉(X.env::X.outer).filterMap (·.frame):=by rw[<-hst];exact ef
 have e1:h1.get? e=Gc oe:=(out e ef').trans he
 have e2:(h1.push tb).get? e=Gc oe:=uQ _ e1
 refine x8 e2 hd hz ?_
 have Te:h1.objs.size≠e:=zA (uj e1)
 have d3:=xP hd (·.setIfInBounds 1 (u5 h1.objs.size))
 have e3:=wB (v9 (·.setIfInBounds 1 (u5 h1.objs.size))) e2 (wg d3)
 have tbd:∃ts:yo uX,tb.data=.fields ts/\3<ts.size:=⟨_,by rw[<-hob],by simp only[uq,vp,vG,xf]<;>lia⟩
 obtain⟨ts,td,tz⟩:=tbd
 have T3:((h1.push tb).update e (v9 (·.setIfInBounds 1 (u5 h1.objs.size)))).get? h1.objs.size=Gc tb:=(vn _ _ Te.symm).trans (ux h1 (wg td))
 unfold setFlight
 refine uP (wM e3 d3 (x:=.ref h1.objs.size) (by simp[hz]) ?_)
 rw[vC (show(u5 h1.objs.size !=vL)=true from by simp)]
 refine x8 T3 td tz (hQ _ ?_)
 have T4:=wB (v9 (·.setIfInBounds 3 ((none:uR uf).elim vL λf=>rawInt f))) T3 (wg (xP td _))
 have all:∀b o,b≠e->h1.get? b=Gc o->(((h1.push tb).update e (v9 (·.setIfInBounds 1 (u5 h1.objs.size)))).update h1.objs.size (v9 (·.setIfInBounds 3 ((none:uR uf).elim vL λf=>rawInt f)))).get? b=Gc o:=λb o n q=>by
  rw[vn _ _ (zA (uj q)),vn _ _ (vh n)]
  exact uQ _ q
 have Tn:s.heap.get? h1.objs.size=none:=by
  cases q:s.heap.get? h1.objs.size with
  |none=>rfl
  |some o=>
   obtain⟨sl',z⟩:=sl _ o q
   exact absurd (uj z) (v8 _)
 refine⟨λb o q nf k=>all b o (dW he hd free new q k) ((out b (by rw[<-hst];exact nf)).trans q),λb o q n=>?_,free,new,_,_,a0,h1.objs.size,_,_,(vn _ _ Te).trans e3,(Obj.cls_mapFields _ _).trans hc,d3,by rw[zS (by decide)];exact h0,by simp[hz],⟨Te,T4,xP td _,by simp[tz],?_,λz=>ho _ z Tn⟩,λdx z=>?_⟩
 .obtain⟨sl',z⟩:=sl b o q
  exact⟨sl',all b _ (US he hd q n) z⟩
 .cases q:H h1.objs.size with
  |none=>rfl
  |some o=>
   obtain⟨ob,z⟩:=CT.there (I.hok _ o q)
   rw[Tn]at z;cases z
 .rw[<-hdx dx z]
  obtain⟨c,dd,da,sl⟩:=oe
  cases da<;>first|rfl|(simp[v9];done)
def Oo(I:Inv X pins σ H s)(hA:A.frames=Gc X.stack)(hst:X.stack=X.env::X.outer)(hf:X.env.frame=Gc X.env.locals)(f:Fly old H s.heap e C od)(ho:∀b,old b->s.heap.get? b≠none)(hQ:∀h',Trn X old H s.heap h' e C od->Q () {s with heap:=h'}):wpAny M A (noteFrame (.ref e) X.env) (λ_ s2=>wpAny M A (setFlight (.ref e) none) Q E s2) E s:=by
 obtain⟨oe,vs,a0,v,h1,h2,h3,h4,h5,t,hd⟩:=f.ex
 have hz:=(xT.mp h5).1
 unfold noteFrame
 simp only[hf]
 refine uP (wM h1 h3 h5 ?_)
 rcases t with t|⟨T,oT,ts,t1,t2,t3,t4,t5,t6,t7⟩
 .subst t
  rw[vB (by decide)]
  exact O7 I hA hst hf f.free f.new ho h1 h2 h3 h4 hz hd hQ
 .subst t1
  rw[vC (show(u5 T !=vL)=true from by simp)]
  refine uP (wM t3 t4 t5 ?_)
  rw[vB (show¬((vL==rawInt X.env.locals)=true)from by simp[rawInt])]
  refine uP (x8 t3 t4 (xT.mp t5).1 ?_)
  have oth:∀b,b≠T->(s.heap.update T (v9 (·.setIfInBounds 3 vL))).get? b=s.heap.get? b:=λb n=>vn _ _ (vh n)
  have sm:=RF t5
  have up:(s.heap.update T (v9 (·.setIfInBounds 3 vL))).get? T=Gc oT:=by
   rw[wB _ t3 (wg (xP t4 _))]
   obtain⟨c,dd,da,sl⟩:=oT
   cases t4
   show Gc ({cls:=c,dict:=dd,data:=.fields (ts.setIfInBounds 3 .none),slots:=sl}:Obj)=_
   rw[sm]
  have same:∀b,(s.heap.update T (v9 (·.setIfInBounds 3 vL))).get? b=s.heap.get? b:=λb=>by
   by_cases z:b=T
   .rw[z,up,t3]
   .exact oth b z
  have I':Inv X pins σ H {s with heap:=s.heap.update T (v9 (·.setIfInBounds 3 vL))}:=I.kept (t':=s.toks) λb u q=>(same b).trans q
  refine O7 (s:={s with heap:=s.heap.update T (v9 (·.setIfInBounds 3 vL))}) I' hA hst hf f.free f.new (λb z q=>ho b z ((same b).symm.trans q)) ((same e).trans h1) h2 h3 h4 hz hd λh' t=>hQ h' ⟨λb o q=>t.keep b o ((same b).trans q),λb o q=>t.slot b o ((same b).trans q),t.fly⟩
def PY(I:Inv X pins σ H s)(f:jV old H s.heap e C od)(hQ:∀h',Trn X old H s.heap h' e C od->Q () {s with heap:=h'}):wpAny M A (setFlight (.ref e) none) Q E s:=by
 obtain⟨oe,vs,a0,T,oT,ts,h1,h2,h3,h4,h5,⟨t2,t3,t4,t5,t6,t7⟩,hd⟩:=f.ex
 unfold setFlight
 refine uP (wM h1 h3 h5 ?_)
 rw[vC (show(u5 T !=vL)=true from by simp)]
 refine x8 t3 t4 (xT.mp t5).1 (hQ _ ?_)
 have up:(s.heap.update T (v9 (·.setIfInBounds 3 ((none:uR uf).elim vL λf=>rawInt f)))).get? T=Gc oT:=by
  rw[wB _ t3 (wg (xP t4 _))]
  obtain⟨c,dd,da,sl⟩:=oT
  cases t4
  show Gc ({cls:=c,dict:=dd,data:=.fields (ts.setIfInBounds 3 .none),slots:=sl}:Obj)=_
  rw[RF t5]
 have same:∀b,(s.heap.update T (v9 (·.setIfInBounds 3 ((none:uR uf).elim vL λf=>rawInt f)))).get? b=s.heap.get? b:=λb=>by
  by_cases z:b=T
  .rw[z,up,t3]
  .exact vn _ _ (vh z)
 exact⟨λb o q _ _=>(same b).trans q,λb o q _=>⟨o.slots,(same b).trans q⟩,f.free,f.new,oe,vs,a0,T,oT,ts,(same e).trans h1,h2,h3,h4,h5,⟨t2,up,t4,t5,t6,t7⟩,hd⟩
end
def dA(X:Cx)(pins:Wp (uf×Obj))(b:uf):Prop:=X.s₀.heap.get? b≠none\/∃p∈X.pn++pins,p.1=b
section
variable{X:Cx}{pins:Wp (uf×Obj)}{σ:St}{H:Hp}{s:ui}{old:uf->Prop}{e C:uf}{od:uR uf}{h':vq}
def WT(hst:X.stack=X.env::X.outer)(hf:X.env.frame=Gc X.env.locals):frs X.stack=X.env.locals::X.fs:=by
 rw[hst];unfold frs Cx.fs frs;rw[vc,hf]
def EZ(I:Inv X pins σ H s)(hx:X.ex=[]):∀b,dA X pins b->s.heap.get? b≠none:=λb z=>by
 rcases z with z|⟨p,m,rfl⟩
 .cases q:X.s₀.heap.get? b with
  |none=>exact absurd q z
  |some o=>
   obtain⟨o',e'⟩:=I.base.there b o q (by rw[hx];exact λz=>nomatch z)
   rw[e'];exact λz=>nomatch z
 .rw[(I.pin p m).1];exact λz=>nomatch z
def Qf(I:Inv X pins σ H s)(t:Trn X old H s.heap h' e C od):HOk X.prog X.w H h':=λa o q=>by
 refine(I.hok a o q).Rh (λb u hb e1=>?_) (λ_ z=>z) λ_ _ z=>z
 have hn:H b≠none:=by
  rcases hb with z|z
  .subst z;rw[q];exact λz=>nomatch z
  .rw[z];exact λz=>nomatch z
 exact t.keep b u e1 (λz=>hn (I.Qu b z)) (.inl hn)
def UY(I:Inv X pins σ H s)(hst:X.stack=X.env::X.outer)(hf:X.env.frame=Gc X.env.locals)(hx:X.ex=[])(t:Trn X (dA X pins) H s.heap h' e C od):Un X.fs X.ex X.H₀ H X.s₀.heap h':=by
 have hs:=WT hst hf
 have nL:∀b o,X.s₀.heap.get? b=Gc o->b≠X.env.locals:=λb o e1=>vE (uU (uj e1) I.ok.above)
 have od:∀b o,X.s₀.heap.get? b=Gc o->dA X pins b:=λb o e1=>.inl (by rw[e1];exact λz=>nomatch z)
 have fd:∀b o,b∈X.fs->X.s₀.heap.get? b=Gc o->∀vs,o.data≠.fields vs:=λb o hb e1 vs=>by
  obtain⟨_,o',e2,q⟩:=I.ok.QS.mem hb
  rw[e1]at e2;cases e2
  exact q vs
 refine⟨λb o e1 n hb hx'=>?_,λb o e1 n hb hx'=>?_,I.base.free,λb o e1 hx'=>?_,I.base.T5,I.base.R5,I.base.TC⟩
 .refine t.keep b o (I.base.keep b o e1 n hb hx') (λz=>?_) (.inr (.inl (od b o e1)))
  rw[hs]at z
  exact(uY.mp z).elim (nL b o e1) hb
 .obtain⟨sl,q⟩:=I.base.slot b o e1 n hb hx'
  obtain⟨sl',q'⟩:=t.slot b _ q (fd b o hb e1)
  exact⟨sl',q'⟩
 .obtain⟨o',q⟩:=I.base.there b o e1 hx'
  by_cases hb:b∈frs X.stack
  .obtain⟨_,o2,q2,d⟩:=I.stack.mem hb
   obtain⟨sl,z⟩:=t.slot b o2 q2 d
   exact⟨_,z⟩
  .exact⟨o',t.keep b o' q hb (.inr (.inl (od b o e1)))⟩
def Q6(I:Inv X pins σ H s)(hst:X.stack=X.env::X.outer)(hf:X.env.frame=Gc X.env.locals)(hx:X.ex=[])(t:Trn X (dA X pins) H s.heap h' e C od):Inv X pins σ H {s with heap:=h'}:=by
 have hs:=WT hst hf
 have cl:∀c v,s.heap.IsCell c v->h'.IsCell c v:=λc v ⟨o,ho,hd⟩=>by
  obtain⟨sl,q⟩:=t.slot c o ho λvs z=>by rw[hd]at z;cases z
  exact⟨_,q,hd⟩
 refine⟨I.ok,I.os,I.bare,UY I hst hf hx t,?_,λx c e1=>?_,I.free,I.HP,λp m=>?_,Qf I t,I.len⟩
 .obtain⟨m,hn,hl⟩:=I.loc
  refine⟨m,Heap.UpToSlots.ns (λb o e1 e2=>t.slot b o e1 e2) hn,λi x v e1 e2 e3=>?_⟩
  obtain⟨u,r,l⟩:=hl i x v e1 e2 e3
  refine⟨u,r,?_⟩
  rcases l with l|⟨k,c,e4,z⟩
  .exact .inl l
  .exact .inr ⟨k,c,e4,cl c _ z⟩
 .obtain⟨v,z⟩:=I.cell x c e1
  exact⟨v,cl c v z⟩
 .obtain⟨p1,p2,p3,p4,p5⟩:=I.pin p m
  refine⟨t.keep _ _ p1 (λz=>?_) (.inr (.inl (.inr ⟨p,m,rfl⟩))),p2,p3,p4,p5⟩
  rw[hs]at z
  exact(uY.mp z).elim p3 p4
end
abbrev Rk:=uf->uR uf->St->Hp->Prop
abbrev TR:=St->Hp->Rk->Prop
inductive XP(X:Cx)(pins:Wp (uf×Obj))(Z:Rk)(ev:uX)(s':ui):Prop
 |mk (e C:uf) (od:uR uf) (σ':Sg) (H':Hp) (h:ev=.ref e) (I:Inv X pins σ' H' s') (z:Z C od σ' H') (fl:Fly (dA X pins) H' s'.heap e C od)
def PX(X:Cx)(st:vH)(t:TR):Prop:=∀(pins:Wp (uf×Obj)) (s:ui) (σ:St) (H:Hp) (Z:Rk),Inv X pins σ H s->t σ H Z->wpAny (model X.prog X.w) X.A (exec st X.env) (λ_ _=>wH) (XP X pins Z) s
def PXs(X:Cx)(sts:Wp vH)(t:TR):Prop:=∀(pins:Wp (uf×Obj)) (s:ui) (σ:St) (H:Hp) (Z:Rk),Inv X pins σ H s->t σ H Z->wpAny (model X.prog X.w) X.A (execs sts X.env) (λ_ _=>wH) (XP X pins Z) s
def PXe(X:Cx)(e:vi)(t:TR):Prop:=∀(pins:Wp (uf×Obj)) (s:ui) (σ:St) (H:Hp) (Z:Rk),Inv X pins σ H s->t σ H Z->wpAny (model X.prog X.w) X.A (eval e X.env) (λ_ _=>wH) (XP X pins Z) s
noncomputable def CXr(P:va)(w:wG):CXT:=λouter H s E ev s'=>∃e C od H',ev=.ref e/\s'.os=s.os/\yz s'.gens/\Un (frs outer) [] H H' s.heap s'.heap/\HOk P w H' s'.heap/\Fly (λb=>s.heap.get? b≠none) H' s'.heap e C od/\E (.ref C) od H'
def RO(h:XP (IW (CXr P w) P w K mg base N qual scope f cd A outer s H E).nox pins Z ev s')(hZ:∀C od σ' H',Z C od σ' H'->E (.ref C) od H'):(IW (CXr P w) P w K mg base N qual scope f cd A outer s H E).xe ev s':=by
 obtain⟨e,C,od,σ',H',rfl,I,z,fl⟩:=h
 show wpAny _ _ (leaving _ (.ref e)) _ _ s'
 unfold leaving
 refine uP (Oo I I.ok.frames rfl rfl fl (EZ I rfl) λh' t=>?_)
 exact⟨e,C,od,H',rfl,I.os,I.bare,UY I rfl rfl rfl t,Qf I t,t.fly.fly.imp λb z=>.inl z,hZ _ _ _ _ z⟩
structure Tg where
 nm:Str
 pay:uR Int
instance:Coe Str Tg:=⟨λx=>⟨x,none⟩⟩
def kj(mg:Str->uR uX)(x:Tg)(C:uf)(od:uR uf)(H:Hp):Prop:=mg x.nm=Gc (.ref C)/\∀n,x.pay=Gc n->∃dx,od=Gc dx/\H dx=Gc (.xd [("at",.int n)])
abbrev Rx:=En->Sto->uR (Tg×En×Sto)
abbrev Rf:=Wp D->Sto->uR (Tg×Sto)
inductive tR(K:W1)(mg:Str->uR uX)(r:Rx)(σ:Sg)(H:Hp)(Z:Rk):Prop
 |mk (M:Ms) (E:En) (S:Sto) (x:Tg) (E':En) (S':Sto) (e:r E S=Gc (x,E',S')) (rr:EnR K M E σ H) (st:StR K M S H) (q:∀C od σ' H' M',kj mg x C od H'->Gr M H M' H'->EnR K M' E' σ' H'->StR K M' S' H'->Z C od σ' H')
structure RS(X:Cx)(st:vH)(r:Rx):Prop where
 pe:PX X st (tR X.K X.mg r)
structure RSs(X:Cx)(st:Wp vH)(r:Rx):Prop where
 pe:PXs X st (tR X.K X.mg r)
structure RE(X:Cx)(e:vi)(r:Rx):Prop where
 pe:PXe X e (tR X.K X.mg r)
inductive spR(K:W1)(mg:Str->uR uX)(np:Nat)(R:Rf)(vs:Wp V)(H:Hp)(Q:VK)(E:XK):Prop
 |mk (M:Ms) (ds:Wp D) (S:Sto) (x:Tg) (S':Sto) (l:ds.length=np) (e:R ds S=Gc (x,S')) (r:Ae K M H vs ds) (st:StR K M S H) (q:∀C od H' M',kj mg x C od H'->Gr M H M' H'->StR K M' S' H'->E (.ref C) od H')
noncomputable def Oe(N:Nat)(r:Rx):Rf:=λds S=>(r (ds.map Gc++uo (N-ds.length) none) S).map λq=>(q.1,q.2.2)
structure iD(P:va)(w:wG)(K:W1)(mg:Str->uR uX)(base:vq)(x:Str)(k:Nat)(ps:Wp Str)(sp:Sp):Prop where
 ex:∃f fd,mg x=Gc (.ref f)/\vm K (.ref f)=true/\Binds K fd ps []/\Ji P w K mg base (CXr P w) k f fd ps sp
section
variable{P:va}{w:wG}{K:W1}{mg:Str->uR uX}{base:vq}
def jO(Fu:Fun K x x st f fd)(S:Aj N ps (AB st))(hp:ps.length=np)(hb:∀cdv A outer s H E,Cj k (A.deeper (u4 x (AB st) s.heap.objs.size f cdv))->RSs (IW CX0 P w K mg base N x (AB st) f cdv A outer s H E).nox (Ar st) r):Ji P w K mg base (CXr P w) (k+1) f fd ps (spR K mg np (AS (Oe N.length r))):=by
 rw[JM]
 obtain⟨oc,od,kV,doc,pm,an,cdv,ct,osl,rfl,lk,hcd⟩:=Fu.ex
 refine X3 lk hcd S (λvs H Q E h=>?_) λA outer s H vs Q E hr h=>?_
 .obtain⟨M,ds,S0,d,S',hl,_,r,_⟩:=h
  have:=r.length
  lia
 .obtain⟨M,ds,S0,y,S',hl,e,rr,st,q⟩:=h
  have hlen:=rr.length
  refine⟨λ_ σ H=>tR K mg r σ H λC od _ H'=>E (.ref C) od H',λpins s1 σ1 H1 D I h=>?_,?_⟩
  .exact vo ((hb cdv A outer s H E hr).pe pins s1 σ1 H1 _ (I.TM _) h) (λ_ _ z=>z.elim) λev s' z=>RO z λ_ _ _ _ z=>z
  .obtain⟨⟨y',E',S1⟩,e1,e⟩:=IV e
   cases e
   refine⟨M,_,S0,y',E',S1,e1,?_,st,λC od σ' H' M' hm g _ st'=>q C od H' M' hm g st'⟩
   rw[show L2.start N vs=vs.map Gc++uo (N.length-ds.length) none from by unfold L2.start;rw[hlen]]
   exact .args rr _
def Vy(S:St.Src K mg x st)(sc:Aj N ps (AB st))(hp:ps.length=np)(hbi:∀f fd,Fun K x x st f fd->Binds K fd ps [])(hb:∀f cdv A outer s H E,Cj k (A.deeper (u4 x (AB st) s.heap.objs.size f cdv))->RSs (IW CX0 P w K mg base N x (AB st) f cdv A outer s H E).nox (Ar st) r):iD P w K mg base x (k+1) ps (spR K mg np (AS (Oe N.length r))):=by
 obtain⟨f,fd,Fu,hm⟩:=S.ex
 exact⟨f,fd,hm,Fu.kp,hbi f fd Fu,jO Fu sc hp λcdv A outer s H E hr=>hb f cdv A outer s H E hr⟩
end
def EA{X:Cx}{α:Type}{t:Sem α}{Q Q':α->ui->Prop}(hn:X.xe=λ_ _=>wH)(h:wpAny M A t Q X.xe s)(hQ:∀a s,Q a s->Q' a s):wpAny M A t Q' E s:=
 vo h hQ λ_ _ z=>by rw[hn]at z;exact z.elim
noncomputable def Qo(R:Rf)(fs:Wp Ev):Rx:=λE S=>(evs fs E S).bind λq=>(R q.1 q.2).map λz=>(z.1,E,z.2)
def U1{X:Cx}{k np:Nat}{x:Str}{ps:Wp Str}{p pos:Pos}(d:iD X.prog X.w X.K X.mg X.base x k ps (spR X.K X.mg np R))(hr:Cj k X.A)(hg:Gl X x)(ha:DEs X (e::es) fs)(hn:zn (fs.length=np) ww)(hxe:zn (X.xe=λ_ _=>wH) ww)(hx:zn (X.ex=[]) ww)(hdb:zn ((x==("__debug__":Str))=false) xz)(he:zn (ue (e::es) X.env=(false,eval e X.env)::ue es X.env) ww)(hpl:zn ((backTo pos (ue es X.env)).any (·.1)=false) ww):RE X (.Call (.Name x p) (e::es) [] pos) (Qo R fs):=⟨by
 intro pins s σ H Z I h
 obtain⟨f,fd,hm,hk,hb,F⟩:=d.ex
 obtain⟨M,E,S,y,E',S',e0,r,st,q⟩:=h
 obtain⟨⟨ds,S1⟩,e1,e2⟩:=Ac e0
 obtain⟨⟨y',S2⟩,e3,e4⟩:=IV e2
 cases e4
 refine wD (H0 I hg hm ?_ hdb)
 have ha':=ha.pe pos pins s σ H (λvs H1=>∃M1,Gr M H M1 H1/\StR X.K M1 S1 H1/\Ae X.K M1 H1 vs ds) I (Ee e1 r st λvs H1 M1 g1 st1 r1=>⟨M1,g1,st1,r1⟩)
 refine wj (h₀:=X.base) I.ok.mod.kin hk (EA hxe ha' λus s1 ⟨vs,H1,I1,rv,M1,g1,st1,r1⟩=>⟨I1.kIn,?_⟩) he hpl
 have sp:spR X.K X.mg np R vs H1 (λ_ _=>wH) (λv od H'=>∃C,v=.ref C/\Z C od σ H'):=
  ⟨M1,ds,S1,y',S2,by rw[Hm e1];exact hn,e3,r1,st1,λC od H' M' hc g2 st2=>⟨C,rfl,q C od σ H' M' hc (g1.trans g2) ((r.step g1.st).step g2.st) st2⟩⟩
 have hl:(us++[]).length=ps.length:=by rw[vt,<-rv.length];exact F.len _ _ _ _ sp
 have hbs:=hb s1 us I1.kIn hl
 rw[vt]at hbs
 refine xt (yf (F.run X.A X.stack s1 H1 ⟨us,[]⟩ us vs _ _ hr I1.Zr hbs rv sp) λrs s' hq=>?_)
 cases rs with
 |error ev=>
  obtain⟨e,C,od,H',rfl,os,bare,un,hok,fly,C',hC,z⟩:=hq
  cases hC
  exact⟨e,C,od,σ,H',rfl,I1.YQ os un hok bare (λb z=>nomatch z),z,fly.imp λb z=>EZ I1 hx b z⟩
 |ok fl=>
  cases fl with
  |ret u=>
   obtain⟨v,H',_,_,_,_,_,q⟩:=hq
   exact q.elim
  |next=>exact vX hq
  |brk=>exact vX hq
  |cont=>exact vX hq⟩
section
variable{X:Cx}{st:vH}{rest a b:Wp vH}{f g:Ex}{r r1 r2:Rx}{c e:vi}{k:Ev}{pos:Pos}
def bY(h:RE X e r)(hs:zn (swapsWith e none pos.line X.env=pure false) ww):RS X (.Expr e pos) r:=⟨λpins s σ H Z I q=>wpAny_Expr_any (vo (h.pe pins s σ H Z I q) (λ_ _ z=>z) λ_ _ z=>z) I.quiet hs⟩
def gU(h:RE X e r):RS X (.Return (Gc e) pos) r:=⟨λpins s σ H Z I q=>AAd (vo (h.pe pins s σ H Z I q) (λ_ _ z=>z) λ_ _ z=>z)⟩
noncomputable def rNo:Rx:=λ_ _=>none
def XR:RS X st rNo:=⟨λ_ _ _ _ _ _ z=>by
 obtain⟨M,E,S,x,E',S',e,_⟩:=z
 cases e⟩
def VG:RSs X rest rNo:=⟨λ_ _ _ _ _ _ z=>by
 obtain⟨M,E,S,x,E',S',e,_⟩:=z
 cases e⟩
noncomputable def N8(r:Rx)(f:Ex)(r2:Rx):Rx:=λE S=>match r E S with
 |some z=>Gc z
 |none=>(f E S).bind λq=>match q.1 with
  | .nx=>r2 q.2.1 q.2.2
  | .ret _=>none
def Gb(h1:RS X st r)(hb:DS X st f)(h2:RSs X rest r2)(hxe:zn (X.xe=λ_ _=>wH) ww):RSs X (st::rest) (N8 r f r2):=⟨λpins s σ H Z I z=>by
 obtain⟨M,E,S,x,E',S',e,rr,ss,q⟩:=z
 unfold N8 at e
 split at e
 .rename_i z' e1
  cases e
  refine xy (vo (h1.pe pins s σ H Z I ⟨M,E,S,x,E',S',e1,rr,ss,q⟩) (λ_ _ z=>z.elim) λ_ _ z=>z)
 .obtain⟨⟨fl,E1,S1⟩,e1,e⟩:=Ac e
  dsimp only at e
  split at e
  .refine xy (EA hxe (hb.pe pins s σ H {nx:=λσ' H'=>tR X.K X.mg r2 σ' H' Z,rt:=λ_ _=>wH} I ⟨M,E,S,.nx,E1,S1,e1,rr,ss,λσ' H' M' g' r' st'=>⟨M',E1,S1,x,E',S',e,r',st',λC od σ2 H2 M2 hm g2=>q C od σ2 H2 M2 hm (g'.trans g2)⟩⟩) λfl s1 w=>?_)
   cases fl with
   |next=>
    obtain⟨σ',H',I',q'⟩:=w
    exact h2.pe pins s1 σ' H' Z I' q'
   |ret v=>obtain⟨_,_,_,_,_,q'⟩:=w;exact q'.elim
   |brk=>obtain⟨_,_,_,q'⟩:=w;exact q'.elim
   |cont=>obtain⟨_,_,_,q'⟩:=w;exact q'.elim
  .cases e⟩
def MB(h1:RS X st r):RSs X [st] r:=⟨λpins s σ H Z I z=>xy (vo (h1.pe pins s σ H Z I z) (λ_ _ z=>z.elim) λ_ _ z=>z)⟩
noncomputable def rIf(k:Ev)(r1 r2:Rx):Rx:=λE S=>(k E S).bind λq=>match q.1 with
 | .bl true=>r1 E q.2
 | .bl false=>r2 E q.2
 |_=>none
def dG(hc:DT X c k)(ha:RSs X a r1)(hb:RSs X b r2)(hxe:zn (X.xe=λ_ _=>wH) ww):RS X (.If c a b pos) (rIf k r1 r2):=⟨λpins s σ H Z I z=>by
 obtain⟨M,E,S,x,E',S',e,rr,ss,q⟩:=z
 obtain⟨⟨w1,S1⟩,e1,e⟩:=Ac e
 dsimp only at e
 split at e
 .refine wpAny_If (EA hxe (hc.pe pins s σ H (λd H1=>d=true/\tR X.K X.mg r1 σ H1 Z) I ⟨M,E,S,_,S1,e1,rr,ss,λH1 M1 g1 st1=>⟨rfl,M1,E,S1,x,E',S',e,rr.step g1.st,st1,λC od σ2 H2 M2 hm g2=>q C od σ2 H2 M2 hm (g1.trans g2)⟩⟩) λd s1 w=>?_)
  obtain⟨H1,I1,rfl,q1⟩:=w
  exact ha.pe pins s1 σ H1 Z I1 q1
 .refine wpAny_If (EA hxe (hc.pe pins s σ H (λd H1=>d=false/\tR X.K X.mg r2 σ H1 Z) I ⟨M,E,S,_,S1,e1,rr,ss,λH1 M1 g1 st1=>⟨rfl,M1,E,S1,x,E',S',e,rr.step g1.st,st1,λC od σ2 H2 M2 hm g2=>q C od σ2 H2 M2 hm (g1.trans g2)⟩⟩) λd s1 w=>?_)
  obtain⟨H1,I1,rfl,q1⟩:=w
  exact hb.pe pins s1 σ H1 Z I1 q1
 .cases e⟩
end
abbrev VEm:Wp uX:=[.type "ValueError",.type "Exception",.type "BaseException",.type "object"]
structure XcD(K:W1)(mg:Str->uR uX)(x:Str):Prop where
 ex:∃C,mg x=Gc (.ref C)/\yr K C VEm "ValueError.__new__"=true
def pd(X:K.In h)(G:h.Ns mainGlobals mg)(e:vF K mainGlobals x=Gc (Gc (.ref C)))(q:yr K C VEm "ValueError.__new__"=true):XcD K mg x:=⟨C,wQ X G e,q⟩
def Zx(X:K.In h)(q:yr K C bmB newId=true):∃bm N nm q bs hdct sn sub ab col dd k0 k1 k2 k3 k5 mN,h.get? C=Gc (excClassObj nm q C N bs bm hdct sn sub ab col dd k0 k1 k2 k3 k5 newId)/\h.Ns N mN/\mN "__init__"=none/\OwnTail h bmB bm:=by
 unfold yr at q
 split at q
 case h_2=>cases q
 rename_i dd cd sl ho
 split at q
 case h_2=>cases q
 rename_i C' bm k0 k1 k2 k3 n k5 hm hs
 simp only[ub,wI,xn]at q
 obtain⟨⟨⟨⟨⟨rfl,rfl⟩,hdel⟩,ht⟩,hok⟩,hni⟩:=q
 have hsl:sl= #[k0,k1,k2,k3,Gc (.builtin n),k5]:=Array.toList_inj.mp hs
 obtain⟨nm,bs,mro,ns,qn,hd,sn,sub,ab,col,del⟩:=cd
 dsimp only at hm hdel hok hni
 subst hm hdel hsl
 exact⟨bm,ns,nm,qn,bs,hd,sn,sub,ab,col,dd,k0,k1,k2,k3,k5,_,X _ _ ho,.of_isNs (AAW X hok),PySem.W.nsMap_none_of_in X hok hni,AAX X ht⟩
noncomputable def Lj(x:Str)(fs:Wp Ev):Rx:=λE S=>(evs fs E S).map λq=>(⟨x,none⟩,E,q.2)
def RA{np cpos pos:Pos}(hc:X.calm=true)(xc:XcD X.K X.mg x)(hg:Gl X x)(ha:DEs X (e::es) fs)(hl:zn (fs.length<=sizeLine) xz)(hxe:zn (X.xe=λ_ _=>wH) ww)(hx:zn (X.ex=[]) ww)(hdb:zn ((x==("__debug__":Str))=false) xz)(he:zn (ue (e::es) X.env=(false,eval e X.env)::ue es X.env) ww)(hpl:zn ((backTo cpos (ue es X.env)).any (·.1)=false) ww):RS X (.Raise (Gc (.Call (.Name x np) (e::es) [] cpos)) none pos) (Lj x fs):=⟨by
 intro pins s σ H Z I h
 obtain⟨C,hm,hex⟩:=xc.ex
 obtain⟨M,E,S,y,E',S',e0,r,st,q⟩:=h
 obtain⟨⟨ds,S1⟩,e1,e2⟩:=IV e0
 cases e2
 obtain⟨tl,N,nm,qn,bs,hdct,sn,sub,ab,col,dd,k0,k1,k2,k3,k5,mN,hC,hN,hni,T⟩:=Zx I.ok.mod.kin hex
 refine wpAny_Raise_call_subT (C:=C) (nm:=nm) (q:=qn) (N:=N) (bs:=bs) (bm:=tl) (hdct:=hdct) (sn:=sn) (sub:=sub) (ab:=ab) (col:=col) (dd:=dd) (k0:=k0) (k1:=k1) (k2:=k2) (k3:=k3) (k5:=k5)
  yA (mN:=mN) (T.hasType yA.hasBase) (I.ok.hd hc) (by rw[he];show(false||(backTo cpos (ue es X.env)).any (·.1))=false;rw[hpl];rfl) hni (H0 I hg hm ⟨rfl,?_⟩ hdb)
 have ha':=ha.pe cpos pins s σ H (λvs H1=>∃M1,Gr M H M1 H1/\StR X.K M1 S1 H1/\Ae X.K M1 H1 vs ds) I (Ee e1 r st λvs H1 M1 g1 st1 r1=>⟨M1,g1,st1,r1⟩)
 rw[he]at ha'⊢
 refine xj (EA hxe ha' λus s1 z=>?_)
 obtain⟨vs,H1,I1,rv,M1,g1,st1,r1⟩:=z
 refine⟨rfl,by rw[<-rv.length,r1.length,Hm e1];exact hl,I1.bk _ _ hC,hN.keeps I1.bk,T.keeps I1.bk,λh' ea hmd=>?_⟩
 obtain⟨t,w1,w2,w3⟩:=hmd.there
 refine⟨ea,C,none,σ,H1,rfl,I1.kept (t':=s1.toks) hmd.keeps,q C none σ H1 M1 ⟨hm,λ_ z=>nomatch z⟩ g1 (r.step g1.st) st1,?_,λz=>EZ I1 hx _ z hmd.new,_,_,.ref t,.none,w1,rfl,rfl,rfl,rfl,.inl rfl,λ_ z=>nomatch z⟩
 cases o:H1 ea with
 |none=>rfl
 |some ho=>
  obtain⟨ob,z⟩:=CT.there (I1.hok ea ho o)
  rw[hmd.new]at z;cases z⟩
abbrev Cx.mrk(X:Cx)(e:uf):Cx:={X with A:=X.A.mark (Gc (.ref e)),calm:=false}
section
variable{X:Cx}{σ:St}{H:Hp}{e:uf}
def gS(ok:X.Ok):(Cx.mrk X e).Ok:=⟨ok.mod,ok.kind,ok.glob,ok.blt,ok.above,ok.inj,ok.has,ok.cab,(λz=>nomatch z),ok.frames,ok.stk,ok.exf,ok.bs,ok.bsz,ok.Zb,ok.dI,ok.QS,ok.frf⟩
def VW(I:Inv X pins σ H s):Inv (Cx.mrk X e) pins σ H s:=⟨gS I.ok,I.os,I.bare,I.base,I.loc,I.cell,I.free,I.HP,I.pin,I.hok,I.len⟩
def HJ(ok:X.Ok)(I:Inv (Cx.mrk X e) pins σ H s):Inv X pins σ H s:=⟨ok,I.os,I.bare,I.base,I.loc,I.cell,I.free,I.HP,I.pin,I.hok,I.len⟩
def YE{D:Ends}(ok:X.Ok)(h:SP (Cx.mrk X e) pins D f s):SP X pins D f s:=by
 cases f with
 |next=>obtain⟨σ',H',I,q⟩:=h;exact⟨σ',H',HJ ok I,q⟩
 |brk=>obtain⟨σ',H',I,q⟩:=h;exact⟨σ',H',HJ ok I,q⟩
 |cont=>obtain⟨σ',H',I,q⟩:=h;exact⟨σ',H',HJ ok I,q⟩
 |ret u=>obtain⟨v,σ',H',I,r,q⟩:=h;exact⟨v,σ',H',HJ ok I,r,q⟩
end
structure HS(X:Cx)(hs:Wp yt)(g:Tg->Ex):Prop where
 pe:∀(x:Tg) (C:uf) (od:uR uf) (pins:Wp (uf×Obj)) (s:ui) (σ:St) (H:Hp) (D:Ends) (e:uf),kj X.mg x C od H->Inv X pins σ H s->jV (dA X pins) H s.heap e C od->tX X.K (g x) D σ H->
  wpAny (model X.prog X.w) X.A (handleBy (.ref e) X.env hs) (SP X pins D) (λ_ _=>wH) s
noncomputable def gNo:Tg->Ex:=λ_ _ _=>none
def jN:HS X [] gNo:=⟨λ_ _ _ _ _ _ _ _ _ _ _ _ z=>by
 obtain⟨M,E,S,fl,E',S',e,_⟩:=z
 cases e⟩
structure XmD(K:W1)(mg:Str->uR uX)(xs:Wp Str)(y:Str):Prop where
 ex:∃C',mg y=Gc (.ref C')/\∀x∈xs,∀C,mg x=Gc (.ref C)->yc K (.ref C) (.ref C')=Gc (x==y)
noncomputable def gOr(xs:Wp Str)(y:Str)(f:Ex)(g:Tg->Ex):Tg->Ex:=λx=>if x.nm∈xs then(if(x.nm==y)=true then f else g x)else CY
def OB{X:Cx}{xs:Wp Str}{y:Str}{b₀:vH}{np pos:Pos}{rest:Wp yt}(xm:XmD X.K X.mg xs y)(hg:Gl X y)(hf:∀e,DSs (Cx.mrk X e) (b₀::suite) f)(hr:HS X rest g)(hxe:zn (X.xe=λ_ _=>wH) ww)(hx:zn (X.ex=[]) ww)(hst:zn (X.stack=X.env::X.outer) ww)(hfr:zn (X.env.frame=Gc X.env.locals) ww)(hdb:zn ((y==("__debug__":Str))=false) xz):HS X (.ExceptHandler (Gc (.Name y np)) none (b₀::suite) pos::rest) (gOr xs y f g):=⟨by
 intro x C od pins s σ H D e tg I fl z
 have hm:=tg.1
 obtain⟨C',hm',hex⟩:=xm.ex
 have hin:x.nm∈xs:=by
  by_cases h:x.nm∈xs
  .exact h
  .obtain⟨M,E,S,fl,E',S',e,_⟩:=z
   unfold gOr at e
   rw[vB h]at e
   cases e
 have z':tX X.K (if(x.nm==y)=true then f else g x) D σ H:=by
  unfold gOr at z
  rw[vC hin]at z
  exact z
 have ex:=hex x.nm hin C hm
 obtain⟨oe,vs,a0,T,oT,ts,h1,h2,_⟩:=id fl.ex
 have LT:zg (model X.prog X.w) s.heap (typeOf (.ref e)) (.ref C):=by
  rw[<-h2];exact(PySem.W.Looks.ld h1).andThen .now
 refine ABx (ABT (xK I.ok.kind hg (y0 (by rw[I.ok.glob];exact I.mod.glob.keeps I.bk) hm' ?_) hdb)) (by intro q;cases q)
 refine PySem.W.exm_one I.kIn LT ex _ _ _ _ (λ_ _ q=>q) ?_
 cases hb:(x.nm==y)with
 |true=>
  rw[vC hb]at z'
  refine codeAny_handlers_suite (wpAny_passesOwnAt PassesOwnAt.never (PY I fl λh' t=>?_))
  have I':=VW (e:=e) (Q6 I hst hfr hx t)
  exact wpAny_passesOwnAt PassesOwnAt.never (EA (X:=Cx.mrk X e) hxe ((hf e).pe pins _ σ H D I' z') λfl s2 w=>YE I.ok w)
 |false=>
  rw[vB (by rw[hb];decide)]at z'
  exact hr.pe x C od pins s σ H D e tg I fl z'⟩
section
variable{X:Cx}{pos:Pos}
noncomputable def Q4(oa ob oc:Ev):Ev:=λE S=>(evs [oa,ob] E S).bind λr=>match r.1 with
 | [.int i,.int j]=>if i<=j then(oc E r.2).bind λp=>match p.1 with
     | .int k=>Gc (.bl (decide (j<k)),p.2)
     |_=>none
   else Gc (.bl false,r.2)
 |_=>none
def qB(h:tD K (Q4 oa ob oc) σ H Q):VQ (rI0 λi j=>.bl (decide (i<=j))) (rI0 λi j=>.bl (decide (i<j))) (tD K oa) (tD K ob) (tD K oc) σ H Q:=by
 obtain⟨M,E,S,d,S',e,r,st,q⟩:=h
 obtain⟨⟨ws,S1⟩,e1,e⟩:=Ac e
 have zz:=Ee (K:=K) (σ:=σ) (fs:=[oa,ob]) (Q:=λvs H2=>∃i j:Int,vs=[V.int i,V.int j]/\rI0 (λi j=>.bl (decide (i<=j))) (.int i) (.int j) H2 λz H3=>∃k,z=.bl k/\(if k=true then tD K oc σ H3 λw' H4=>rI0 (λi j=>.bl (decide (i<j))) (.int j) w' H4 Q else Q (.bl false) H3)) e1 r st (λvs H1 M1 g1 st1 r1=>by
  dsimp only at e
  split at e
  .rename_i i j
   have hv:=PQ r1
   refine⟨i,j,hv,i,j,rfl,rfl,_,rfl,?_⟩
   by_cases hij:i<=j
   .rw[vC hij]at e
    rw[vC (by simpa using hij)]
    obtain⟨⟨w2,S2⟩,e2,e⟩:=Ac e
    dsimp only at e
    split at e
    .rename_i k
     cases e
     refine⟨M1,E,S1,_,_,e2,r.step g1.st,st1,λv H2 M2 g2 st2 r2=>?_⟩
     cases r2
     exact⟨j,k,rfl,rfl,q _ _ M2 (g1.trans g2) st2 (.bl _)⟩
    .cases e
   .rw[vB hij]at e
    cases e
    rw[vB (by simpa using hij)]
    exact q _ _ M1 g1 st1 (.bl _)
  .cases e)
 refine EK (show tD K oa σ H _ from zz) λx H1 z1=>EK z1 λy H2 z2=>?_
 obtain⟨i,j,ev,z2⟩:=z2
 cases ev
 exact z2
def pL(ha:DE X a oa)(hb:DE X b ob)(hc:DE X c oc)(hm:zn (lastMarks [.LtE,.Lt] [b,c]=false) wr):DE X (.Compare a [.LtE,.Lt] [b,c] pos) (Q4 oa ob oc):=⟨
 Ax (R0 YT iu ha.pe hb.pe hc.pe hm) λ_ _ _ h=>qB h⟩
end
def mq(X:K.In h)(G:h.Ns mainGlobals mg)(e:vF K mainGlobals y=Gc (Gc (.ref C')))(t:∀x∈xs,∃C,vF K mainGlobals x=Gc (Gc (.ref C))/\yc K (.ref C) (.ref C')=Gc (x==y)):XmD K mg xs y:=⟨C',wQ X G e,λx hx C hm=>by
 obtain⟨C2,e2,q⟩:=t x hx
 have:=hm.symm.trans (wQ X G e2)
 cases this
 exact q⟩
def all_nil{p:Str->Prop}:∀x∈([]:Wp Str),p x:=λ_ z=>nomatch z
def all_cons{p:Str->Prop}(h:p x)(t:∀x∈xs,p x):∀y∈x::xs,p y:=λy m=>by
 rcases uY.mp m with rfl|m
 .exact h
 .exact t y m
end Mi
end
noncomputable section
namespace Mi
open PySem PySem.Spec L2 PyProof.Rows
abbrev eIx(a b:Ev):Ev:=eOp (o2 wIx) [a,b]
abbrev eI(n:Int):Ev:=eC (.int n)
def scM{N P:Wp Str}{sc:wX}(a:zn (sc.kind=.function) ww)(b:zn (sc.isCoroutine=false) ww)(c:zn (sc.isGenerator=false) ww)(d:zn N.Nodup wS)(e:zn (N.take P.length=P) ww)(f:zn (∀x∈P,sc.names.lookup x=Gc .local\/sc.names.lookup x=Gc .cell) wS)(g:zn (∀y∈sc.names,y.2≠.free) wS):Aj N P sc:=⟨a,b,c,d,e,f,g⟩
def csM{N:Wp Str}{osc:wX}{N':Wp Str}{ix:Wp (uR Nat)}{scope:wX}(a:zn (scope.kind=.function) ww)(b:zn (∀y∈scope.names,y.2=.cell->scope.names.lookup y.1=Gc .cell) wS)(c:zn (∀y∈scope.names,y.2=.local->scope.names.lookup y.1=Gc .local) wS)(d:zn (∀y∈scope.names,y.2=.free->(osc.names.lookup y.1=Gc .cell\/osc.names.lookup y.1=Gc .free)) wS)(e:zn (Ru N osc scope N' ix=true) wS):AO N osc N' ix scope:=⟨a,b,c,d,e⟩
def len0{α:Type}{us:Wp α}(h:us.length=0):us=[]:=List.eq_nil_of_length_eq_zero h
def nG{α:Type}{us:Wp α}(h:us.length=n+1):∃a r,us=a::r/\r.length=n:=by
 cases us with
 |nil=>cases h
 |cons a r=>exact⟨a,r,rfl,Nat.succ.inj h⟩
def NJ{α:Type}{us:Wp α}(h:us.length=1):∃a,us=[a]:=by
 obtain⟨a,r,rfl,k⟩:=nG h
 obtain rfl:=len0 k
 exact⟨a,rfl⟩
def jh{α:Type}{us:Wp α}(h:us.length=2):∃a b,us=[a,b]:=by
 obtain⟨a,r,rfl,k⟩:=nG h
 obtain⟨b,rfl⟩:=NJ k
 exact⟨a,b,rfl⟩
def rC{α:Type}{us:Wp α}(h:us.length=3):∃a b c,us=[a,b,c]:=by
 obtain⟨a,r,rfl,k⟩:=nG h
 obtain⟨b,c,rfl⟩:=jh k
 exact⟨a,b,c,rfl⟩
def qf{us:Wp uX}(h:us.length=n):∃f,us=(u6 n).map f:=by
 refine⟨λi=>us.getD i .none,?_⟩
 subst h
 apply AA1
 .simp
 .intro i h1 h2
  rw[List.getElem_map,AAY,uz,uS h1];rfl
def BnR(x:Str)(st:vH)(ps:Wp Str):Prop:=∀(kV doc pm:uX) (an:uR uf) (cdv ct:uX) (f:Nat->uX),bindArgs (wY x x (F2 st) (Ar st) (AB st) .none kV doc pm an cdv ct) ⟨(u6 ps.length).map f,[]⟩=pure (ps.zip ((u6 ps.length).map f))
def bnR{K:W1}{st:vH}(F:Fun K x x st f fd)(h:BnR x st ps):Binds K fd ps []:=F.binds λa b c d e g us hl=>by
 obtain⟨k,rfl⟩:=qf hl
 exact h a b c d e g k
section
variable{P:va}{w:wG}{K:W1}
def dfM{st:vH} k(S:St.Src K mg x st)(sc:Aj N ps (AB st))(hb:∀{f} {cdv} {A} {outer} {s} {H} {E},Cj k (A.deeper (u4 x (AB st) s.heap.objs.size f cdv))->(A.deeper (u4 x (AB st) s.heap.objs.size f cdv)).units+100<cLine->DSs (IW CX0 P w K mg base N x (AB st) f cdv A outer s H E).nox (Ar st) b)(hp:zn (ps.length=np) ww)(hbi:zn (BnR x st ps) wP):St.Dfn P w K mg base x (k+1) ps (spD K np (AS (AV N.length b))):=kQ S sc hp (λ_ _ F=>bnR F hbi) λ_ _ _ _ _ _ _ hr=>hb hr (IE hr)
end
def deM{X:Cx}{k k' np:Nat}{x:Str}{ps:Wp Str}{p pos:Pos}(d:St.Dfn X.prog X.w X.K X.mg X.base x k ps (spD X.K np f))(hr:Cj k' X.A)(ha:DEs X (e::es) fs)(hk:zn (k<=k') wE)(hg:zn (Gl X x) v6)(hn:zn (fs.length=np) ww)(hdb:zn ((x==("__debug__":Str))=false) xz)(he:zn (ue (e::es) X.env=(false,eval e X.env)::ue es X.env) ww)(hpl:zn ((backTo pos (ue es X.env)).any (·.1)=false) ww):DE X (.Call (.Name x p) (e::es) [] pos) (AF f fs):=cQ d (hr.mono hk) hg ha hn hdb he hpl
end Mi
end
noncomputable section
namespace Mi
open PySem PySem.Spec L2 PyProof.Rows
def BmB(mg:Str->uR uX)(base:vq):Prop:=
 ∃bm o,mg "__builtins__"=Gc (.ref bm)/\bm≠builtinsNs/\bm≠mainGlobals/\base.get? bm=Gc o/\o.cls=.type "module" /\o.dict=Gc builtinsNs/\o.data=.plain
def KO.hd{K:W1}(k:KO K c P)(X:K.In h):PySem.W.CodeHd h c P:=by
 obtain⟨o,vs,file,tf,flags,tg,inF,text,tt,h0,r⟩:=k
 exact⟨o,vs,file,tf,flags,tg,inF,text,tt,X _ _ h0,r⟩
def SW(h:TriplesOk l)(e:codeAmong pos (l++[rawInt a,rawInt b,v])=Gc cv):codeAmong pos l=Gc cv\/cv=v:=by
 induction l using TriplesOk.induct with
 |case1=>
  rw[vK,yg]at e
  unfold rawInt at e
  dsimp only at e
  split at e
  .cases e;exact .inr rfl
  .rw[yg]at e;cases e
 |case2 i t1 j t2 w r ih=>
  rw[TriplesOk.eq_def]at h
  rw[vU,vU,vU,yg]at e
  rw[yg]
  dsimp only at e h⊢
  split at e
  .rename_i z;rw[vC z];exact .inl e
  .rename_i z;rw[vB z];exact ih h e
 |case3 l n1 n2=>
  rw[TriplesOk.eq_def]at h
  split at h
  .exact(n1 rfl).elim
  .exact(n2 _ _ _ _ _ _ rfl).elim
  .exact h.elim
structure Qe(X:Cx)(pins:Wp (uf×Obj))(σ:Sg)(H:Hp)(s:ui)(x:Str)(P:uf)(params:Arguments)(body:vi)(sc:wX)(clos:Wp (Str×uf))(f:uf)(H':Hp)(s':ui):Prop where
 inv:Inv X pins σ H' s'
 fn:∃pm c' ctv o,s'.heap.get? f=Gc (ABN "<lambda>" (Lm x) params body sc clos pm c' ctv)/\H' c'=Gc (.frz o (.own 0))/\Ut (Lm x) o
 new:s.heap.objs.size<=f
 tab:∃ps,H' P=Gc (.tbl ps)/\Tp X.K H' x P ps
 keep:∀b o,H b=Gc o->b≠P->H' b=Gc o
 none:H' f=none
def XO{X:Cx}{σ:Sg}(I:Inv X pins σ H s)(hqual:X.env.qual=x++(".<locals>.":Str))(hdf:defaultsOf params X.env=([],[]))(hcl:closureFor sc X.env=pure clos)(hcode:X.env.code=.ref c)(hcd:KO X.K c P)(bm:BmB X.mg X.base)(hP:H P=Gc (.tbl ps))(tok:Tp X.K H x P ps)(hQ:∀f H' s',Qe X pins σ H s x P params body sc clos f H' s'->Q (.ref f) s'):wpAny (model X.prog X.w) X.A (eval (.Lambda params body sc pos) X.env) Q E s:=by
 have hG:s.heap.Ns mainGlobals X.mg:=I.mod.glob.keeps I.bk
 have hCH:=hcd.hd I.kIn
 have hT:s.heap.get? P=Gc (zN ps):=I.hok P _ hP
 have hq:X.env.qual++("<lambda>":Str)=Lm x:=by rw[hqual];rfl
 obtain⟨b0,ob,m1,m2,m3,m4,m5,m6,m7⟩:=bm
 have nb:b0≠P:=λz=>by
  have:=(I.bs b0 ob m4).2
  rw[z,hP]at this;cases this
 have hB:s.heap.BuiltinsAt X.mg P:=⟨b0,ob,m1,m2,m3,nb,I.bk _ _ m4,m5,m6,m7⟩
 have gP:mainGlobals≠P:=λz=>by
  obtain⟨o,es,ep,ho,_⟩:=id I.mod.glob
  have:=(I.bs _ o ho).2
  rw[z,hP]at this;cases this
 refine PySem.W.kla_eval hdf ?_
 cases hh:codeAmong pos ps.toList with
 |some cv=>
  refine PySem.W.kla_makeFunctionHit hcl I.ok.glob hG hcode hCH hT tok.tri hh hB λctv h' tk kp sz=>?_
  obtain⟨c',o,rfl,hz,vs,t,n1,n2⟩:=tok.cod pos cv hh
  have hcc:s.heap.get? c'=Gc o:=(I.hok c' _ hz).1
  have kp2:∀b u,s.heap.get? b=Gc u->(h'.push {cls:=AAH "function",data:=Data.func (zO "<lambda>" (X.env.qual++("<lambda>":Str)) params body sc clos ((X.mg "__name__").getD vL) (.ref c') ctv)}).get? b=Gc u:=λb u e=>uQ _ (kp b u e)
  refine hQ _ H _ ⟨I.kept (t':=tk) kp2,⟨_,c',ctv,o,by rw[<-hq];exact ux _ rfl,hz,vs,t,n1,n2⟩,sz,⟨ps,hP,tok⟩,λ_ _ e _=>e,I.hok.fresh sz⟩
 |none=>
  refine PySem.W.kla_makeFunction hcl I.ok.glob hG hcode hCH hT tok.tri hh gP hB λc' ctv h' tk ext l1 l2 crec ht=>?_
  rw[hq]at crec
  generalize hfo:(ABN "<lambda>" (X.env.qual++("<lambda>":Str)) params body sc clos ((X.mg "__name__").getD vL) c' ctv)=fo
  have hfo2:fo=ABN "<lambda>" (Lm x) params body sc clos ((X.mg "__name__").getD vL) c' ctv:=by rw[<-hfo,hq]
  obtain⟨c1,o,vs,t,ec,ho,hd,hv⟩:=id crec
  cases ec
  have kp:∀b u,b≠P->s.heap.get? b=Gc u->(h'.push fo).get? b=Gc u:=λb u n e=>uQ _ (ext b u n e)
  have nH:H c'=none:=I.hok.fresh l1
  have cP:c'≠P:=λz=>by rw[z,hP]at nH;cases nH
  generalize hmo:ps++ #[rawInt ↑pos.line,rawInt ↑pos.col,u5 c']=ps2 at ht
  let H':Hp:=upd (upd H c' (.frz o (.own 0))) P (.tbl ps2)
  have hk:∀b u,H b=Gc u->b≠P->H' b=Gc u:=λb u e n=>by
   show upd (upd H c' (.frz o (.own 0))) P (.tbl ps2) b=Gc u
   rw[AM n,AM (λz=>by rw[z,nH]at e;cases e)]
   exact e
  have hc1:H' c'=Gc (.frz o (.own 0)):=by
   show upd (upd H c' (.frz o (.own 0))) P (.tbl ps2) c'=_
   rw[AM cP,AX]
  have hP':H' P=Gc (.tbl ps2):=AX
  have hn:∀b,b≠P->b≠c'->H b=none->H' b=none:=λb n1 n2 e=>by
   show upd (upd H c' (.frz o (.own 0))) P (.tbl ps2) b=none
   rw[AM n1,AM n2];exact e
  have pP:(h'.push fo).get? P=Gc (zN ps2):=uQ _ ht
  have po:(h'.push fo).get? c'=Gc o:=uQ _ ho
  have fz:fo.isFreed=false:=by rw[<-hfo];rfl
  have un:Un X.fs [] H H' s.heap (h'.push fo):=by
   refine⟨λb u e n _ _=>kp b u (λz=>?_) e,λb u e n _ _=>⟨u.slots,kp b u (λz=>?_) e⟩,λb u e n _=>hn b (λz=>?_) (λz=>?_) n,λb u e _=>?_,λb xs e=>hk b _ e (λz=>?_),λb u v e=>hk b _ e (λz=>?_),λb qs e=>?_⟩
   .rw[z,hP]at n;cases n
   .rw[z,hP]at n;cases n
   .rw[z,hP]at n;cases n
   .subst z;exact absurd (uU (uj e) l1) (v8 _)
   .by_cases z:b=P
    .subst z;exact⟨_,pP⟩
    .exact⟨u,kp b u z e⟩
   .rw[z,hP]at e;cases e
   .rw[z,hP]at e;cases e
   .by_cases z:b=P
    .subst z
     rw[hP]at e;cases e
     exact⟨_,by rw[hmo];exact hP'⟩
    .exact⟨#[],by rw[Array.append_empty];exact hk b _ e z⟩
  have hok:HOk X.prog X.w H' (h'.push fo):=λa u q=>by
   by_cases z:a=P
   .subst z
    rw[hP']at q;cases q
    exact pP
   .by_cases z2:a=c'
    .subst z2
     rw[hc1]at q;cases q
     exact⟨po,o,po⟩
    .have q0:H a=Gc u:=by
      have:H' a=H a:=by
       show upd (upd H c' (.frz o (.own 0))) P (.tbl ps2) a=_
       rw[AM z,AM z2]
      rw[<-this];exact q
     refine(I.hok a u q0).Rh (λb v hb e=>kp b v (λzz=>?_) e) (λb e=>hk b _ e (λzz=>?_)) λb xs e=>hk b _ e (λzz=>?_)
     .rcases hb with hb|hb
      .exact z (hb.symm.trans zz)
      .rw[zz,hP]at hb;cases hb
     .rw[zz,hP]at e;cases e
     .rw[zz,hP]at e;cases e
  have sz:s.heap.objs.size<=h'.objs.size:=yd (vJ l1 l2)
  have nF:H' h'.objs.size=none:=hn _ (λz=>by rw[<-z]at ht;exact absurd (uj ht) (v8 _)) (λz=>by rw[<-z]at l2;exact v8 _ l2) (I.hok.fresh sz)
  refine hQ _ H' _ ⟨I.un (t':=tk) un hok,⟨_,c',ctv,o,by rw[<-hfo2];exact ux _ fz,hc1,vs,t,hd,hv⟩,sz,⟨ps2,hP',?_⟩,hk,nF⟩
  refine⟨by rw[<-hmo];simpa using TriplesOk_snoc pos.line pos.col (.ref c') ps.toList tok.tri,tok.tat,λpos' cv e=>?_⟩
  rw[<-hmo]at e
  rcases SW (l:=ps.toList) tok.tri (by simpa using e)with z|z
  .obtain⟨c2,o2,z1,z2,z3⟩:=tok.cod pos' cv z
   exact⟨c2,o2,z1,hk _ _ z2 (λzz=>by rw[zz,hP]at z2;cases z2),z3⟩
  .exact⟨c',o,z,hc1,vs,t,hd,hv⟩
end Mi
end
noncomputable section
namespace Mi
open PySem PySem.Spec L2
section
open PyProof.Rows (Below)
structure NG(H:Hp)(h:vq)(x:Str)(body:vi)(sc:wX)(clos:Wp (Str×uf))(N:Wp Str)(σc:Sg)(f:uf):Prop where
 fn:∃params pm c' ctv o oc,h.get? f=Gc o/\o.data=.func (zO "<lambda>" (Lm x) params body sc clos pm (.ref c') ctv)/\H c'=Gc (.frz oc (.own 0))/\Ut (Lm x) oc/\bindArgs (zO "<lambda>" (Lm x) params body sc clos pm (.ref c') ctv) ⟨[],[]⟩=pure []
 nof:H f=none
 cell:∀y c,clos.lookup y=Gc c->(∃v,h.IsCell c v)/\H c=none
 inj:∀y z c,clos.lookup y=Gc c->clos.lookup z=Gc c->y=z
 has:∀y,(sc.names.lookup y=Gc .cell\/sc.names.lookup y=Gc .free)->∃c,clos.lookup y=Gc c
 val:∀(i:Nat) (y:Str) (v:V),N[i]?=Gc y->σc[i]?=Gc (Gc v)->Vis sc y->sc.names.lookup y=Gc .free/\∃c u,clos.lookup y=Gc c/\h.IsCell c (Gc u)/\RelV v u
 len:σc.length=N.length
 kind:sc.kind=.function
 co:sc.isCoroutine=false
 gen:sc.isGenerator=false
 NQ:∀y∈sc.names,y.2≠.cell
def NG.later(L:NG H h x body sc clos N σc f)(u:Un fs [] H H' h h'):NG H' h' x body sc clos N σc f:=by
 have cl:∀c v,h.IsCell c v->H c=none->h'.IsCell c v:=λc v ⟨o,ho,hd⟩ n=>by
  obtain⟨sl,q⟩:=u.any ho n (by simp)
  exact⟨_,q,hd⟩
 obtain⟨params,pm,c',ctv,o,oc,h1,h2,h3,h4,h5⟩:=L.fn
 obtain⟨sl,q⟩:=u.any h1 L.nof (by simp)
 refine⟨⟨params,pm,c',ctv,_,oc,q,h2,u.R5 _ _ _ h3,h4,h5⟩,u.free f o h1 L.nof (by simp),λy c e=>?_,L.inj,L.has,λi y v e1 e2 e3=>?_,L.len,L.kind,L.co,L.gen,L.NQ⟩
 .obtain⟨⟨v,z⟩,n⟩:=L.cell y c e
  obtain⟨o',ho',_⟩:=id z
  exact⟨⟨v,cl c v z n⟩,u.free c o' ho' n (by simp)⟩
 .obtain⟨k,c,w,e,z,r⟩:=L.val i y v e1 e2 e3
  exact⟨k,c,w,e,cl c _ z (L.cell y c e).2,r⟩
noncomputable def Mz(P:va)(w:wG)(K:W1)(mg:Str->uR uX)(base:vq)(N:Wp Str)(x:Str)(sc:wX)(clos:Wp (Str×uf))(f c':uf)(A:wy)(outer:Wp PySem.Env)(s:ui)(H:Hp):Cx where
 prog:=P
 w:=w
 K:=K
 mg:=mg
 base:=base
 A:=A.deeper (wx (Lm x) sc s.heap.objs.size f (.ref c') clos)
 N:=N
 s₀:=s
 H₀:=H
 env:=wx (Lm x) sc s.heap.objs.size f (.ref c') clos
 outer:=outer
 stack:=wx (Lm x) sc s.heap.objs.size f (.ref c') clos::outer
 ex:=[]
 calm:=true
 fn:=λ_=>false
 pn:=[]
 xe:=λ_ _=>wH
def V6(L:NG H s.heap x body sc clos N σc f)(hd:A.handled=none)(e0:Y6 P w K mg base A outer s H)(hns:h'.Ns s.heap.objs.size m)(kp:∀b o,s.heap.get? b=Gc o->h'.get? b=Gc o):Inv (Mz P w K mg base N x sc clos f c' A outer s H) [] σc H {s with heap:=h',toks:=tk}:=by
 have noA:∀b:uf,b∉(Mz P w K mg base N x sc clos f c' A outer s H).ex:=λb z=>absurd (show b∈([]:Wp uf)from z) (by simp)
 have cl:∀c v,s.heap.IsCell c v->h'.IsCell c v:=λc v ⟨o,ho,hd⟩=>⟨o,kp _ _ ho,hd⟩
 refine⟨⟨e0.mod,L.kind,rfl,rfl,uc _,L.inj,L.has,λy c z _=>absurd z (by intro q;cases q),λ_=>hd,ABX e0.frames,.inr ⟨rfl,rfl⟩,λb z=>absurd z (noA b),e0.bs,e0.bsz,λb _ _=>noA b,λb z=>absurd z (noA b),e0.QS,e0.frf⟩,
  rfl,e0.bare,Un.kept kp,⟨m,hns,λi y v e1 e2 e3=>?_⟩,λy c e=>?_,e0.hok.fresh (uc _),λy c e=>(L.cell y c e).2,λp hp=>absurd (show p∈([]:Wp (uf×Obj))from hp) (by simp),e0.hok.kept kp,L.len⟩
 .obtain⟨k,c,u,e,z,r⟩:=L.val i y v e1 e2 e3
  exact⟨u,r,.inr ⟨.inr k,c,e,cl c _ z⟩⟩
 .obtain⟨⟨v,z⟩,_⟩:=L.cell y c e
  exact⟨v,cl c v z⟩
def aZ{X:Cx}{σ:Sg}(I:Inv X pins σ H s)(hr:Cj (k+1) X.A)(L:NG H s.heap x body sc clos N σc f)(hb:∀c',Cj k (X.A.deeper (wx (Lm x) sc s.heap.objs.size f (.ref c') clos))->PE (Mz X.prog X.w X.K X.mg X.base N x sc clos f c' X.A X.stack s H) body t)(ht:t σc H Q):wpAny (model X.prog X.w) X.A (call (.ref f) []) (EP X pins σ Q) X.xe s:=by
 obtain⟨params,pm,c',ctv,o,oc,h1,h2,h3,h4,h5⟩:=L.fn
 have cr:s.heap.CodeRec (.ref c') (Lm x):=by
  obtain⟨vs,t,n1,n2⟩:=h4
  exact⟨c',oc,vs,t,rfl,(I.hok c' _ h3).1,n1,n2⟩
 refine xt (ABg hr.depth h1 h2 L.co L.gen rfl cr ?_)
 rw[h5]
 refine ug (ABh L.NQ (λ_ z=>nomatch z) (λh' hns sb=>?_) L.kind)
 have kp:∀b ob,s.heap.get? b=Gc ob->h'.get? b=Gc ob:=λb ob e=>by
  rw[sb.2 b (vE (uj e))]
  exact uQ _ e
 have J:=V6 (c':=c') (tk:=s.toks+0) L hr.hd I.Zr hns kp
 refine⟨I.nolimit.keeps kp,ABi (vo (hb c' (hr.deeper _) [] _ σc H Q J ht) (λu s' z=>?_) λ_ _ z=>z.elim)⟩
 obtain⟨v,H',J',rv,q⟩:=z
 exact I.after ⟨v,H',J'.os,J'.bare,J'.base,J'.hok,rv,q⟩
def Yi{X:Cx}{σ:Sg}(I:Inv X pins σ H s)(hr:Cj (k+1) X.A)(L:NG H s.heap x body sc clos N σc f)(hx:X.ex=[])(hb:∀c',Cj k (X.A.deeper (wx (Lm x) sc s.heap.objs.size f (.ref c') clos))->PXe (Mz X.prog X.w X.K X.mg X.base N x sc clos f c' X.A X.stack s H) body t)(ht:t σc H λC od _ H'=>Z C od σ H'):wpAny (model X.prog X.w) X.A (call (.ref f) []) (λ_ _=>wH) (XP X pins Z) s:=by
 obtain⟨params,pm,c',ctv,o,oc,h1,h2,h3,h4,h5⟩:=L.fn
 have cr:s.heap.CodeRec (.ref c') (Lm x):=by
  obtain⟨vs,t,n1,n2⟩:=h4
  exact⟨c',oc,vs,t,rfl,(I.hok c' _ h3).1,n1,n2⟩
 refine xt (ABg hr.depth h1 h2 L.co L.gen rfl cr ?_)
 rw[h5]
 refine ug (ABh L.NQ (λ_ z=>nomatch z) (λh' hns sb=>?_) L.kind)
 have kp:∀b ob,s.heap.get? b=Gc ob->h'.get? b=Gc ob:=λb ob e=>by
  rw[sb.2 b (vE (uj e))]
  exact uQ _ e
 have J:=V6 (c':=c') (tk:=s.toks+0) L hr.hd I.Zr hns kp
 refine⟨I.nolimit.keeps kp,ABi (vo (hb c' (hr.deeper _) [] _ σc H _ J ht) (λ_ _ z=>z.elim) λev s' z=>?_)⟩
 obtain⟨e,C,od,σ',H',rfl,J',z,fl⟩:=z
 unfold leaving
 refine uP (Oo J' J'.ok.frames rfl rfl fl (EZ J' rfl) λh2 t=>?_)
 have un:=UY J' rfl rfl rfl t
 have ok2:=Qf J' t
 have fl2:=t.fly.fly
 show XP X pins Z (.ref e) _
 exact⟨e,C,od,σ,H',rfl,I.YQ J'.os un ok2 J'.bare (λb z=>nomatch z),z,fl2.imp λb z=>.inl (EZ I hx b z)⟩
def Yg{X:Cx}{x:Str}{body:vi}{sc:wX}{clos:Wp (Str×uf)}{N:Wp Str}{σc:Sg}{f:uf}{k i:Nat}{p pos:Pos}(hr:Cj (k+1) X.A)(hx:X.ex=[])(L:NG X.H₀ X.s₀.heap x body sc clos N σc f)(hb:∀c' s H,Cj k (X.A.deeper (wx (Lm x) sc s.heap.objs.size f (.ref c') clos))->PE (Mz X.prog X.w X.K X.mg X.base N x sc clos f c' X.A X.stack s H) body t)(hN:X.N[i]?=Gc y)(hv:Vis X.env.scope y)(hd:zn ((y==("__debug__":Str))=false) xz)(hcd:zn ((y==("__classdict__":Str))=false) xz):PE X (.Call (.Name y p) [] [] pos) (λσ H Q=>σ[i]?=Gc (Gc (.ref f))/\t σc H Q):=by
 intro pins s σ H Q I h
 refine wD (thn (IZ hN hv hd hcd pins s σ H (λv H1=>v=.ref f/\H1=H) I ⟨.ref f,h.1,rfl,rfl⟩) λu s1 z=>?_)
 obtain⟨v,H1,I1,rv,rfl,rfl⟩:=z
 obtain rfl:u=.ref f:=rv
 have un:=I1.base
 rw[hx]at un
 have L1:=L.later un
 obtain⟨params,pm,c',ctv,o,oc,h1,h2,_⟩:=L1.fn
 refine ABy ⟨o.cls,o.dict,_,o.slots,by rw[h1];obtain⟨c,d,dt,sl⟩:=o;cases h2;rfl⟩ ?_
 exact aZ I1 hr L1 (λc'=>hb c' s1 H1) h.2
def XU{X:Cx}{x:Str}{body:vi}{sc:wX}{clos:Wp (Str×uf)}{N:Wp Str}{σc:Sg}{f:uf}{k i:Nat}{p pos:Pos}(hr:Cj (k+1) X.A)(hx:X.ex=[])(L:NG X.H₀ X.s₀.heap x body sc clos N σc f)(hb:∀c' s H,Cj k (X.A.deeper (wx (Lm x) sc s.heap.objs.size f (.ref c') clos))->PXe (Mz X.prog X.w X.K X.mg X.base N x sc clos f c' X.A X.stack s H) body t)(hN:X.N[i]?=Gc y)(hv:Vis X.env.scope y)(hxe:X.xe=λ_ _=>wH)(hd:zn ((y==("__debug__":Str))=false) xz)(hcd:zn ((y==("__classdict__":Str))=false) xz):PXe X (.Call (.Name y p) [] [] pos) (λσ H Z=>σ[i]?=Gc (Gc (.ref f))/\t σc H λC od _ H'=>Z C od σ H'):=by
 intro pins s σ H Z I h
 refine wD (EA hxe (IZ hN hv hd hcd pins s σ H (λv H1=>v=.ref f/\H1=H) I ⟨.ref f,h.1,rfl,rfl⟩) λu s1 z=>?_)
 obtain⟨v,H1,I1,rv,rfl,rfl⟩:=z
 obtain rfl:u=.ref f:=rv
 have un:=I1.base
 rw[hx]at un
 have L1:=L.later un
 obtain⟨params,pm,c',ctv,o,oc,h1,h2,_⟩:=L1.fn
 refine ABy ⟨o.cls,o.dict,_,o.slots,by rw[h1];obtain⟨c,d,dt,sl⟩:=o;cases h2;rfl⟩ ?_
 exact Yi I1 hr L1 hx (λc'=>hb c' s1 H1) h.2
end
structure LV(N:Wp Str)(osc:wX)(N':Wp Str)(Jg:Wp Nat)(sc:wX):Prop where
 kind:sc.kind=.function
 co:sc.isCoroutine=false
 gen:sc.isGenerator=false
 NQ:∀y∈sc.names,y.2≠.cell
 free:∀y∈sc.names,y.2=.free->osc.names.lookup y.1=Gc .cell
 len:Jg.length=N'.length
 Jg:∀z∈N'.zip Jg,N[z.2]?=Gc z.1/\osc.names.lookup z.1=Gc .cell/\sc.names.lookup z.1=Gc .free
noncomputable def TV{α:Type}(Jg:Wp Nat)(σ:Wp (uR α)):Wp (uR α):=Jg.map λi=>(σ[i]?).join
def RK{σ:Wp (uR α)}{j:Nat}{v:α}(h:(TV Jg σ)[j]?=Gc (Gc v)):∃i,Jg[j]?=Gc i/\σ[i]?=Gc (Gc v):=by
 unfold TV at h
 rw[um]at h
 cases e:Jg[j]? with
 |none=>rw[e]at h;cases h
 |some i=>
  rw[e]at h
  refine⟨i,rfl,?_⟩
  have h':(σ[i]?).join=Gc v:=by simpa using h
  cases e2:σ[i]? with
  |none=>rw[e2]at h';cases h'
  |some o=>rw[e2]at h';simpa using h'
def XS{σ:Wp (uR α)}{i j:Nat}{v:α}(h:Jg[j]?=Gc i)(e:σ[i]?=Gc (Gc v)):(TV Jg σ)[j]?=Gc (Gc v):=by
 unfold TV
 rw[um,h]
 simp[e]
def EnR.NA(r:EnR K M E σ H) Jg:EnR K M (TV Jg E) (TV Jg σ) H:=⟨by simp[TV],λj d e=>by
 obtain⟨i,h1,h2⟩:=RK e
 obtain⟨v,h3,h4⟩:=r.val i d h2
 exact⟨v,XS h1 h3,h4⟩⟩
def gF(LS:LV X.N X.env.scope N' Jg sc)(M:Qe X pins σ H s x P params body sc (FI X.env.cells sc.names []) f H' s')(hp:∀pm c' ctv,bindArgs (zO "<lambda>" (Lm x) params body sc (FI X.env.cells sc.names []) pm (.ref c') ctv) ⟨[],[]⟩=pure []):NG H' s'.heap x body sc (FI X.env.cells sc.names []) N' (TV Jg σ) f:=by
 have I:=M.inv
 have hcl:∀y∈sc.names,y.2=.free->∃a,X.env.cells.lookup y.1=Gc a:=λy hy hf=>I.ok.has y.1 (.inl (LS.free y hy hf))
 have sub:∀{y:Str} {c:uf},(FI X.env.cells sc.names []).lookup y=Gc c->X.env.cells.lookup y=Gc c:=λ{y c} h=>by
  rcases Jz hcl h with z|z
  .cases z
  .exact z
 obtain⟨pm,c',ctv,o,h1,h2,h3⟩:=M.fn
 refine⟨⟨params,pm,c',ctv,_,o,h1,rfl,h2,h3,hp pm c' ctv⟩,M.none,λy c e=>⟨I.cell y c (sub e),I.HP y c (sub e)⟩,λy z c e1 e2=>I.ok.inj y z c (sub e1) (sub e2),λy h=>?_,λj y v e1 e2 e3=>?_,by simp[TV,LS.len],LS.kind,LS.co,LS.gen,LS.NQ⟩
 .rcases h with h|h
  .exact absurd rfl (LS.NQ _ (vR h))
  .exact GS (.inl (vR h))
 .obtain⟨i,q1,q2⟩:=RK e2
  have hz:(y,i)∈N'.zip Jg:=xV.mpr ⟨j,by rw[yk];exact⟨e1,q1⟩⟩
  obtain⟨p1,p2,p3⟩:=LS.Jg _ hz
  refine⟨p3,?_⟩
  obtain⟨m,_,hl⟩:=I.loc
  obtain⟨u,ru,lk⟩:=hl i y v p1 q2 (.inr (.inl p2))
  rcases lk with⟨k,_⟩|⟨_,c,ec,ic⟩
  .have:X.env.scope.names.lookup y=Gc .local:=k
   rw[p2]at this;cases this
  .obtain⟨c2,ec2⟩:=GS (cells:=X.env.cells) (cs:=[]) (.inl (vR p3))
   have:=sub ec2
   rw[ec]at this;cases this
   exact⟨c,u,ec2,ic,ru⟩
def aq(hb:PSs X body tb)(hr:PXs X body tr)(hh:HS X (h₀::hs) g)(hxe:X.xe=λ_ _=>wH)(hx:X.ex=[])(hst:X.stack=X.env::X.outer)(hfr:X.env.frame=Gc X.env.locals):PS X (.Try body (h₀::hs) [] [] pos) (λD σ H=>tb D σ H\/∃x,tr σ H λC od σ' H'=>kj X.mg x C od H'/\tX X.K (g x) D σ' H'):=by
 intro pins s σ H D I z
 rcases z with z|⟨x,z⟩
 .refine wpAny_Try_except (EA hxe (hb pins s σ H D I z) λf s1 w=>?_)
  cases f with
  |next=>exact yw w
  |ret u=>exact w
  |brk=>exact w
  |cont=>exact w
 .refine wpAny_Try_except (vo (hr pins s σ H _ I z) (λ_ _ z=>z.elim) λev s1 w=>?_)
  obtain⟨ea,C,od,σ',H',rfl,I',⟨hm,z'⟩,fly⟩:=w
  refine Oo I' I'.ok.frames hst hfr fly (EZ I' hx) λh' t=>?_
  have I2:=Q6 I' hst hfr hx t
  exact vo (hh.pe x C od pins _ σ' H' D ea hm I2 t.fly z') (λ_ _ z=>z) λ_ _ z=>z.elim
def fN{X:Cx}{σ:Sg}(Fu:Fun X.K x x st f fd)(S:Aj N ps (AB st))(Bi:Binds X.K fd ps [])(hr:Cj (k+1) X.A)(I:Inv X pins σ H s)(r:Vals vs us)(hl:vs.length=ps.length)(hbody:∀cdv,Cj k (X.A.deeper (u4 x (AB st) s.heap.objs.size f cdv))->∃t,PSs (IW CX0 X.prog X.w X.K X.mg X.base N x (AB st) f cdv X.A X.stack s H E0).nox (Ar st) t/\t {nx:=λ_ H'=>Q .non H',rt:=Q} (L2.start N vs) H):wpAny (model X.prog X.w) X.A (call (.ref f) us) (EP X pins σ Q) X.xe s:=by
 obtain⟨oc,od,kV,doc,pm,an,cdv,ct,osl,rfl,lk,hcd⟩:=Fu.ex
 have hl2:(us++[]).length=ps.length:=by rw[vt,<-r.length];exact hl
 have hb:=Bi s us I.kIn hl2
 rw[vt]at hb
 have lim:=I.nolimit
 have hkind:∀y∈ps.zip us,(AB st).names.lookup y.1=Gc .local\/((AB st).names.lookup y.1=Gc .cell/\((cellsFrom (s.heap.objs.size+1) (AB st).names []).lookup y.1).isSome=true):=λ⟨n,v⟩ hy=>by
  rcases S.par n (wc hy).1 with q|q
  .exact .inl q
  .exact .inr ⟨q,zF _ _ _ (.inl q)⟩
 refine xt (ABQ hr.depth (I.kIn _ _ lk) rfl S.co S.gen rfl (ACB I.kIn hcd) (hb _ _ _ _ ?_))
 refine AAM S.kind hkind λenv he s1 x1=>?_
 subst he
 refine⟨lim.keeps x1.toInCall.keep,codeAny_func ?_⟩
 obtain⟨t,ht,hq⟩:=hbody cdv (hr.deeper _)
 have J:Inv (IW CX0 X.prog X.w X.K X.mg X.base N x (AB st) f cdv X.A X.stack s H E0) [] (L2.start N vs) H s1:=O8 S hr.hd I.Zr hl r x1
 have J':Inv (IW CX0 X.prog X.w X.K X.mg X.base N x (AB st) f cdv X.A X.stack s H E0).nox [] (L2.start N vs) H s1:=J.TM _
 refine vo (ht [] s1 (L2.start N vs) H _ J' hq) (λfl s' hs=>?_) λe s' hs=>hs.elim
 have fin:∀{σ':Sg} {H':Hp} {v:V} {u:uX},Inv (IW CX0 X.prog X.w X.K X.mg X.base N x (AB st) f cdv X.A X.stack s H E0).nox [] σ' H' s'->RelV v u->Q v H'->EP X pins σ Q u s':=
  λ{σ' H' v u} J rv q=>I.after ⟨v,H',J.os,J.bare,J.base,J.hok,rv,q⟩
 cases fl with
 |ret u=>
  obtain⟨v,σ',H',J,rv,q⟩:=hs
  exact fin J rv q
 |next=>
  obtain⟨σ',H',J,q⟩:=hs
  exact fin (v:=V.non) (u:=vL) J rfl q
 |brk=>
  obtain⟨_,_,_,q⟩:=hs
  exact vX q
 |cont=>
  obtain⟨_,_,_,q⟩:=hs
  exact vX q
noncomputable def U0(x:Str):Cl->vZ
 | .tab y=>y==x
 |_=>false
theorem VZ:∀{S:Sto},S.any (U0 x)=true->∃n:Nat,S[n]?=Gc (Cl.tab x)
 | [],h=>by cases h
 |c::S,h=>by
  rw[xJ,vv]at h
  rcases h with h|h
  .cases c with
   |tab y=>have e:y=x:=eq_of_beq h;exact⟨0,by rw[e];rfl⟩
   |lst ds=>cases h
   |dct ds=>cases h
   |ins C fs=>cases h
  .obtain⟨n,e⟩:=VZ h
   exact⟨n+1,e⟩
def gZ{X:Cx}{pins:Wp (uf×Obj)}{σ:Sg}{H H':Hp}{s s':ui}{x:Str}{P f:uf}{n:Nat}(st:StR X.K M S H)(h1:M.cel[n]?=Gc P)(h2:S[n]?=Gc (Cl.tab x))(k:Qe X pins σ H s x P params body sc clos f H' s'):StR X.K M S H'/\Gr M H M H':=by
 have hP:P∈M.cel:=uv h1
 obtain⟨ps,t1,t2⟩:=k.tab
 have g:Gr M H M H':=⟨st.mo,vj,rfl,λ_ z=>.inl z,λa o e na=>k.keep a o e λz=>na (by rw[z];exact hP),λa e=>by
  by_cases z:a=P
  .subst z;rw[t1];intro z;cases z
  .cases q:H a with
   |none=>exact absurd q e
   |some o=>rw[k.keep a o q z];intro z;cases z⟩
 refine⟨⟨λb z=>?_,st.nd,st.nt,st.len,λm b c e1 e2=>?_⟩,g⟩
 .by_cases hb:b=P
  .subst hb;exact⟨_,t1,trivial⟩
  .exact(st.mo b z).imp λo q=>⟨k.keep _ _ q.1 hb,q.2⟩
 .by_cases hb:b=P
  .subst hb
   have hm:n=m:=(yW (ua.mp h1).1 st.nd).mp (h1.trans e1.symm)
   subst hm
   rw[h2]at e2;cases e2
   exact⟨ps,t1,t2⟩
  .exact(st.cell m b c e1 e2).step g.st λo e=>k.keep _ _ e hb
def UM(X:Cx)(x:Str):Prop:=∀P,TabAt X.K x P->X.K.In X.base->X.base.Ns mainGlobals X.mg->∃c,X.env.code=.ref c/\KO X.K c P
def fnL(Fu:Fun K x x st f fd)(hm:mg x=Gc (.ref f))(S:Aj N ps (AB st))(hp:ps.length=np)(hb:∀{cdv} {A} {outer} {s} {H} {E},UM (IW CX0 P w K mg base N x (AB st) f cdv A outer s H E).nox x->Cj k (A.deeper (u4 x (AB st) s.heap.objs.size f cdv))->(A.deeper (u4 x (AB st) s.heap.objs.size f cdv)).units+100<cLine->DSs (IW CX0 P w K mg base N x (AB st) f cdv A outer s H E).nox (Ar st) b):Ji P w K mg base CX0 (k+1) f fd ps (spD K np (AS (AV N.length b))):=by
 rw[JM]
 obtain⟨oc,od,kV,doc,pm,an,cdv,ct,osl,rfl,lk,hcd⟩:=Fu.ex
 refine X3 lk hcd S (λvs H Q E h=>?_) (λA outer s H vs Q E hr h=>?_)
 .obtain⟨M,ds,S0,d,S',hl,_,r,_⟩:=h
  have:=r.length
  lia
 .obtain⟨M,ds,S0,d,S',hl,e,r,st,q⟩:=h
  have hlen:=r.length
  refine⟨_,(hb (cdv:=cdv) (A:=A) (outer:=outer) (s:=s) (H:=H) (E:=E) (λP0 ta kin glob=>?_) hr (IE hr)).pe.nox,?_⟩
  .obtain⟨f0,oc0,od0,fd0,osl0,c,t1,t2,t3,t4⟩:=ta
   have:=wQ kin glob t1
   have e0:Gc (u5 f0)=Gc (u5 f):=this.symm.trans hm
   cases e0
   have t2':K.lookup f=_:=t2
   rw[lk]at t2'
   cases t2'
   exact⟨c,t3,t4⟩
  obtain⟨⟨fl,E',S1⟩,e1,e⟩:=IV e
  cases e
  refine⟨M,_,S0,fl,E',S1,e1,?_,st,?_⟩
  .rw[show L2.start N vs=vs.map Gc++uo (N.length-ds.length) none from by unfold L2.start;rw[hlen]]
   exact .args r _
  .cases fl with
   |nx=>exact λσ' H' M' g _ st'=>q _ _ M' g st' .non
   |ret d=>exact λv H' M' g st' r'=>q _ _ M' g st' r'
def dfL k(S:St.Src K mg x st)(sc:Aj N ps (AB st))(hb:∀{f} {cdv} {A} {outer} {s} {H} {E},UM (IW CX0 P w K mg base N x (AB st) f cdv A outer s H E).nox x->Cj k (A.deeper (u4 x (AB st) s.heap.objs.size f cdv))->(A.deeper (u4 x (AB st) s.heap.objs.size f cdv)).units+100<cLine->DSs (IW CX0 P w K mg base N x (AB st) f cdv A outer s H E).nox (Ar st) b)(hp:zn (ps.length=np) ww)(hbi:zn (BnR x st ps) wP):St.Dfn P w K mg base x (k+1) ps (spD K np (AS (AV N.length b))):=by
 obtain⟨f,fd,Fu,hm⟩:=S.ex
 exact⟨f,fd,hm,Fu.kp,bnR Fu hbi,fnL Fu hm sc hp λci hr hu=>hb ci hr hu⟩
end Mi
end
noncomputable section
namespace Mi
open PySem PySem.Spec L2 PyProof.Rows
def Qq{K:W1}(k:KO K c P)(X:K.In h):isCodeTable h P:=by
 obtain⟨o,vs,file,tf,flags,tg,inF,text,tt,h0,h1,h2,h3,_⟩:=k
 exact⟨c,o,vs,X _ _ h0,h1,h2,h3⟩
noncomputable def Sk(T:Wp (Str×uf)):Sto:=T.map λz=>Cl.tab z.1
def UW{P:va}{w:wG}{K:W1}{mg mb:Str->uR uX}{k:Nat}{fa a:uf}{fd:zE}{x:Str}{Fn0:Fn}{s₁:ui}{vs:Wp uX}{ns:Wp Int}{T:Wp (Str×uf)}(KX:K.In s₁.heap)(hns:s₁.heap.Ns mainGlobals mg)(hb:s₁.heap.Ns builtinsNs mb)(hbb:∀x:Str,x≠ "__name__"->mb x=bootBuiltins x)(hlim:s₁.heap.NoLimit)(hg:s₁.gens= #[])(ha:s₁.heap.get? a=Gc {cls:=.type "list",data:=.seq vs.toArray})(hi:yq vs ns)(hl:ns.length<=sizeLine)(hr:Cj k callerA)(hT:∀z∈T,TabAt K z.1 z.2/\K.lookup z.2=none/\s₁.heap.get? z.2=Gc (zN #[]))(nd:(T.map (·.2)).Nodup)(bmn:∃bm ob,mg "__builtins__"=Gc (.ref bm)/\bm≠builtinsNs/\s₁.heap.get? bm=Gc ob/\ob.cls=.type "module" /\ob.dict=Gc builtinsNs/\ob.data=.plain)(F:∀base,K.In base->base.Ns mainGlobals mg->BmB mg base->Ji P w K mg base CX0 k fa fd [x] (spD K 1 Fn0))(hbind:∀s u,BindsTo s fd ⟨[u],[]⟩ [(x,u)])(hlaw:∃S,Fn0 [.scr ns] (Sk T)=Gc (.bl true,S)):codeAny (model P w) callerA (.call (.ref fa) ⟨[.ref a],[]⟩) (λr s'=>r=.ok (.ret (.bool true))/\OldK s₁.heap s'.heap/\s'.os=s₁.os/\yz s'.gens) s₁:=by
 have rv:=QG hi
 have lenV:=hi.length
 have aT:∀z∈T,z.2≠a:=λz hz e=>by
  have:=(hT z hz).2.2
  rw[e,ha]at this;cases this
 have core:∀H:Hp,SqL K H a (ns.map V.int)->HOk P w H s₁.heap->(∀b,H b≠none->b=a\/∃z∈T,z.2=b)->(∀b,H b≠none->K.lookup b=none)->(∀z∈T,H z.2=Gc (.tbl #[]))->(H a=none\/∃o xs,H a=Gc (.frz o (.lst xs)))->
   codeAny (model P w) callerA (.call (.ref fa) ⟨[.ref a],[]⟩) (λr s'=>r=.ok (.ret (.bool true))/\OldK s₁.heap s'.heap/\s'.os=s₁.os/\yz s'.gens) s₁:=by
  intro H hS hok hA hK hTb hF
  have base_of:∀{b:uf} {o:Obj},s₁.heap.get? b=Gc o->H b=none->(Wn s₁.heap H).get? b=Gc o:=λe n=>W2 e n
  have noA:∀{b:uf} {o:Obj},s₁.heap.get? b=Gc o->(∀x n,o.data≠.seq x n)->(∀x,o.data≠.fields x)->H b=none:=λ{b o} e d1 d2=>by
   cases q:H b with
   |none=>rfl
   |some u=>
    rcases hA b (by rw[q];simp)with z|⟨z,hz,z2⟩
    .subst z
     rw[ha]at e;cases e
     exact absurd rfl (d1 _ _)
    .subst z2
     rw[(hT z hz).2.2]at e;cases e
     exact absurd rfl (d2 _)
  have nsK:∀{b:uf} {m:Str->uR uX},s₁.heap.Ns b m->(Wn s₁.heap H).Ns b m:=λ{b m} ⟨o,es,ep,e,d,r⟩=>⟨o,es,ep,base_of e (noA e (λ_ _ z=>by rw[d]at z;cases z) λ_ z=>by rw[d]at z;cases z),d,r⟩
  have hKb:K.In (Wn s₁.heap H):=λb o e=>base_of (KX b o e) (by
   cases q:H b with
   |none=>rfl
   |some u=>rw[hK b (by rw[q];simp)]at e;cases e)
  have hM:Mod K mg (Wn s₁.heap H):=⟨hKb,nsK hns,⟨mb,nsK hb,hbb⟩,let⟨mc,h1,h2⟩:=hlim;⟨mc,nsK h1,h2⟩⟩
  have e0:Y6 P w K mg (Wn s₁.heap H) callerA [] s₁ H:=⟨rfl,hM,λb o e=>Z4 e,Nat.le_of_eq (V4 _ _),trivial,λb hb=>absurd (show b∈([]:Wp uf)from hb) (by simp),hok,.of_eq hg⟩
  have hbm:BmB mg (Wn s₁.heap H):=by
   obtain⟨bm,ob,m1,m2,m3,m4,m5,m6⟩:=bmn
   refine⟨bm,ob,m1,m2,λz=>?_,base_of m3 (noA m3 (λ_ _ z=>by rw[m6]at z;cases z) λ_ z=>by rw[m6]at z;cases z),m4,m5,m6⟩
   obtain⟨o,es,ep,e,d,_⟩:=hns
   rw[z,e]at m3;cases m3
   rw[d]at m6;cases m6
  obtain⟨S',hS'⟩:=hlaw
  have nm:¬Ms.mem ⟨T.map (·.2),[]⟩ a:=λz=>by
   rcases z with z|z
   .obtain⟨q,hq,e⟩:=vS.mp z
    exact aT q hq e
   .cases z
  have st:StR K ⟨T.map (·.2),[]⟩ (Sk T) H:=by
   refine⟨λb z=>?_,nd,λb z=>(nomatch z),by simp[Sk],λn b c e1 e2=>?_⟩
   .rcases z with z|z
    .obtain⟨q,hq,e⟩:=vS.mp z
     subst e
     exact⟨_,hTb q hq,trivial⟩
    .cases z
   .have e1':(T.map (·.2))[n]?=Gc b:=e1
    have e2':(T.map λz=>Cl.tab z.1)[n]?=Gc c:=e2
    rw[um]at e1' e2'
    cases q:T[n]? with
    |none=>rw[q]at e1';cases e1'
    |some z=>
     rw[q]at e1' e2'
     cases e1';cases e2'
     have hz:=uv q
     exact⟨#[],hTb z hz,trivial,(hT z hz).1,λpos cv e=>by rw[yg]at e;cases e⟩
  refine yf ((F _ hKb (nsK hns) hbm).run callerA [] s₁ H ⟨[.ref a],[]⟩ [.ref a] [.ref a] (λv _=>v=.bl true) (λ_ _ _=>wH) hr e0 (hbind s₁ (.ref a)) (.cons rfl .nil) ⟨⟨T.map (·.2),[]⟩,[.scr ns],Sk T,_,S',rfl,hS',.cons (.scr ?_) .nil,st,λv H' M' g st' r'=>by cases r';rfl⟩) λr s' h=>?_
  .rcases hS with z|z
   .exact .inl ⟨z,nm⟩
   .exact .inr z
  cases r with
  |error e=>exact vX h
  |ok fl=>
   cases fl with
   |next=>exact vX h
   |brk=>exact vX h
   |cont=>exact vX h
   |ret u=>
    obtain⟨v,H',os,bare,un,hok',r',q⟩:=h
    have q':v=.bl true:=q
    subst q'
    obtain rfl:u=AAG true:=r'
    refine⟨rfl,⟨λb o e=>?_,λb o e=>un.there b o e (by simp)⟩,os,bare⟩
    cases q:H b with
    |none=>exact .inl (un.keep b o e q (by intro z;exact absurd (show b∈([]:Wp uf)from z) (by simp)) (by simp))
    |some u=>
     rcases hA b (by rw[q];simp)with z|⟨z,hz,z2⟩
     .subst z
      rcases hF with z|⟨ob,xs,z⟩
      .rw[q]at z;cases z
      .have z2:=un.R5 b ob _ z
       obtain⟨e1,_⟩:=hok b _ z
       obtain⟨e2,_⟩:=hok' b _ z2
       rw[e]at e1;cases e1
       exact .inl e2
     .subst z2
      obtain⟨t1,t2,t3⟩:=hT z hz
      rw[t3]at e;cases e
      obtain⟨more,em⟩:=un.TC _ _ (hTb z hz)
      have e2:s'.heap.get? z.2=Gc (zN (#[]++more)):=hok' _ _ em
      obtain⟨_,_,_,_,_,c,_,_,_,hc⟩:=t1
      exact .inr (.inl ⟨Qq hc KX,rfl, #[],more,rfl,e2⟩)
 cases hk:K.lookup a with
 |some o=>
  have e:=KX a o hk
  rw[ha]at e
  cases e
  refine core (λb=>if∃z∈T,z.2=b then Gc (.tbl #[])else none) (.inr ⟨_,vs.toArray,_,hk,rfl,rfl,rfl,by rw[uq,lenV];exact hl,by simpa using rv⟩) (λb u z=>?_) (λb z=>?_) (λb z=>?_) (λz hz=>vC ⟨z,hz,rfl⟩) (.inl (vB λ⟨z,hz,e⟩=>aT z hz e))
  .by_cases hb:∃z∈T,z.2=b
   .have z':=(vC hb).symm.trans z
    cases z'
    obtain⟨y,hy,rfl⟩:=hb
    exact(hT y hy).2.2
   .have z':=(vB hb).symm.trans z
    cases z'
  .by_cases hb:∃z∈T,z.2=b
   .exact .inr hb
   .exact absurd (vB hb) z
  .by_cases hb:∃z∈T,z.2=b
   .obtain⟨y,hy,rfl⟩:=hb;exact(hT y hy).2.1
   .exact absurd (vB hb) z
 |none=>
  refine core (λb=>if b=a then Gc (.frz {cls:=.type "list",data:=.seq vs.toArray} (.lst (ns.map V.int)))else if∃z∈T,z.2=b then Gc (.tbl #[])else none) (.inl (.inr ⟨{cls:=.type "list",data:=.seq vs.toArray},vC rfl⟩)) (λb u z=>?_) (λb z=>?_) (λb z=>?_) (λz hz=>(vB (aT z hz)).trans (vC ⟨z,hz,rfl⟩)) (.inr ⟨_,_,vC rfl⟩)
  .by_cases hb:b=a
   .have z':=(vC hb).symm.trans z
    cases z'
    subst hb
    exact⟨ha,by rw[vN];exact hl,vs,_,rv,ha⟩
   .have z':=(vB hb).symm.trans z
    by_cases hc:∃z∈T,z.2=b
    .have z'':=(vC hc).symm.trans z'
     cases z''
     obtain⟨y,hy,rfl⟩:=hc
     exact(hT y hy).2.2
    .have z'':=(vB hc).symm.trans z'
     cases z''
  .by_cases hb:b=a
   .exact .inl hb
   .by_cases hc:∃z∈T,z.2=b
    .exact .inr hc
    .exact absurd ((vB hb).trans (vB hc)) z
  .by_cases hb:b=a
   .rw[hb];exact hk
   .by_cases hc:∃z∈T,z.2=b
    .obtain⟨y,hy,rfl⟩:=hc;exact(hT y hy).2.1
    .exact absurd ((vB hb).trans (vB hc)) z
def oE{l:AA2}{q:va}{loose:Wp Str}{XP:(Str->uR uX)->vq->Prop}{YP:wG->vq->Prop}{d:DefRec}{K:Params->W1} T(hn:l.most=Gc 63)(hdf:d.params.defaults=[])(hr:Cj k callerA)(hY:∀w h,YP w h->(K w.params).In h/\∀z∈T,h.get? z.2=Gc (zN #[]))(nd:(T.map (·.2)).Nodup)(F:∀w mg fa h,(K w.params).In h->h.Ns mainGlobals mg->mg d.name=Gc (.ref fa)->(∀z∈T,TabAt (K w.params) z.1 z.2/\(K w.params).lookup z.2=none)/\∃fd,(∀s u,BindsTo s fd ⟨[u],[]⟩ [(x,u)])/\∀base,(K w.params).In base->base.Ns mainGlobals mg->BmB mg base->Ji l.prog w (K w.params) mg base CX0 k fa fd [x] (spD (K w.params) 1 Fn0))(hlaw:∀ns,ns.length<=63->∃S,Fn0 [.scr ns] (Sk T)=Gc (.bl true,S)):PySem.W.WalkO q loose XP YP l.row.toRowW d [] (λf vs=>PySem.call f vs):=by
 refine Att.attach_call hn hdf λw s₀ s₁ mg mb fa o pm cd doc a vs ns G Y ho hd hcd hmg hobj hints hlen hg=>?_
 obtain⟨KX,Y2⟩:=hY w _ Y
 obtain⟨hT,fd,hb,hF⟩:=F w mg fa _ KX G.T.g hmg
 exact UW KX G.T.g G.T.b G.T.builtins G.T.nolimit hg hobj hints (uZ hlen (by decide)) hr (λz hz=>⟨(hT z hz).1,(hT z hz).2,Y2 z hz⟩) nd G.T.bmain hF hb (hlaw ns hlen)
end Mi
end
noncomputable section
namespace Mi
open PySem PySem.Spec L2
noncomputable def laE:Nat->vi->Wp wX
 |0,_=>[]
 |n+1,.Lambda _ _ s _=>[s]
 |n+1,.BoolOp _ vs _=>vs.flatMap (laE n)
 |n+1,.Call f as _ _=>laE n f++as.flatMap (laE n)
 |n+1,.UnaryOp _ a _=>laE n a
 |n+1,.Compare a _ cs _=>laE n a++cs.flatMap (laE n)
 |n+1,.Tuple es _ _=>es.flatMap (laE n)
 |n+1,.List es _=>es.flatMap (laE n)
 |n+1,.Subscript a _ _=>laE n a
 |_,_=>[]
noncomputable def laS:Nat->vH->Wp wX
 |0,_=>[]
 |n+1,.Return (Gc e) _=>laE 30 e
 |n+1,.Assign ts e _=>laE 30 e
 |n+1,.Expr e _=>laE 30 e
 |n+1,.If t a b _=>laE 30 t++a.flatMap (laS n)++b.flatMap (laS n)
 |n+1,.For _ it a b _=>laE 30 it++a.flatMap (laS n)++b.flatMap (laS n)
 |n+1,.While t a b _=>laE 30 t++a.flatMap (laS n)++b.flatMap (laS n)
 |_,_=>[]
noncomputable def rV(st:vH)(k:Nat):wX:=((Ar st).flatMap (laS 20)).getD k (AB st)
def lsM{N:Wp Str}{osc:wX}{N':Wp Str}{Jg:Wp Nat}{sc:wX}(a:zn (sc.kind=.function) ww)(b:zn (sc.isCoroutine=false) ww)(c:zn (sc.isGenerator=false) ww)(d:zn (∀y∈sc.names,y.2≠.cell) wS)(e:zn (∀y∈sc.names,y.2=.free->osc.names.lookup y.1=Gc .cell) wS)(f:zn (Jg.length=N'.length) ww)(g:zn (∀z∈N'.zip Jg,N[z.2]?=Gc z.1/\osc.names.lookup z.1=Gc .cell/\sc.names.lookup z.1=Gc .free) wS):LV N osc N' Jg sc:=⟨a,b,c,d,e,f,g⟩
end Mi
end
noncomputable section
namespace Mi
open PySem PySem.Spec L2 PyProof.Rows
structure Lo(X:Cx)(pins:Wp (uf×Obj))(lo:uf):Prop where
 s0:X.s₀.heap.objs.size<=lo
 loc:X.env.locals<lo
 cel:∀x c,X.env.cells.lookup x=Gc c->c<lo
 pin:∀p∈X.pn++pins,p.1<lo
def _root_.L2.Inv.lo(I:Inv X pins σ H s):Lo X pins s.heap.objs.size:=⟨I.sz,I.lt,λx c e=>by
 obtain⟨v,o,ho,_⟩:=I.cell x c e
 exact uj ho,λp hp=>uj (I.pin p hp).1⟩
def _root_.L2.Inv.adopt(I:Inv X pins σ H s){lo a:uf}{o:HO}(b:Lo X pins lo)(la:lo<=a)(hn:H a=none)(new:CT X.prog X.w (upd H a o) s.heap a o):Inv X pins σ (upd H a o) s:=by
 have ne:∀b u,H b=Gc u->b≠a:=λb u e z=>by rw[z,hn]at e;cases e
 refine I.step (g':=s.gens) (d':=s.drawn) (t':=s.toks) (h':=s.heap) (ch:=[a]) (λb' hb=>?_) (λ_ _ _ _ _ e _=>e) (λb o _ _ _ e _=>⟨o.slots,e⟩) (λb o hc e n=>?_)
  (λb o _ e=>⟨o,e⟩) (λb xs e=>by rw[AM (ne b _ e)];exact e) (λb o u e=>by rw[AM (ne b _ e)];exact e) (λb ps e=>⟨#[],by rw[AM (ne b _ e),e];simp⟩) (λ_ m=>m) (λb u e=>?_) I.bare
 .have e:b'=a:=by simpa using hb
  subst e
  exact⟨.inr (uZ b.s0 la),zA (uU b.loc la),λx c e=>vE (uU (b.cel x c e) la),λp hp=>vE (uU (b.pin p hp) la)⟩
 .rw[AM (λz=>hc (by simp[z]))];exact n
 .by_cases hb:b=a
  .subst hb;rw[AX]at e;cases e;exact new
  .rw[AM hb]at e
   exact(I.hok b u e).Rh (λc v _ q=>q) (λc q=>by rw[AM (ne c _ q)];exact q) λc xs q=>by rw[AM (ne c _ q)];exact q
end Mi
end
noncomputable section
namespace Mi
open PySem PySem.Spec L2
section
variable{A:wy}{E:uX->ui->Prop}{h:vq}{t:Nat}{os:OsState}
variable{nm q:Str}{C N:uf}{sub:Wp uX}{ab:vZ}{col:uR vZ}{dd:uR uf}{k0 k1 k2 k3 k5:uR uX}
structure Ys(h h':vq)(e t:uf)(C:uf)(args:Wp uX):Prop where
 keeps:∀b o,h.get? b=Gc o->h'.get? b=Gc o
 new:h.get? e=none
 le:h.objs.size<=e
 obj:h'.get? e=Gc {cls:=.ref C,data:=.fields #[.ref t,.none,.none,.none,.bool false,.none]}
def TX(F:ExcBaseFacts B newId initId bmB)(T:OwnTail h bmB bm){rest:Wp uX}(hC:h.get? C=Gc (excClassObj nm q C N bs bm hdct sn sub ab col dd k0 k1 k2 k3 k5 newId))(hn:h.Ns N mN)(hi:mN "__init__"=Gc (.ref fI))(hfI:h.get? fI=Gc oI)(hfc:oI.cls=.type "function")(hq:∀h' e t',Ys h h' e t' C rest->wpAny (model prog w) A (call (.ref fI) (.ref e::rest)) (λr s'=>r=.none/\Q (.done (.ret (.ref e))) s') E ⟨h',g,d,t,os⟩)(hrest:rest.length<=sizeLine):wpAny (model prog w) A (zK.«type.__call__» ⟨.ref C::rest,[]⟩) Q E ⟨h,g,d,t,os⟩:=by
 repeat (first|with_reducible refine yY hC ?_|with_reducible refine wpAny_madeBy_exc hC ?_|wp_step)
 refine codeAny_call_builtin_code (ACJ _ F.quiet) (wpAny_check_new_subT F T hC ?_)
 refine codeAny_exc_new_subT F T hC ?_ hrest
 show wpAny _ _ _ _ _ _
 generalize hH:(h.push {cls:=.type "tuple",data:=.seq rest.toArray}).push {cls:=.ref C,data:=.fields #[.ref h.objs.size,.none,.none,.none,.bool false,.none]}=h1
 have up:∀b o,h.get? b=Gc o->h1.get? b=Gc o:=λb o z=>by
  rw[<-hH];exact uQ _ (uQ _ z)
 have ob:h1.get? (h.objs.size+1)=Gc {cls:=.ref C,data:=.fields #[.ref h.objs.size,.none,.none,.none,.bool false,.none]}:=by
  rw[<-hH];heap_get
 have cC:(u5 C::bm).contains (.ref C)=true:=by simp
 have c1:=up _ _ hC
 unfold isInstance
 repeat (first|with_reducible refine yY ob ?_|(with_reducible refine ABz c1 ?_;rw[cC])|wp_step)
 show wpAny _ _ (typeLookup (.ref C) _) _ _ _
 refine wpAny_typeLookup_tail c1 (hn.keeps up) (T.keeps up) F.mroIs F.init.lookup ?_
 rw[hi]
 refine vw (uP ?_)
 unfold bindSpecial
 refine uP (AA5 (T:="function") ⟨_,up _ _ hfI,hfc⟩ ?_)
 rw[vC (by decide)]
 refine ug (uP (vo (hq h1 (h.objs.size+1) h.objs.size ⟨up,ABW (AAf _),AAf _,ob⟩) (λr s' hr=>?_) λ_ _ x=>x))
 obtain⟨rfl,hQ⟩:=hr
 wp_walk
 exact hQ
def V2(F:ExcBaseFacts B newId initId bmB)(T:OwnTail h bmB bm){rest:Wp uX}(hC:h.get? C=Gc (excClassObj nm q C N bs bm hdct sn sub ab col dd k0 k1 k2 k3 k5 newId))(hn:h.Ns N mN)(hi:mN "__init__"=Gc (.ref fI))(hfI:h.get? fI=Gc oI)(hfc:oI.cls=.type "function")(hq:∀h' e t',Ys h h' e t' C rest->wpAny (model prog w) (A.under (.builtin "type.__call__" ⟨.ref C::rest,[]⟩)) (call (.ref fI) (.ref e::rest)) (λr s'=>r=.none/\Q (.ref e) s') E ⟨h',g,d,t,os⟩)(hrest:rest.length<=sizeLine):wpAny (model prog w) A (call (.ref C) rest) Q E ⟨h,g,d,t,os⟩:=by
 have f1:=tc_lookup
 have f2:=tc_bind (.ref C)
 have hT:(⟨h,g,d,t,os⟩:ui).TypeIs (.ref C) "type":=⟨_,hC,rfl⟩
 refine xt (codeAny_of_tree ?_)
 show wpAny _ _ (callAny (.ref C) _) _ _ _
 repeat (any_goals (first|assumption|with_reducible refine yY hC ?_|wp_step))
 refine⟨rfl,?_⟩
 refine codeAny_call_builtin_at (ACJ _ (by decide+kernel)) entry_typeCall (wpAny_check_type_call_sub hC (TX F T hC hn hi hfI hfc (λh' e t' hm=>?_) hrest))
 exact hq h' e t' hm
end
def R8(e C:uf)(h:vq):Prop:=∃vs a0,h.get? e=Gc {cls:=.ref C,data:=.fields vs}/\vs.size=6/\vs[0]?=Gc (.ref a0)/\vs[1]?=Gc .none
def Wq(e C dx:uf)(h:vq):Prop:=∃vs a0,h.get? e=Gc {cls:=.ref C,dict:=Gc dx,data:=.fields vs}/\vs.size=6/\vs[0]?=Gc (.ref a0)/\vs[1]?=Gc .none
def U8(x:R8 e C h):CT P w H h e (.ext (R8 e C)):=
 ⟨x,let⟨_,_,z,_⟩:=x;⟨_,z⟩,λ_ _ ⟨vs,a0,z,r⟩ k=>⟨vs,a0,k _ z,r⟩⟩
def bT(x:Wq e C dx h):CT P w H h e (.ext (Wq e C dx)):=
 ⟨x,let⟨_,_,z,_⟩:=x;⟨_,z⟩,λ_ _ ⟨vs,a0,z,r⟩ k=>⟨vs,a0,k _ z,r⟩⟩
def jX(e:H a=Gc o):upd H a o=H:=by
 funext b;unfold upd;split
 .rename_i z;rw[z,e]
 .rfl
def eF{X:Cx}{i k1 k2:Nat}{x a b:Str}{p1 p2 p3 p4 p5:Pos}(hN:X.N[i]?=Gc x)(hv:Vis X.env.scope x)(ha:a.length<=1000)(hb:b.length<=1000)(hd:zn ((x==("__debug__":Str))=false) xz)(hcd:zn ((x==("__classdict__":Str))=false) xz):PE X (.JoinedStr [.Constant (.str a) k1 p1,.FormattedValue (.Name x p2) (-1) none p3,.Constant (.str b) k2 p4] p5) (λσ H Q=>∃n,σ[i]?=Gc (Gc (.int n))/\n.natAbs.log2<1920/\∀y,Q (.str y) H):=by
 intro pins s σ H Q I h
 obtain⟨n,e,hl,q⟩:=h
 have ln:(u7 (toString n)).length<=1921:=by
  rw[ofString_length]
  exact int_text_length_le (by decide) hl
 refine PyProof.Rows.JoinedStr_many (yZ (thn (Nd pins s σ H (λv H1=>v=.str a/\H1=H) I ⟨rfl,rfl⟩) λu s1 z=>?_))
 obtain⟨v,H1,I1,r1,rfl,rfl⟩:=z
 obtain⟨t1,rfl⟩:=r1
 have l0:(Str.empty++a).length=a.length:=by rw[yu];simp[Str.empty,Str.length]
 refine⟨by rw[l0,xI];lia,yZ (PyProof.Rows.FormattedValue_plain (thn (IZ hN hv hd hcd pins s1 σ H1 (λv H2=>v=.int n/\H2=H1) I1 ⟨_,e,rfl,rfl⟩) λu s2 z=>?_))⟩
 obtain⟨v,H2,I2,r2,rfl,rfl⟩:=z
 obtain⟨t2,rfl⟩:=r2
 refine ACK hl ?_
 refine⟨by rw[yu,l0,xI];lia,?_⟩
 refine yZ (thn (Nd pins _ σ H2 (λv H3=>v=.str b/\H3=H2) ((I2.tok _).tok _) ⟨rfl,rfl⟩) λu s3 z=>?_)
 obtain⟨v,H3,I3,r3,rfl,rfl⟩:=z
 obtain⟨t3,rfl⟩:=r3
 refine⟨by rw[yu,yu,l0,xI];lia,?_⟩
 refine PyProof.Rows.joinParts_nil ⟨.str _,H3,I3.tok _,⟨_,rfl⟩,q _⟩ (by rw[yu,yu,l0,xI];lia)
section
variable{prog:va}{w:wG}{A:wy}{E:uX->ui->Prop}{s:ui}{K:W1}{x C TE:uf}{cd:ClassData}{name:Str}{vs:yo uX}
def aR(X:K.In s.heap)(hx:s.heap.get? x=Gc {cls:=.ref C,data:=.fields vs})(hc:yP K C=Gc cd)(ho:cd.mro=.ref C:: .ref TE::VEm)(hd:cd.hasDict=true)(hm:xr K C (.type "object")=Gc true)(ht:vA K (.ref C) name=Gc none)(h:∀h' tk (dx:uf),s.heap.objs.size<=dx->h'.get? x=Gc {cls:=.ref C,dict:=Gc dx,data:=.fields vs}->h'.Ns1 dx (λy=>if y=name then Gc v else none)->(∀b o,b≠x->s.heap.get? b=Gc o->h'.get? b=Gc o)->R (.ok (.ret .none)) {s with heap:=h',toks:=tk}):codeAny (model prog w) A (.call (.builtin "object.__setattr__") ⟨[.ref x,.str name tk,v],[]⟩) R s:=by
 have J:zC s.heap x {cls:=.ref C,data:=.fields vs} C none:=⟨hx,rfl,rfl,trivial⟩
 have SF:=PySem.F.store_object
 have sub:zg (model prog w) s.heap (isInstance (.ref x) (.type "object")) true:=J.type.andThen (AB0 X hm)
 have mr:zg (model prog w) s.heap (mroOf (.ref C)) cd.mro:=(z6 X hc).andThen .now
 refine zm SF.slot.plain SF.entry (@ACL (model prog w) _ _ _ "object.__setattr__" "object" "__setattr__" (.ref x) [.str name tk,v] [] _ SF.kind SF.split sub (SF.args (.ref x) (.str name tk) v) ?_)
 rw[PySem.W.osa_eq,refuse_eq]
 refine uP (uP (J.type.here (uP (mr.here ?_))))
 rw[ho,refuseLoop_ref,refuseLoop_ref,show refuseLoop (.ref x) "__setattr__" VEm=pure ()from PySem.F.store_ValueError.passes (.ref x)]
 refine ug (uP (J.type.here (uP ((zk X ht).here (uP (ug ?_))))))
 have xs:x≠s.heap.objs.size:=vE (uj hx)
 have hx1:(s.heap.push {cls:=.type "dict",data:=.dict #[]}).get? x=Gc {cls:=.ref C,data:=.fields vs}:=uQ _ hx
 refine uP (ug (uP (uP (wpAny_loadPart hx (uP ((z6 X hc).here ?_))))))
 rw[hd]
 refine(show wpAny (model prog w) A.in1 (alloc {cls:=.type "dict",data:=.dict #[]} >>= _) _ _ s from uP (wpAny_alloc' ?_))
 refine uP (wpAny_update' hx1 (ug ?_))
 have hf:=(Heap.get?_some_iff.mp hx).2
 generalize hG:(s.heap.push {cls:=.type "dict",data:=.dict #[]}).update x (λo=>{o with dict:=Gc s.heap.objs.size})=g1
 have gx:g1.get? x=Gc {cls:=.ref C,dict:=Gc s.heap.objs.size,data:=.fields vs}:=by
  rw[<-hG];exact wB _ hx1 rfl
 have gd:g1.get? s.heap.objs.size=Gc {cls:=.type "dict",data:=.dict #[]}:=by
  rw[<-hG];exact(AB1 _ _ _ _ xs.symm).trans (Heap.get?_push_at rfl rfl)
 have gk:∀b o,b≠x->s.heap.get? b=Gc o->g1.get? b=Gc o:=λb o n z=>by
  rw[<-hG];exact(AB1 _ _ _ _ n).trans (uQ _ z)
 have nd:g1.Ns s.heap.objs.size (λ_=>none):=⟨_, #[],_,gd,rfl,λe he=>absurd he (by simp),λ_=>rfl⟩
 show wpAny _ _ (zc s.heap.objs.size (.str name tk) name v) _ _ _
 unfold zc Builtin.ObjectAttr.newKeyGuard
 refine uP (ug (uP (wpAny_nsSet1 (Heap.Ns1.of_empty nd) λh' hn' hs=>?_)))
 obtain⟨oD,esD,epD,hoD,hdD,hcD⟩:=hn'.count (Within.cons name v Within.nil)
 refine uP (wpAny_lookBehind hoD (by rw[hdD];exact pastItsLine_dict (uZ hcD (by rw[vG,xf,xI];lia))) ?_)
 refine ug (h h' _ s.heap.objs.size (uc _) ((hs.2 x xs).trans gx) hn' λb o n z=>(hs.2 b (vE (uj z))).trans (gk b o n z))
def d6(X:K.In s.heap)(hx:s.heap.get? x=Gc {cls:=.ref C,data:=.fields vs})(hs:vA K (.ref C) "__setattr__"=Gc (Gc (.builtin "object.__setattr__")))(hc:yP K C=Gc cd)(ho:cd.mro=.ref C:: .ref TE::VEm)(hd:cd.hasDict=true)(hm:xr K C (.type "object")=Gc true)(ht:vA K (.ref C) name=Gc none)(h:∀h' tk (dx:uf),s.heap.objs.size<=dx->h'.get? x=Gc {cls:=.ref C,dict:=Gc dx,data:=.fields vs}->h'.Ns1 dx (λy=>if y=name then Gc v else none)->(∀b o,b≠x->s.heap.get? b=Gc o->h'.get? b=Gc o)->Q () {s with heap:=h',toks:=tk}):wpAny (model prog w) A (setAttr (.ref x) name v) Q E s:=
 PySem.W.set_plain X (⟨hx,rfl,rfl,trivial⟩:zC s.heap x {cls:=.ref C,data:=.fields vs} C none) hs (aR (s:={s with toks:=s.toks+1}) X hx hc ho hd hm ht λh' tk dx a b c d=>h h' tk dx a b c d)
end
section
variable{prog:va}{w:wG}{E:uX->ui->Prop}{h:vq}{g:yo GenState}{d:Drawn}{os:OsState}
variable{nm q:Str}{C N:uf}{ab:vZ}{col:uR vZ}{dd:uR uf}
def Vr(T:OwnTail h VEm bm)(hC:h.get? C=Gc (excClassObj nm q C N bs bm hdct sn sub ab col dd k0 k1 k2 k3 k5 "ValueError.__new__"))(he:h.get? e=Gc {cls:=.ref C,data:=.fields vs})(hz:vs.size=6)(h0:vs[0]?=Gc (.ref t0))(hq:∀h' tt,(∀b o,b≠e->h.get? b=Gc o->h'.get? b=Gc o)->h'.get? e=Gc {cls:=.ref C,data:=.fields (vs.setIfInBounds 0 (.ref tt))}->Q .none ⟨h',g,d,t,os⟩):wpAny (model prog w) A (call (.builtin "ValueError.__init__") [.ref e,u]) Q E ⟨h,g,d,t,os⟩:=by
 have F:=yA
 refine xt (zm F.init.plain F.initEntry (wpAny_check_init_subT F T hC he rfl ?_))
 wp_walk
 have e1:(h.push {cls:=.type "tuple",data:=.seq #[u]}).get? e=Gc {cls:=.ref C,data:=.fields vs}:=uQ _ he
 rw[h0]
 refine ug (uP (x8 e1 rfl (by rw[hz];decide) (ABa (ug ?_))))
 refine hq _ h.objs.size (λb o n z=>?_) ?_
 .rw[vn _ _ (vh n)]
  exact uQ _ z
 .exact wB _ e1 rfl
end
structure XiD(K:W1)(C TE fI:uf):Prop where
 cls:∃nm q N bs sn sub ab col dd k0 k1 k2 k3 k5,K.lookup C=Gc (excClassObj nm q C N bs (.ref TE::VEm) true sn sub ab col dd k0 k1 k2 k3 k5 "ValueError.__new__")/\ABj K N=true/\vF K N "__init__"=Gc (Gc (.ref fI))
 tail:ABk K VEm (.ref TE::VEm)=true
 sa:vA K (.ref C) "__setattr__"=Gc (Gc (.builtin "object.__setattr__"))
 ob:xr K C (.type "object")=Gc true
 at_:vA K (.ref C) "at"=Gc none
 sp:zD K (.ref TE) "__getattribute__"=Gc (Gc (.builtin "type.__getattribute__"))
 rd:PySem.W.readsIn K TE (.type "type")=true
 fc:PySem.W.findCls K (.ref TE) (.type "type") "__init__"=Gc (.val (.builtin "ValueError.__init__"))
section
variable{X:Cx}{C TE fI:uf}{B:Str}{p1 p2 p3 p4 p5 p6 p7 p8 p9 p10:Pos}{k1 k2:Nat}{a b:Str}
def XB (D:XiD X.K C TE fI)(hB:X.mg B=Gc (.ref TE))(hg:Gl X B)(hN:X.N=([("self" : Str),("at" : Str)]:Wp Str))(v0:Vis X.env.scope "self")(v1:Vis X.env.scope "at")(ha:a.length ≤ 1000)(hb:b.length ≤ 1000)(hdb:(B == ("__debug__" : Str))=false)(ht:eval (.Call (.Attribute (.Name B p1) "__init__" p2) [.Name "self" p3,.JoinedStr [.Constant (.str a) k1 p4,.FormattedValue (.Name "at" p5) (-1) none p6,.Constant (.str b) k2 p7] p8] [] p9) X.env=(do
      let ov ← eval (.Name B p1) X.env
      standAt p2.atName
      let (f, first) ← holding [ov] (getMethod ov "__init__" pl)
      callWith p9 f first (backTo p9 (ue [.Name "self" p3, .JoinedStr [.Constant (.str a) k1 p4, .FormattedValue (.Name "at" p5) (-1) none p6, .Constant (.str b) k2 p7] p8] X.env)) (backToKw p9 (keywordEach [] X.env)))) :
    PE X (.Call (.Attribute (.Name B p1) "__init__" p2) [.Name "self" p3, .JoinedStr [.Constant (.str a) k1 p4, .FormattedValue (.Name "at" p5) (-1) none p6, .Constant (.str b) k2 p7] p8] [] p9)
      (λσ H Q=>∃e n,σ[0]?=Gc (Gc (.ref e))/\σ[1]?=Gc (Gc (.int n))/\n.natAbs.log2<1920/\H e=Gc (.ext (R8 e C))/\Q .non H):=by
  intro pins s σ H Q I h
  obtain⟨e,n,e0,e1,hn,he,q⟩:=h
  refine yQ (pl:=pl) (H0 I hg hB ?_ hdb) ht
  refine PySem.W.method_cls I.kIn D.sp (PySem.W.cls_value I.kIn D.rd D.fc (by decide +kernel) ?_)
  have I0:=I.tok (s.toks + 1)
  have A:=F5 (IZ (X:=X) (i:=0) (x := "self") (pos:=p3) (by rw[hN];rfl) v0) (F5 (eF (X:=X) (i:=1) (x := "at") (a:=a) (b:=b) (k1:=k1) (k2:=k2) (p1:=p4) (p2:=p5) (p3:=p6) (p4:=p7) (p5:=p8) (by rw[hN];rfl) v1 ha hb) NU)
  refine zI rfl (xj (thn (A p9 pins _ σ H (fun vs H1 => ∃ y, vs = [.ref e, .str y] /\ H1 = H) I0 ⟨_, e0, n, e1, hn, fun y => ⟨y, rfl, rfl⟩⟩) fun us s1 z => ?_))
  obtain⟨vs,H1,I1,rv,y,rfl,rfl⟩:=z
  cases rv with
  | cons r0 rv =>
  cases rv with
  | cons r1 rv =>
  cases rv
  obtain rfl:=r0
  obtain⟨ws,t0,o1,o2,o3,o4⟩:=(I1.hok e _ he).1
  obtain⟨nm,qn,N,bs,sn,sub,ab,col,dd,k0,kk1,kk2,k3,k5,lk,ok,_⟩:=D.cls
  obtain⟨hp,g,d,tk,os⟩:=s1
  refine Vr (AAX I1.kIn D.tail) (I1.kIn _ _ lk) o1 o2 o3 fun h' tt kp ob => ?_
  have w:=I1.write (x:=e) (e:=e) (o:=.ext (R8 e C)) (t':=tk) (by rw[he];trivial) (.inl rfl) kp ⟨_,ob⟩ (U8 ⟨_,tt,ob,by simp[o2],by simp[o2],by rw[zS (by decide)];exact o4⟩)
  rw [jX he] at w
  exact ⟨.non, H1, w, rfl, q⟩
def pN(D:XiD X.K C TE fI)(hN:X.N=([("self":Str),("at":Str)]:Wp Str))(v0:Vis X.env.scope "self")(v1:Vis X.env.scope "at")(hs:swapsWith (.Name "at" p3) (Gc (.Attribute (.Name "self" p1) "at" p2)) p4.line X.env=pure false):PS X (.Assign [.Attribute (.Name "self" p1) "at" p2] (.Name "at" p3) p4) (λD σ H=>∃e n,σ[0]?=Gc (Gc (.ref e))/\σ[1]?=Gc (Gc (.int n))/\H e=Gc (.ext (R8 e C))/\∀dx,H dx=none->dx≠e->D.nx σ (upd (upd H e (.ext (Wq e C dx))) dx (.xd [("at",.int n)]))):=by
 intro pins s σ H DD I h
 obtain⟨e,n,e0,e1,he,q⟩:=h
 refine zR (thn (IZ (X:=X) (i:=1) (x:="at") (by rw[hN];rfl) v1 (by decide) (by decide) pins s σ H (λv H1=>v=.int n/\H1=H) I ⟨_,e1,rfl,rfl⟩) λu s1 z=>?_) hs
 obtain⟨v,H1,I1,ru,rfl,rfl⟩:=z
 refine thn (IZ (X:=X) (i:=0) (x:="self") (by rw[hN];rfl) v0 (by decide) (by decide) pins s1 σ H1 (λv H2=>v=.ref e/\H2=H1) I1 ⟨_,e0,rfl,rfl⟩) λov s2 z=>?_
 obtain⟨v,H2,I2,rv,rfl,rfl⟩:=z
 obtain rfl:ov=u5 e:=rv
 obtain⟨ws,t0,o1,o2,o3,o4⟩:=(I2.hok e _ he).1
 obtain⟨nm,qn,N,bs,sn,sub,ab,col,dd,k0,kk1,kk2,k3,k5,lk,ok,_⟩:=D.cls
 have lo:=I2.lo
 refine d6 I2.kIn o1 D.sa (show yP X.K C=Gc _ from by unfold yP;rw[lk]) rfl rfl D.ob D.at_ λh' tk dx le ob ns kp=>?_
 have hn:=I2.hok.fresh le
 have ne:dx≠e:=λz=>by rw[z,he]at hn;cases hn
 have w:=I2.write (x:=e) (e:=e) (o:=.ext (Wq e C dx)) (t':=tk) (by rw[he];trivial) (.inl rfl) kp ⟨_,ob⟩ (bT ⟨_,t0,ob,o2,o3,o4⟩)
 have w2:=w.adopt lo le (o:=.xd [("at",.int n)]) (by rw[AM ne];exact hn) ⟨_,ns,λf=>?_⟩
 .exact⟨σ,_,w2,q dx hn ne⟩
 .by_cases z:f="at"
  .subst z
   simp only[zf]
   rw[show vk ("at":Str) [(("at":Str),V.int n)]=Gc (.int n)from by simp[vk]]
   exact ru
  .simp only[z,AAN]
   rw[show vk f [(("at":Str),V.int n)]=none from by
    have:(f==("at":Str))=false:=by simpa using z
    simp[vk,this]]
   trivial
end
abbrev sAt:Wp Str:=[("self":Str),("at":Str)]
noncomputable def t1I(C:uf):L2.TE:=λσ H Q=>∃(e:uf) (n:Int),σ[0]?=Gc (Gc (.ref e))/\σ[1]?=Gc (Gc (.int n))/\n.natAbs.log2<1920/\H e=Gc (.ext (R8 e C))/\Q .non H
noncomputable def t2I(C:uf):TS:=λD σ H=>∃(e:uf) (n:Int),σ[0]?=Gc (Gc (.ref e))/\σ[1]?=Gc (Gc (.int n))/\H e=Gc (.ext (R8 e C))/\∀dx,H dx=none->dx≠e->D.nx σ (upd (upd H e (.ext (Wq e C dx))) dx (.xd [("at",.int n)]))
noncomputable def spI(C:uf):Sp:=λvs H Q _=>∃(e:uf) (n:Int),vs=[.ref e,.int n]/\n.natAbs.log2<1920/\H e=Gc (.ext (R8 e C))/\∀dx,H dx=none->dx≠e->Q .non (upd (upd H e (.ext (Wq e C dx))) dx (.xd [("at",.int n)]))
structure XiF(P:va)(w:wG)(K:W1)(mg:Str->uR uX)(base:vq)(x:Str):Prop where
 ex:∃C TE fI fd,mg x=Gc (.ref C)/\XiD K C TE fI/\K.lookup fI≠none/\(∃oc od sl,K.lookup fI=Gc ⟨oc,od,.func fd,sl⟩/\oc=.type "function")/\Binds K fd sAt []/\Ji P w K mg base CX0 1 fI fd sAt (spI C)
def aK(Fu:Fun K "__init__" qual st fI fd)(S:Aj sAt sAt (AB st))(hb:∀cdv A outer s H E,PSs (IW CX0 P w K mg base sAt qual (AB st) fI cdv A outer s H E).nox (Ar st) (pU (c7 (t1I C)) (t2I C))):Ji P w K mg base CX0 1 fI fd sAt (spI C):=by
 refine Fun.ok Fu S (λvs H Q E h=>?_) λcdv A outer s H vs Q E hr h=>⟨_,hb cdv A outer s H E,?_⟩
 .obtain⟨e,n,rfl,_⟩:=h
  rfl
 .obtain⟨e,n,rfl,hn,he,q⟩:=h
  exact⟨e,n,rfl,rfl,hn,he,e,n,rfl,rfl,he,λdx h1 h2=>q dx h1 h2⟩
def dU(X:K.In h)(G:h.Ns N mN)(e:vF K N x=Gc (Gc v)):mN x=Gc v:=by
 obtain⟨o,es,ep,ho,hd,_,hf⟩:=G
 unfold vF at e
 split at e
 .rename_i q
  have z:=X _ _ q
  rw[ho]at z
  cases z
  cases hd
  split at e
  .rename_i he
   rw[<-hf]
   unfold nsFind findBy
   rw[<-AB9,he]
   cases e
   rfl
  .split at e<;>cases e
 .cases e
section
variable{X:Cx}{pins:Wp (uf×Obj)}{σ:St}{H:Hp}{s:ui}
noncomputable def drp(H:Hp)(e:uf):Hp:=λb=>if b=e then none else H b
def az(I:Inv X pins σ H s)(he:H e=Gc (.ext φ)):Inv X pins σ (drp H e) s:=by
 have ne:∀b o,H b=Gc o->(∀φ,o≠.ext φ)->drp H e b=Gc o:=λb o q n=>by
  unfold drp
  rw[vB (λz=>by rw[z,he]at q;cases q;exact n _ rfl)]
  exact q
 have no:∀b,H b=none->drp H e b=none:=λb q=>by
  unfold drp
  split
  .rfl
  .exact q
 have B:=I.base
 refine⟨I.ok,I.os,I.bare,⟨B.keep,B.slot,λb o q n hx=>no b (B.free b o q n hx),B.there,λb xs q=>ne _ _ (B.T5 b xs q) (λ_ z=>nomatch z),λb o u q=>ne _ _ (B.R5 b o u q) (λ_ z=>nomatch z),λb ps q=>?_⟩,I.loc,I.cell,no _ I.free,λx c q=>no _ (I.HP x c q),λp m=>?_,λa o q=>?_,I.len⟩
 .obtain⟨more,z⟩:=B.TC b ps q
  exact⟨more,ne _ _ z (λ_ z=>nomatch z)⟩
 .obtain⟨p1,p2,p3⟩:=I.pin p m
  exact⟨p1,no _ p2,p3⟩
 .have q':H a=Gc o:=by
   unfold drp at q
   split at q
   .cases q
   .exact q
  exact(I.hok a o q').Rh (λ_ _ _ z=>z) (λb z=>ne _ _ z (λ_ w=>nomatch w)) λb xs z=>ne _ _ z (λ_ w=>nomatch w)
def iW{o1 o2:HO}(he:H e=none)(ne:dx≠e):drp (upd (upd (upd H e o1) e o2) dx o) e=upd H dx o:=by
 funext b
 unfold drp upd
 by_cases z:b=e
 .subst z
  rw[vC rfl,vB (vh ne),he]
 .rw[vB z]
  by_cases w:b=dx
  .rw[vC w,vC w]
  .rw[vB w,vB w,vB z,vB z]
def YD{C TE fI:uf}(D:XiD X.K C TE fI)(hf:∃oc od sl,X.K.lookup fI=Gc ⟨oc,od,.func fd,sl⟩/\oc=.type "function")(Bi:Binds X.K fd sAt [])(F:Ji X.prog X.w X.K X.mg X.base CX0 1 fI fd sAt (spI C))(hr:Cj 2 X.A)(hn:n.natAbs.log2<1920)(I:Inv X pins σ H s)(h:∀e dx s',s.heap.get? e=none->H e=none->H dx=none->dx≠e->Wq e C dx s'.heap->Inv X pins σ (upd H dx (.xd [("at",.int n)])) s'->Q (.ref e) s'):wpAny (model X.prog X.w) X.A (call (.ref C) [.int n tn]) Q E s:=by
 obtain⟨nm,qn,N,bs,sn,sub,ab,col,dd,k0,k1,k2,k3,k5,lk,ok,hi⟩:=D.cls
 obtain⟨oc,od,sl,lf,rfl⟩:=hf
 have KI:=I.kIn
 obtain⟨hp,g,d,tk,os⟩:=s
 refine V2 yA (AAX KI D.tail) (KI _ _ lk) (.of_isNs (AAW KI ok)) (dU KI (.of_isNs (AAW KI ok)) hi) (KI _ _ lf) rfl (λh1 e t' R=>?_) (by rw[xI];simp)
 have he:H e=none:=I.hok.fresh R.le
 have I1:Inv X pins σ (upd H e (.ext (R8 e C))) ⟨h1,g,d,tk,os⟩:=I.laid (t':=tk) (o:=.ext (R8 e C)) R.keeps R.le (U8 ⟨_,t',R.obj,rfl,rfl,rfl⟩)
 have bi:=Bi ⟨h1,g,d,tk,os⟩ [.ref e,.int n tn] I1.kIn rfl
 rw[vt]at bi
 refine xt (yf (F.run (X.A.under (.builtin "type.__call__" ⟨[.ref C,.int n tn],[]⟩)) X.stack ⟨h1,g,d,tk,os⟩ (upd H e (.ext (R8 e C))) ⟨[.ref e,.int n tn],[]⟩ [.ref e,.int n tn] [.ref e,.int n] (λv H'=>v=.non/\∃dx,upd H e (.ext (R8 e C)) dx=none/\dx≠e/\H'=upd (upd (upd H e (.ext (R8 e C))) e (.ext (Wq e C dx))) dx (.xd [("at",.int n)])) (λ_ _ _=>wH)
  (hr.make C _ _) (I1.Zr.make C _ _) bi (.cons rfl (.cons ⟨tn,rfl⟩ .nil)) ⟨e,n,rfl,hn,AX,λdx h1 h2=>⟨rfl,dx,h1,h2,rfl⟩⟩) λr s' hq=>?_)
 cases r with
 |error ev=>exact vX hq
 |ok fl=>
  cases fl with
  |ret u=>
   obtain⟨v,H',I2,rv,rfl,dx,hd,ne,rfl⟩:=I1.after hq
   cases rv
   have hx:H dx=none:=by rw[AM ne]at hd;exact hd
   have e2:upd (upd (upd H e (.ext (R8 e C))) e (.ext (Wq e C dx))) dx (.xd [("at",.int n)]) e=Gc (.ext (Wq e C dx)):=by rw[AM (vh ne),AX]
   have eD:=(I2.hok e _ e2).1
   have I3:=az I2 e2
   rw[iW he ne]at I3
   exact⟨rfl,h e dx s' R.new he hx ne eD I3⟩
  |next=>exact vX hq
  |brk=>exact vX hq
  |cont=>exact vX hq
end
def SU(hbase:bm.contains (.type "BaseException")=true)(hh:A.handled=none)(h:wpAny M A x (λv s1=>∃e od vs,v=.ref e/\s1.heap.get? C=Gc (excClassObj nm q C N bs bm hdct sn sub ab col dd k0 k1 k2 k3 k5 newId)/\s1.heap.get? e=Gc {cls:=.ref C,dict:=od,data:=.fields vs}/\vs[1]?=Gc .none/\E (.ref e) s1) E s):wpAny M A (raiseStmt env (Gc x) none) Q E s:=by
 have hcB:(u5 C::bm).contains (.type "BaseException")=true:=by rw[xU,hbase,Bool.or_true]
 unfold raiseStmt
 refine uP (vo h (λv s1 h1=>?_) λ_ _ z=>z)
 obtain⟨e,od,vs,rfl,hC,he,hv,hE⟩:=h1
 obtain⟨hp,g,d,tk,os⟩:=s1
 repeat (first|with_reducible refine yY he ?_|with_reducible refine yY hC ?_|(with_reducible refine ABz hC ?_;rw[hcB])|wp_step)
 rw[hv]
 refine ug ?_
 rw[vB (by decide)]
 exact ug (wpAny_raiseNew_none hh hE)
noncomputable def mJ(x:Str)(E:En)(q:D×Sto):uR (Tg×En×Sto):=match q.1 with
 | .int n=>if n.natAbs.log2<1920 then Gc (⟨x,Gc n⟩,E,q.2)else none
 |_=>none
noncomputable def Qz(x:Str)(f:Ev):Rx:=λE S=>(f E S).bind (mJ x E)
def WU{np cpos pos:Pos}(hc:X.calm=true)(xi:XiF X.prog X.w X.K X.mg X.base x)(hg:Gl X x)(hr:Cj 2 X.A)(ha:DE X a f)(hxe:zn (X.xe=λ_ _=>wH) ww)(hx:zn (X.ex=[]) ww)(hdb:zn ((x==("__debug__":Str))=false) xz)(he:zn (ue [a] X.env=[(false,eval a X.env)]) ww):RS X (.Raise (Gc (.Call (.Name x np) [a] [] cpos)) none pos) (Qz x f):=⟨by
 intro pins s σ H Z I h
 obtain⟨C,TE,fI,fd,hm,D,_,hf,Bi,F⟩:=xi.ex
 obtain⟨M,E,S,y,E',S',e0,r,st,q⟩:=h
 obtain⟨⟨d,S1⟩,e1,e2⟩:=Ac e0
 have hn:∃n:Int,d=.int n/\n.natAbs.log2<1920/\(y,E',S')=(⟨x,Gc n⟩,E,S1):=by
  unfold mJ at e2
  split at e2
  .rename_i n hd
   split at e2
   .rename_i hl
    cases e2
    exact⟨n,hd,hl,rfl⟩
   .cases e2
  .cases e2
 obtain⟨n,rfl,hl,ee⟩:=hn
 cases ee
 obtain⟨nm,qn,N,bs,sn,sub,ab,col,dd,k0,k1,k2,k3,k5,lk,ok,hi⟩:=id D.cls
 rw[arm_exec_Raise]
 refine uP (xH (SU (C:=C) (nm:=nm) (q:=qn) (N:=N) (bs:=bs) (bm:=.ref TE::VEm) (hdct:=true) (sn:=sn) (sub:=sub) (ab:=ab) (col:=col) (dd:=dd) (k0:=k0) (k1:=k1) (k2:=k2) (k3:=k3) (k5:=k5) (newId:="ValueError.__new__") (by rw[xU];exact xF.mpr (.inr (by decide+kernel))) (I.ok.hd hc) (uP (vo (wpAny_Call_ofName (H0 I hg hm ?_ hdb)) (λv s3 h3=>uP (xH (ug h3))) λ_ _ z=>z))))
 unfold callWith
 have KI:=I.kIn
 have aa:DEs X [a] [f]:=AD ha AI he
 have e1':evs [f] E S=Gc ([.int n],S'):=by
  show(f E S).bind (λr=>(evs [] E r.2).map λq=>(r.1::q.1,q.2))=_
  rw[e1];rfl
 have ha':=aa.pe cpos pins s σ H (λvs H1=>∃M1,Gr M H M1 H1/\StR X.K M1 S' H1/\Ae X.K M1 H1 vs [.int n]) I (Ee e1' r st λvs H1 M1 g1 st1 r1=>⟨M1,g1,st1,r1⟩)
 rw[he]at ha'⊢
 refine uP (vw (xj (EA hxe ha' λus s1 ⟨vs,H1,I1,rv,M1,g1,st1,r1⟩=>uP (xH ?_))))
 cases r1 with
 |cons r1 rn=>
 cases rn
 cases r1
 cases rv with
 |cons rv rw'=>
 cases rw'
 obtain⟨tn,rfl⟩:=rv
 have C1:=I1.kIn _ _ lk
 obtain⟨hp,g,d,tk,os⟩:=s1
 refine uP (wpAny_keeperOf_exc C1 ?_)
 refine uP (YD (E:=_) D hf Bi F hr hl I1 λe dx s' en ef dn ne eD I2=>uP (vw (wpAny_point (ug ?_))))
 obtain⟨ws,t0,o1,o2,o3,o4⟩:=eD
 refine⟨e,Gc dx,ws,rfl,I2.kIn _ _ lk,o1,o4,e,C,Gc dx,σ,_,rfl,I2,?_,?_,λz=>EZ I1 hx _ z en,_,ws,_,.none,o1,rfl,rfl,o3,o4,.inl rfl,λ_ z=>z⟩
 .exact q C (Gc dx) σ _ M1 ⟨hm,λm z=>⟨dx,rfl,by cases z;exact AX⟩⟩ (g1.trans (Gr.grow st1.mo (CS dn))) ((r.step g1.st).step (Gr.grow st1.mo (CS dn)).st) (st1.grow (CS dn))
 .rw[AM (vh ne)];exact ef⟩
section
variable{prog:va}{s:ui}
def Z7(X:K.In s.heap)(I:zC s.heap x ox C od)(hga:vA K (.ref C) "__getattribute__"=Gc (Gc (.builtin "BaseException.__getattribute__")))(hgg:vA K (.ref C) "__getattr__"=Gc none)(hb:xr K C (.type "BaseException")=Gc true)(hf:PySem.W.findObj K C od name=Gc (.value v))(hh:AAr v=true)(h:Q v {s with toks:=s.toks+1}):wpAny (model prog w) A (getAttr (.ref x) name expr) Q E s:=by
 have L0:=I.type (M:=model prog w)
 have L1:=zk (M:=model prog w) X hga
 have L2:zg (model prog w) s.heap (hookBefore (.ref C)) none:=PySem.W.looks_hook X (by rw[vC (show onTheHeap (u5 C)=true from rfl)];exact hgg)
 have L3:=PySem.W.looks_find (M:=model prog w) X I hf
 have nb:(AB5 "BaseException.__getattribute__" ==AB5 "object.__getattribute__")=false:=by decide+kernel
 have G:=PySem.F.attr_ValueError.ga
 refine uP (wpAny_mkText (vw (uP (L0 _ _ _ _ (λ_ _ e=>e) (uP (L1 _ _ _ _ (λ_ _ e=>e) ?_))))))
 dsimp only
 rw[nb,AAS,vB (by decide)]
 refine uP (L2 _ _ _ _ (λ_ _ e=>e) (uP (AB4 (vw ?_))))
 unfold callGetattribute
 rw[show(expr && onTheHeap (AB5 "BaseException.__getattribute__"))=false from AAS _,vB (by decide)]
 unfold boundAndCalled
 rw[G.bind]
 refine uP (ug ?_)
 show wpAny _ _ (call (.builtin "BaseException.__getattribute__") [.ref x,.str name s.toks]) _ _ _
 refine xt (zm G.plain PySem.F.entry_bexc_ga ?_)
 refine @ACL (model prog w) _ _ {s with toks:=s.toks+1} "BaseException.__getattribute__" "BaseException" "__getattribute__" (.ref x) [.str name s.toks] [] _ (by decide+kernel) (by decide+kernel) (L0.andThen (AB0 X hb)) (PySem.F.args_bexc_ga (.ref x) (.str name s.toks)) ?_
 unfold zK.«object.__getattribute__»
 refine uP (ug (uP (ug (uP (L0 _ _ _ _ (λ_ _ e=>e) (uP (L3 _ _ _ _ (λ_ _ e=>e) ?_)))))))
 refine ug ?_
 show wpAny _ _ (handedOut v) _ _ _
 rw[PySem.W.handedOut_of hh]
 exact ug h
end
structure XaD(K:W1)(C:uf):Prop where
 cls:∃cd,yP K C=Gc cd/\cd.hasDict=true
 at_:vA K (.ref C) "at"=Gc none
 ga:vA K (.ref C) "__getattribute__"=Gc (Gc (.builtin "BaseException.__getattribute__"))
 gg:vA K (.ref C) "__getattr__"=Gc none
 bx:xr K C (.type "BaseException")=Gc true
section
variable{X:Cx}{σ:St}{s:ui}
def TN(I:Inv X pins σ H s)(hn:h'.Ns X.env.locals m')(sb:yE X.env.locals s.heap h'):Inv X pins (σ.map λ_=>none) H {s with heap:=h',toks:=t'}:=by
 have kp:∀b o,b≠X.env.locals->s.heap.get? b=Gc o->h'.get? b=Gc o:=λb o n q=>(sb.2 b n).trans q
 have B:=I.base
 have nl:∀b o,X.s₀.heap.get? b=Gc o->b≠X.env.locals:=λb o q=>vE (uU (uj q) I.ok.above)
 have cl:∀c v,c≠X.env.locals->s.heap.IsCell c v->h'.IsCell c v:=λc v n ⟨o,q,d⟩=>⟨o,kp c o n q,d⟩
 refine⟨I.ok,I.os,I.bare,⟨λb o q n hb hx=>kp b o (nl b o q) (B.keep b o q n hb hx),λb o q n hb hx=>?_,B.free,λb o q hx=>?_,B.T5,B.R5,B.TC⟩,⟨m',hn,λi x v _ e2 _=>?_⟩,λx c q=>?_,I.free,I.HP,λp m=>?_,λa o q=>?_,by rw[vN];exact I.len⟩
 .obtain⟨sl,z⟩:=B.slot b o q n hb hx
  exact⟨sl,kp b _ (nl b o q) z⟩
 .obtain⟨o',z⟩:=B.there b o q hx
  exact⟨o',kp b _ (nl b o q) z⟩
 .rw[um]at e2
  cases z:σ[i]? with
  |none=>rw[z]at e2;cases e2
  |some w=>rw[z]at e2;cases e2
 .obtain⟨v,z⟩:=I.cell x c q
  exact⟨v,cl c v (I.cne x c q) z⟩
 .obtain⟨p1,p2,p3,p4⟩:=I.pin p m
  exact⟨kp _ _ p3 p1,p2,p3,p4⟩
 .refine(I.hok a o q).Rh (λb u hb z=>kp b u (λw=>?_) z) (λ_ z=>z) λ_ _ z=>z
  have fr:=I.free
  rcases hb with rfl|hb
  .rw[w,fr]at q;cases q
  .rw[w,fr]at hb;cases hb
def Ui(I:Inv X pins σ H s)(hn:H a=none)(h0:X.s₀.heap.get? a=none)(hl:a≠X.env.locals)(hc:∀x c,X.env.cells.lookup x=Gc c->c≠a)(hp:∀p∈X.pn++pins,p.1≠a)(new:CT X.prog X.w (upd H a o) s.heap a o):Inv X pins σ (upd H a o) s:=by
 have ne:∀b u,H b=Gc u->b≠a:=λb u e z=>by rw[z,hn]at e;cases e
 have B:=I.base
 have n0:∀b u,X.s₀.heap.get? b=Gc u->b≠a:=λb u e z=>by rw[z,h0]at e;cases e
 refine⟨I.ok,I.os,I.bare,⟨B.keep,B.slot,λb u q n hx=>?_,B.there,λb xs q=>?_,λb u w q=>?_,λb ps q=>?_⟩,I.loc,I.cell,?_,λx c q=>?_,λp m=>?_,λb u q=>?_,I.len⟩
 .rw[AM (n0 b u q)];exact B.free b u q n hx
 .have z:=B.T5 b xs q
  rw[AM (ne _ _ z)];exact z
 .have z:=B.R5 b u w q
  rw[AM (ne _ _ z)];exact z
 .obtain⟨more,z⟩:=B.TC b ps q
  exact⟨more,by rw[AM (ne _ _ z)];exact z⟩
 .rw[AM (vh hl)];exact I.free
 .rw[AM (hc x c q)];exact I.HP x c q
 .obtain⟨p1,p2,p3⟩:=I.pin p m
  exact⟨p1,by rw[AM (hp p m)];exact p2,p3⟩
 .by_cases hb:b=a
  .subst hb;rw[AX]at q;cases q;exact new
  .rw[AM hb]at q
   exact(I.hok b u q).Rh (λ_ _ _ z=>z) (λc z=>by rw[AM (ne _ _ z)];exact z) λc xs z=>by rw[AM (ne _ _ z)];exact z
def fB(e C dx:uf)(h:vq):Prop:=∃oe vs,h.get? e=Gc oe/\oe.cls=.ref C/\oe.data=.fields vs/\oe.dict=Gc dx
def dH(x:fB e C dx h):CT P w H h e (.ext (fB e C dx)):=
 ⟨x,let⟨_,_,z,_⟩:=x;⟨_,z⟩,λ_ _ ⟨oe,vs,z,r⟩ k=>⟨oe,vs,k _ z,r⟩⟩
noncomputable def tAt(i:Nat)(C:uf):L2.TE:=λσ H Q=>∃(ea dx:uf) (n:Int),σ[i]?=Gc (Gc (.ref ea))/\H ea=Gc (.ext (fB ea C dx))/\H dx=Gc (.xd [("at",.int n)])/\Q (.int n) H
def mh{p1 p2:Pos}(D:XaD X.K C)(hN:X.N[i]?=Gc x)(hv:Vis X.env.scope x)(hd:zn ((x==("__debug__":Str))=false) xz)(hcd:zn ((x==("__classdict__":Str))=false) xz)(hb:zn (attributeBase (.Name x p1) "at" X.env (eval (.Name x p1) X.env)=eval (.Name x p1) X.env) ww):PE X (.Attribute (.Name x p1) "at" p2) (tAt i C):=by
 intro pins s σ H Q I h
 obtain⟨ea,dx,n,e0,h1,h2,q⟩:=h
 refine WV hb (thn (IZ hN hv hd hcd pins s σ H (λv H1=>v=.ref ea/\H1=H) I ⟨_,e0,rfl,rfl⟩) λu s1 z=>?_)
 obtain⟨v,H1,I1,rv,rfl,rfl⟩:=z
 obtain rfl:u=u5 ea:=rv
 obtain⟨oe,vs,o1,o2,o3,o4⟩:=(I1.hok ea _ h1).1
 obtain⟨mA,ns,ra⟩:=I1.hok dx _ h2
 obtain⟨od,hod,hl⟩:=QD ns
 have rat:=ra "at"
 rw[show vk ("at":Str) [(("at":Str),V.int n)]=Gc (.int n)from by simp[vk]]at rat
 cases hm:mA "at" with
 |none=>rw[hm]at rat;exact rat.elim
 |some v=>
  rw[hm]at rat
  obtain⟨tk,rfl⟩:=rat
  obtain⟨cd,hc,hdct⟩:=D.cls
  have J:zC s1.heap ea oe C (Gc od):=⟨o1,o2,by unfold PySem.W.notCls;rw[o3],by rw[o4];exact hod⟩
  refine Z7 I1.kIn J D.ga D.gg D.bx (v:=.int n tk) ?_ rfl ⟨.int n,H1,I1.tok _,⟨_,rfl⟩,q⟩
  exact ABq (by unfold yU;rw[hc];simpa using hdct) D.at_ rfl (by rw[hl,hm])
end
noncomputable def gAs(xs:Wp Str)(y:Str)(f:Int->D)(g:Tg->Ex):Tg->Ex:=λx=>if x.nm∈xs then(if(x.nm==y)=true then(match x.pay with|some n=>AZ (eC (f n))|none=>CY)else g x)else CY
structure AtS(X:Cx)(i:Nat)(C:uf)(suite:Wp vH)(f:Int->D):Prop where
 pe:∃ts:TS,PSs X suite ts/\∀(ea dx:uf) (n:Int) (σ:St) (H:Hp) (D:Ends),σ[i]?=Gc (Gc (.ref ea))->H ea=Gc (.ext (fB ea C dx))->H dx=Gc (.xd [("at",.int n)])->(∀v H',(∀M S,StR X.K M S H->Gr M H M H'/\StR X.K M S H'/\BM X.K M H' v (f n))->D.rt v H')->ts D σ H
def oW{X:Cx}{xs:Wp Str}{y nme:Str}{i:Nat}{b₀:vH}{np pos:Pos}{rest:Wp yt}(xm:XmD X.K X.mg xs y)(xa:∀C,X.mg y=Gc (.ref C)->XaD X.K C)(hg:Gl X y)(nd:X.N.Nodup)(hN:X.N[i]?=Gc nme)(hl:X.env.kindOf nme=Gc .local)(hl2:X.env.scope.names.lookup nme=Gc .local)(hp:(X.env.scope.kind== .class||(X.env.scope.kind== .module && X.env.locals !=X.env.globals))=false)(hs:∀e C,XaD X.K C->AtS (Cx.mrk X e) i C (b₀::suite) f)(hr:HS X rest g)(hxe:zn (X.xe=λ_ _=>wH) ww)(hx:zn (X.ex=[]) ww)(hst:zn (X.stack=X.env::X.outer) ww)(hfr:zn (X.env.frame=Gc X.env.locals) ww)(hdb:zn ((y==("__debug__":Str))=false) xz):HS X (.ExceptHandler (Gc (.Name y np)) (Gc nme) (b₀::suite) pos::rest) (gAs xs y f g):=⟨by
 intro x C od pins s σ H D e tg I fl z
 have hm:=tg.1
 obtain⟨C',hm',hex⟩:=xm.ex
 have hin:x.nm∈xs:=by
  by_cases h:x.nm∈xs
  .exact h
  .obtain⟨M,E,S,fl,E',S',e,_⟩:=z
   unfold gAs at e
   rw[vB h]at e
   cases e
 have z':tX X.K (if(x.nm==y)=true then(match x.pay with|some n=>AZ (eC (f n))|none=>CY)else g x) D σ H:=by
  unfold gAs at z
  rw[vC hin]at z
  exact z
 have ex:=hex x.nm hin C hm
 obtain⟨oe,vs,a0,T,oT,ts,h1,h2,_⟩:=id fl.ex
 have LT:zg (model X.prog X.w) s.heap (typeOf (.ref e)) (.ref C):=by
  rw[<-h2];exact(PySem.W.Looks.ld h1).andThen .now
 refine ABx (ABT (xK I.ok.kind hg (y0 (by rw[I.ok.glob];exact I.mod.glob.keeps I.bk) hm' ?_) hdb)) (by intro q;cases q)
 refine PySem.W.exm_one I.kIn LT ex _ _ _ _ (λ_ _ q=>q) ?_
 cases hb:(x.nm==y)with
 |false=>
  rw[vB (by rw[hb];decide)]at z'
  exact hr.pe x C od pins s σ H D e tg I fl z'
 |true=>
  rw[vC hb]at z'
  have hy:X.mg y=Gc (.ref C):=by rw[<-eq_of_beq hb];exact hm
  obtain⟨M,E,S,fw,E',S',ee,rr,st,q⟩:=z'
  cases hpay:x.pay with
  |none=>rw[hpay]at ee;cases ee
  |some n=>
  rw[hpay]at ee
  obtain⟨dx,rfl,hdx⟩:=tg.2 n hpay
  refine codeAny_handlers_suite_as (PY I fl λh' t=>?_)
  have I':=VW (e:=e) (Q6 I hst hfr hx t)
  obtain⟨oe2,vs2,a2,T2,oT2,ts2,g1,g2,g3,_,_,_,g4⟩:=t.fly.ex
  refine MK (X:=Cx.mrk X e) (v:=.ref e) I' nd hN (.inl hl2) rfl (λs2 I2 sb=>?_) (.inr hl2)
  obtain⟨a,sm,ha⟩:=sb
  have fr:H e=none:=fl.free
  have cf:∀c v,s.heap.IsCell c v->c≠e:=λc v ⟨o,q1,q2⟩ w=>by
   subst w
   rw[h1]at q1
   cases q1
   rcases(id fl.ex)with⟨_,ws,_,_,_,_,w1,_,w3,_⟩
   rw[h1]at w1
   cases w1
   rw[w3]at q2
   cases q2
  have nl:e≠X.env.locals:=λw=>by
   obtain⟨m,⟨o',es,ep,q1,q2,_⟩,_⟩:=I'.loc
   rw[<-w,g1]at q1
   cases q1
   rw[g3]at q2
   cases q2
  have ea:e≠a:=by
   rcases ha with ha|ha
   .rw[ha];exact nl
   .obtain⟨v,w⟩:=I.cell nme a ha
    exact vh (cf a v w)
  have g1':s2.heap.get? e=Gc oe2:=(sm.2 e ea).trans g1
  have new:¬dA X pins e:=fl.new
  have s0:X.s₀.heap.get? e=none:=by
   cases w:X.s₀.heap.get? e with
   |none=>rfl
   |some o=>exact absurd (.inl (by rw[w];exact λz=>nomatch z)) new
  have J:=Ui I2 (o:=.ext (fB e C dx)) fr s0 nl (λx c w=>by
   obtain⟨v,w'⟩:=I.cell x c w
   exact cf c v w') (λp m w=>new (.inr ⟨p,m,w⟩)) (dH ⟨oe2,vs2,g1',g2,g3,g4 dx rfl⟩)
  obtain⟨tt,hp1,hp2⟩:=(hs e C (xa C hy)).pe
  have hi:i<σ.length:=by rw[I.len];exact(ua.mp hN).1
  have nx:dx≠e:=λw=>by rw[w,fr]at hdx;cases hdx
  refine EA (X:=Cx.mrk X e) hxe (hp1 pins s2 _ _ {nx:=λ_ _=>wH,rt:=D.rt} J (hp2 e dx n _ _ _ (uh hi) AX (by rw[AM nx];exact hdx) λv H' hv=>?_)) λfl3 s3 w=>?_
  .have gr:=Gr.grow st.mo (CS (o:=.ext (fB e C dx)) fr)
   obtain⟨k1,k2,k3⟩:=hv M S (st.grow (CS fr))
   cases ee
   exact q v H' M (gr.trans k1) k2 k3
  .cases fl3 with
   |ret u=>
    obtain⟨v,σ',H',J',rv,q'⟩:=w
    have J2:=HJ I.ok J'
    obtain⟨m,hn,_⟩:=J2.loc
    refine wpAny_nameGoes hl hn hp λh4 m4 hn4 sb4=>?_
    exact⟨v,_,H',TN J2 hn4 sb4,rv,q'⟩
   |next=>obtain⟨_,_,_,q'⟩:=w;exact q'.elim
   |brk=>obtain⟨_,_,_,q'⟩:=w;exact q'.elim
   |cont=>obtain⟨_,_,_,q'⟩:=w;exact q'.elim⟩
def bN{X:Cx}{i k kk:Nat}{x w:Str}{p1 p2 p3 p4 p5:Pos}(D:XaD X.K C)(hN:X.N[i]?=Gc x)(hv:Vis X.env.scope x)(hd:zn ((x==("__debug__":Str))=false) xz)(hcd:zn ((x==("__classdict__":Str))=false) xz)(hb:zn (attributeBase (.Name x p1) "at" X.env (eval (.Name x p1) X.env)=eval (.Name x p1) X.env) ww)(hs:zn (ue [.Constant (.str w) k p4,.Attribute (.Name x p1) "at" p2] X.env=(false,eval (.Constant (.str w) k p4) X.env)::ue [.Attribute (.Name x p1) "at" p2] X.env) ww)(hs2:zn (ue [.Attribute (.Name x p1) "at" p2] X.env=(false,eval (.Attribute (.Name x p1) "at" p2) X.env)::ue [] X.env) ww):AtS X i C [.Return (Gc (.Tuple [.Constant (.str w) k p4,.Attribute (.Name x p1) "at" p2] kk p5)) p3] (λn=>.tup [.str w,.int n]):=
 ⟨_,KR (Ry (Uu (F5 Nd (F5 (mh D hN hv hd hcd hb) NU hs2) hs))),λea dx n σ H Dn h1 h2 h3 h4=>⟨ea,dx,n,h1,h2,h3,by rw[xI];simp,λl hl=>h4 _ _ λM S st=>
   have gr:=CS (o:=.tup [.str w,.int n]) hl
   ⟨.grow st.mo gr,st.grow gr,.tup (.of AX) (.cons (.str w) (.cons (.int n) .nil))⟩⟩⟩
noncomputable def fV(s:vH)(k:Nat):vH:=match s with
 | .ClassDef _ _ _ b _ _ _ _ _ _ _=>b.getD k (.Pass ⟨0,0,0,0⟩)
 |_=>.Pass ⟨0,0,0,0⟩
structure XiR(K:W1)(mg:Str->uR uX)(x B qual:Str)(st:vH):Prop where
 ex:∃C TE fI fd,mg x=Gc (.ref C)/\mg B=Gc (.ref TE)/\XiD K C TE fI/\Fun K "__init__" qual st fI fd/\∃oc od sl,K.lookup fI=Gc ⟨oc,od,.func fd,sl⟩/\oc=.type "function"
 xa:∀C,mg x=Gc (.ref C)->XaD K C
def jL(r:XiR K mg x B qual st)(S:Aj sAt sAt (AB st))(bi:∀f fd,Fun K "__init__" qual st f fd->Binds K fd sAt [])(hb:∀C TE fI,XiD K C TE fI->mg B=Gc (.ref TE)->∀cdv A outer s H E,PSs (IW CX0 P w K mg base sAt qual (AB st) fI cdv A outer s H E).nox (Ar st) (pU (c7 (t1I C)) (t2I C))):XiF P w K mg base x:=by
 obtain⟨C,TE,fI,fd,h1,h2,D,F,h3⟩:=r.ex
 exact⟨C,TE,fI,fd,h1,D,(by obtain⟨oc,od,sl,z,_⟩:=h3;rw[z];exact λw=>nomatch w),h3,bi fI fd F,aK F S (hb C TE fI D h2)⟩
def iK {K:W1}{h:vq}{mg:Str->uR uX}{x B qual:Str}{st:vH}{C TE fI N:uf}{nm q:Str}{bs:Wp uX}{sn:Wp Str}{sub:Wp uX}{ab:vZ}{col:uR vZ}{dd:uR uf}{k0 k1 k2 k3 k5:uR uX}{oc:uX}{od an:uR uf}{osl:yo (uR uX)}{kV doc pm cdv ct c1:uX}(X:K.In h)(G:h.Ns mainGlobals mg)(a1:vF K mainGlobals x=Gc (Gc (.ref C)))(a2:vF K mainGlobals B=Gc (Gc (.ref TE)))(a3:K.lookup C=Gc (excClassObj nm q C N bs (.ref TE::VEm) true sn sub ab col dd k0 k1 k2 k3 k5 "ValueError.__new__"))(b1:K.lookup N=Gc ⟨c1,d1,.dict es n1,s1⟩)(b2:(es.all λe=>match e.key with | .str _ _=>true | _=>false)=true)(a5:vF K N "__init__" = Gc (Gc (.ref fI)))(a0:yr K TE VEm "ValueError.__new__" = true)(a7:vA K (.ref C) "__setattr__" = Gc (Gc (.builtin "object.__setattr__")))(a8:vA K (.ref C) "at" = Gc none)(a9:zD K (.ref TE) "__getattribute__" = Gc (Gc (.builtin "type.__getattribute__")))(a10:PySem.W.readsIn K TE (.type "type")=true)(a11:PySem.W.findCls K (.ref TE) (.type "type") "__init__" = Gc (.val (.builtin "ValueError.__init__")))(a12:vA K (.ref C) "__getattribute__" = Gc (Gc (.builtin "BaseException.__getattribute__")))(a13:vA K (.ref C) "__getattr__" = Gc none)(l:K.lookup fI=Gc ⟨oc,od,.func (wY "__init__" qual (F2 st) (Ar st) (AB st) .none kV doc pm an cdv ct),osl⟩)(lc:oc = .type "function")(c:x5 K cdv qual=true)(k:vm K (.ref fI)=true):XiR K mg x B qual st:=by
  have cd:yP K C=Gc { name:=nm,bases:=bs,mro:=.ref C :: .ref TE::VEm,ns:=N,qualname:=q,hasDict:=true,slotNames:=sn,subclasses:=sub,abstract:=ab,collection:=col,hasDel:=false }:=by unfold yP;rw[a3]
  have mr:∀{t:uX},(u5 C :: .ref TE::VEm).contains t=true->xr K C t=Gc true:=λ{t} z=>by
    unfold xr
    rw [cd]
    exact congrArg Gc z
  have mb:(u5 C :: .ref TE::VEm).contains (.type "object")=true:=by rw[xU,xU];exact xF.mpr (.inr (xF.mpr (.inr (by decide +kernel))))
  have mx:(u5 C :: .ref TE::VEm).contains (.type "BaseException")=true:=by rw[xU,xU];exact xF.mpr (.inr (xF.mpr (.inr (by decide +kernel))))
  have hm:=wQ X G a1
  have a4:ABj K N=true:=by unfold ABj;rw[b1];exact b2
  have a6:ABk K VEm (.ref TE::VEm)=true:=by
    unfold yr at a0
    split at a0
    case h_2 => cases a0
    rename_i dT cT sT ho
    split at a0
    case h_2 => cases a0
    simp only [ub, wI, xn] at a0
    obtain⟨⟨⟨_,_⟩,hok⟩,hni⟩:=a0
    unfold ABk
    rw [xF]
    refine .inr ?_
    dsimp only
    rw [ho]
    dsimp only
    rw [hok, hni]
    rfl
  exact ⟨⟨C, TE, fI, _, hm, wQ X G a2, ⟨⟨nm, q, N, bs, sn, sub, ab, col, dd, k0, k1, k2, k3, k5, a3, a4, a5⟩, a6, a7, mr mb, a8, a9, a10, a11⟩, ⟨⟨oc, od, kV, doc, pm, an, cdv, ct, osl, rfl, l, c⟩, k⟩, oc, od, osl, l, lc⟩,
    fun C' z => by
      rw [hm] at z
      cases z
      exact ⟨⟨_, cd, rfl⟩, a8, a12, a13, mr mx⟩⟩
def t8(h:DEs X a b):DEs X a b:=h
def gDE(h:DE X a b):DE X a b:=h
def uF(h:DSs X a b):DSs X a b:=h
def gDS(h:DS X a b):DS X a b:=h
def gDT(h:DT X a b):DT X a b:=h
def gDG(h:DG X a b):DG X a b:=h
def uI(h:OpR X a b):OpR X a b:=h
def qW(h:Eg X a b):Eg X a b:=h
def dfW k(S:St.Src K mg x st)(sc:Aj N ps (AB st))(hb:∀{f} {cdv} {A} {outer} {s} {H} {E},N.Nodup->Cj k (A.deeper (u4 x (AB st) s.heap.objs.size f cdv))->(A.deeper (u4 x (AB st) s.heap.objs.size f cdv)).units+100<cLine->DSs (IW CX0 P w K mg base N x (AB st) f cdv A outer s H E).nox (Ar st) b)(hp:zn (ps.length=np) ww)(hbi:zn (BnR x st ps) wP):St.Dfn P w K mg base x (k+1) ps (spD K np (AS (AV N.length b))):=dfM k S sc (λhr hu=>hb sc.nd hr hu) hp hbi
def sZ k(S:St.Src K mg x st)(sc:Aj N ps (AB st))(hb:∀{f} {cdv} {A} {outer} {s} {H} {E},N.Nodup->Cj k (A.deeper (u4 x (AB st) s.heap.objs.size f cdv))->(A.deeper (u4 x (AB st) s.heap.objs.size f cdv)).units+100<cLine->RSs (IW CX0 P w K mg base N x (AB st) f cdv A outer s H E).nox (Ar st) r)(hp:zn (ps.length=np) ww)(hbi:zn (BnR x st ps) wP):iD P w K mg base x (k+1) ps (spR K mg np (AS (Oe N.length r))):=Vy S sc hp (λ_ _ F=>bnR F hbi) λf cdv A outer s H E hr=>hb sc.nd hr (IE hr)
noncomputable def MU(f:Str)(d:D):Wp (Str×D)->Wp (Str×D)
 | []=>[(f,d)]
 |(g,x)::r=>if g=f then(g,d)::r else(g,x)::MU f d r
structure FsR(K:W1)(M:Ms)(H:Hp)(fv:Wp (Str×V))(fs:Wp (Str×D)):Prop where
 nm:fv.map (·.1)=fs.map (·.1)
 rel:Ae K M H (fv.map (·.2)) (fs.map (·.2))
def FsR.ind{P:Wp (Str×V)->Wp (Str×D)->Prop}(n:P [] [])(c:∀{f} {v} {d} {fv} {fs},BM K M H v d->FsR K M H fv fs->P fv fs->P ((f,v)::fv) ((f,d)::fs)):∀{fs} {fv},FsR K M H fv fs->P fv fs:=λ{fs}=>by
 induction fs with
 |nil=>
  intro fv h
  cases fv with
  |nil=>exact n
  |cons a r=>exact absurd h.nm (by simp)
 |cons b fs ih=>
  intro fv h
  cases fv with
  |nil=>exact absurd h.nm (by simp)
  |cons a fv=>
   obtain⟨f,v⟩:=a
   obtain⟨g,d⟩:=b
   have h1:=h.nm
   rw[uw,uw,List.cons.injEq]at h1
   obtain⟨e,h1⟩:=h1
   have e:f=g:=e
   subst e
   have h2:=h.rel
   rw[uw,uw]at h2
   cases h2 with
   |cons r t=>exact c r ⟨h1,t⟩ (ih ⟨h1,t⟩)
def FsR.cons(r:BM K M H v d)(h:FsR K M H fv fs):FsR K M H ((f,v)::fv) ((f,d)::fs):=⟨by rw[uw,uw,h.nm],.cons r h.rel⟩
def FsR.get(h:FsR K M H fv fs):(∀d,fs.lookup f=Gc d->∃v,fv.lookup f=Gc v/\BM K M H v d)/\(fs.lookup f=none->fv.lookup f=none):=
 FsR.ind (P:=λfv fs=>(∀d,fs.lookup f=Gc d->∃v,fv.lookup f=Gc v/\BM K M H v d)/\(fs.lookup f=none->fv.lookup f=none)) ⟨λ_ e=>(nomatch e),λ_=>rfl⟩ (λ{g v d fv fs} r _ ih=>by
  rw[vT,vT]
  cases q:f==g with
  |true=>exact⟨λy e=>by cases e;exact⟨v,rfl,r⟩,λe=>(nomatch e)⟩
  |false=>exact ih) h
def FsR.put(r:BM K M H v d)(h:FsR K M H fv fs):FsR K M H (NL f v fv) (MU f d fs):=
 FsR.ind (P:=λfv fs=>FsR K M H (NL f v fv) (MU f d fs)) (.cons r ⟨rfl,.nil⟩) (λ{g v' d' fv fs} r' h' ih=>by
  rw[show NL f v ((g,v')::fv)=(if g=f then(g,v)::fv else(g,v')::NL f v fv)from rfl,show MU f d ((g,d')::fs)=(if g=f then(g,d)::fs else(g,d')::MU f d fs)from rfl]
  by_cases q:g=f
  .rw[vC q,vC q];exact .cons r h'
  .rw[vB q,vB q];exact .cons r' ih) h
def StR.sD(r:StR K M S H)(h1:M.cel[n]?=Gc a)(h2:S[n]?=Gc (.ins C fs))(hN:vF K mainGlobals C=Gc (Gc (.ref Ca)))(ea:H a=Gc (.ins Ca dx fv))(eo:H dx=Gc (.own a))(hy:FsR K M H fv' fs'):StR K M (S.set n (.ins C fs')) (upd H a (.ins Ca dx fv'))/\Gr M H M (upd H a (.ins Ca dx fv')):=by
 have ha:a∈M.cel:=uv h1
 have hl:n<S.length:=(ua.mp h2).1
 have g:Gr M H M (upd H a (.ins Ca dx fv')):=⟨r.mo,vj,rfl,λ_ z=>.inl z,λb o eb nb=>by rw[AM (λz=>nb (by rw[z];exact ha))];exact eb,λb eb=>by
  by_cases h:b=a
  .subst h;rw[AX];intro z;cases z
  .rw[AM h];exact eb⟩
 refine⟨⟨λb z=>?_,r.nd,r.nt,by rw[wU];exact r.len,λm b c e1 e2=>?_⟩,g⟩
 .by_cases h:b=a
  .subst h;exact⟨_,AX,trivial⟩
  .rw[AM h];exact r.mo b z
 .by_cases h:n=m
  .subst h
   rw[h1]at e1;cases e1
   rw[uh hl]at e2;cases e2
   exact⟨Ca,dx,fv',hN,AX,g.st.Ub eo id,hy.nm,hy.rel.step g.st⟩
  .rw[uV h]at e2
   have hb:b≠a:=λz=>by
    subst z
    exact h ((yW (ua.mp h1).1 r.nd).mp (h1.trans e1.symm))
   exact(r.cell m b c e1 e2).step g.st λo e=>by rw[AM hb];exact e
def StR.tw(r:StR K M S H)(e:H a=none)(k:∀b o,H b=Gc o->H' b=Gc o)(ea:H' a=Gc o)(mb:Mob o)(hc:∀M',Sp1 M H M' H'->Qr K M' H' a cl):StR K ⟨M.cel++[a],M.tmp⟩ (S++[cl]) H'/\Gr M H ⟨M.cel++[a],M.tmp⟩ H':=by
 have g:Gr M H ⟨M.cel++[a],M.tmp⟩ H':=⟨r.mo,xS _ _,rfl,λb z=>by
  rcases vD.mp z with z|z
  .exact .inl z
  .simp at z;subst z;exact .inr e,λb o eb _=>k b o eb,λb eb z=>by
  cases h:H b with
  |none=>exact eb h
  |some o=>rw[k b o h]at z;cases z⟩
 have na:¬M.mem a:=λz=>r.mo.some z e
 refine⟨⟨λb z=>?_,?_,λb hb z=>?_,by simp[r.len],λm b c e1 e2=>?_⟩,g⟩
 .have z':M.mem b\/b=a:=by
   rcases z with z|z
   .rcases vD.mp z with z|z
    .exact .inl (.inl z)
    .simp at z;exact .inr z
   .exact .inl (.inr z)
  rcases z' with z|z
  .exact r.mo.at k z
  .subst z;exact⟨_,ea,mb⟩
 .rw[yX]
  refine⟨r.nd,by simp,λx hx y hy=>?_⟩
  simp at hy;subst hy
  exact λz=>na (.inl (by rw[<-z];exact hx))
 .rcases vD.mp z with z|z
  .exact r.nt b hb z
  .simp at z;subst z;exact na (.inr hb)
 .by_cases h:m<S.length
  .rw[uT (by rw[r.len];exact h)]at e1
   rw[uT h]at e2
   exact(r.cell m b c e1 e2).step g.st λo e=>k _ _ e
  .have hm:m=S.length:=by
    have:=(ua.mp e2).1
    simp at this;lia
   subst hm
   rw[vI (by rw[r.len];exact uc _)]at e1
   rw[vI (uc _)]at e2
   rw[r.len]at e1
   simp at e1 e2
   subst e1 e2
   exact hc _ g.st
structure ClD(K:W1)(C:Str)(fs:Wp Str):Prop where
 ex:∃Ca,vF K mainGlobals C=Gc (Gc (.ref Ca))/\Cls K Ca/\∀f∈fs,HU K Ca f
noncomputable def Km(S:Sto)(C:Str):D->uR (Wp (Str×D))
 | .ref n=>match S[n]? with
   |some (.ins C' fs)=>if C'=C then Gc fs else none
   |_=>none
 |_=>none
def KY(e:Km S C d=Gc fs):∃n,d=.ref n/\S[n]?=Gc (.ins C fs):=by
 unfold Km at e
 split at e
 .rename_i n
  split at e
  .rename_i C' fs' h
   split at e
   .rename_i z;cases e;subst z;exact⟨n,rfl,h⟩
   .cases e
  .cases e
 .cases e
def RG(e:S[n]?=Gc (.ins C fs)):Km S C (.ref n)=Gc fs:=by
 unfold Km
 simp[e]
noncomputable def ON(C f:Str)(o:Ev):Ev:=λE S=>(o E S).bind λr=>(Km r.2 C r.1).bind λfs=>(fs.lookup f).map λd=>(d,r.2)
noncomputable def W8(C f:Str)(o v:Ev):Ex:=λE S=>(v E S).bind λr=>(o E r.2).bind λq=>(Km q.2 C q.1).bind λfs=>match q.1 with
 | .ref n=>if fs.length<1000 then Gc (.nx,E,q.2.set n (.ins C (MU f r.1 fs)))else none
 |_=>none
def La(c:ClD X.K C fs)(hf:f∈fs)(ho:DE X o fo)(hb:zn (attributeBase o f X.env (eval o X.env)=eval o X.env) ww):DE X (.Attribute o f pos) (ON C f fo):=⟨Ax (f9 ho.pe hb) λσ H Q z=>by
 obtain⟨M,E,S,d,S',e,r,st,q⟩:=z
 obtain⟨⟨d0,S1⟩,e1,e⟩:=Ac e
 obtain⟨fs0,e2,e⟩:=Ac e
 obtain⟨d1,e3,e⟩:=IV e
 cases e
 obtain⟨n,rfl,hn⟩:=KY e2
 obtain⟨Ca,hC,cl,na⟩:=c.ex
 refine⟨M,E,S,_,S1,e1,r,st,λu H1 M1 g1 st1 r1=>?_⟩
 cases r1 with
 |ref h=>
  rename_i a
  obtain⟨Ca',dx,fv0,h1,h2,h3,h4,h5⟩:=st1.cell n a _ h hn
  cases hC.symm.trans h1
  obtain⟨u,hu,ru⟩:=((FsR.mk h4 h5).get (f:=f)).1 _ e3
  exact⟨a,Ca,dx,fv0,u,rfl,h2,cl,na f hf,hu,q _ _ M1 g1 st1 ru⟩⟩
def Wg(c:ClD X.K C fs)(hf:f∈fs)(ho:DE X o fo)(hv:DE X v fv)(hs:zn (swapsWith v (Gc (.Attribute o f pos')) pos.line X.env=pure false) ww):DS X (.Assign [.Attribute o f pos'] v pos) (W8 C f fo fv):=⟨Fc (fU ho.pe hv.pe hs) λDn σ H z=>by
 obtain⟨M,E,S,fl,E',S',e,r,st,q⟩:=z
 obtain⟨⟨d0,S1⟩,e1,e⟩:=Ac e
 obtain⟨⟨d1,S2⟩,e2,e⟩:=Ac e
 obtain⟨fs0,e3,e⟩:=Ac e
 obtain⟨n,rfl,hn⟩:=KY e3
 dsimp only at e hn
 split at e
 case isFalse=>cases e
 rename_i hl
 cases e
 obtain⟨Ca,hC,cl,na⟩:=c.ex
 refine⟨M,E,S,_,S1,e1,r,st,λu H1 M1 g1 st1 r1=>?_⟩
 refine⟨M1,E,S1,_,S2,e2,r.step g1.st,st1,λw H2 M2 g2 st2 r2=>?_⟩
 cases r2 with
 |ref h=>
  rename_i a
  obtain⟨Ca',dx,fv0,h1,h2,h3,h4,h5⟩:=st2.cell n a _ h hn
  cases hC.symm.trans h1
  have F:=FsR.mk h4 h5
  obtain⟨st3,g3⟩:=st2.sD h hn hC h2 h3 (F.put (f:=f) (r1.step g2.st))
  refine⟨a,Ca,dx,fv0,rfl,h2,cl,na f hf,?_,q σ _ M2 ((g1.trans g2).trans g3) (((r.step g1.st).step g2.st).step g3.st) st3⟩
  have:=congrArg ya h4
  rw[vN,vN]at this
  lia⟩
section
variable{w:wG}{K:W1}{mg:Str->uR uX}{base:vq}
structure MeS(K:W1)(C m q:Str)(st:vH):Prop where
 ex:∃Ca f fd,vF K mainGlobals C=Gc (Gc (.ref Ca))/\Cls K Ca/\Meth K Ca m f/\Fun K m q st f fd
structure MeD(P:va)(w:wG)(K:W1)(mg:Str->uR uX)(base:vq)(CX:CXT)(C m:Str)(k:Nat)(ps:Wp Str)(sp:Sp):Prop where
 ex:∃Ca f fd,vF K mainGlobals C=Gc (Gc (.ref Ca))/\Cls K Ca/\Meth K Ca m f/\Binds K fd ps []/\Ji P w K mg base CX k f fd ps sp
structure MkS(K:W1)(mg:Str->uR uX)(C q:Str)(st:vH):Prop where
 ex:∃Ca f fd,mg C=Gc (.ref Ca)/\vF K mainGlobals C=Gc (Gc (.ref Ca))/\Mk K Ca f/\Fun K "__init__" q st f fd
structure MkD(P:va)(w:wG)(K:W1)(mg:Str->uR uX)(base:vq)(CX:CXT)(C:Str)(k:Nat)(ps:Wp Str)(sp:Sp):Prop where
 ex:∃Ca f fd,mg C=Gc (.ref Ca)/\vF K mainGlobals C=Gc (Gc (.ref Ca))/\Mk K Ca f/\Binds K fd ps []/\Ji P w K mg base CX k f fd ps sp
def Zq(Fu:Fun K x y st f fd)(S:Aj N ps (AB st))(hp:ps.length=np)(hb:∀cdv A outer s H E,Cj k (A.deeper (u4 y (AB st) s.heap.objs.size f cdv))->DSs (IW CX0 P w K mg base N y (AB st) f cdv A outer s H E).nox (Ar st) b):Ji P w K mg base CX0 (k+1) f fd ps (spD K np (AS (AV N.length b))):=by
 rw[JM]
 refine Fu.ok S (λvs H Q E h=>?_) (λcdv A outer s H vs Q E hr h=>?_)
 .obtain⟨M,ds,S0,d,S',hl,_,r,_⟩:=h
  have:=r.length
  lia
 .obtain⟨M,ds,S0,d,S',hl,e,r,st,q⟩:=h
  have hlen:=r.length
  refine⟨_,(hb cdv A outer s H E hr).pe,?_⟩
  obtain⟨⟨fl,E',S1⟩,e1,e⟩:=IV e
  cases e
  refine⟨M,_,S0,fl,E',S1,e1,?_,st,?_⟩
  .rw[show L2.start N vs=vs.map Gc++uo (N.length-ds.length) none from by unfold L2.start;rw[hlen]]
   exact .args r _
  .cases fl with
   |nx=>exact λσ' H' M' g _ st'=>q _ _ M' g st' .non
   |ret d=>exact λv H' M' g st' r'=>q _ _ M' g st' r'
def ay(Fu:Fun K x y st f fd)(S:Aj N ps (AB st))(hp:ps.length=np)(hb:∀cdv A outer s H E,Cj k (A.deeper (u4 y (AB st) s.heap.objs.size f cdv))->RSs (IW CX0 P w K mg base N y (AB st) f cdv A outer s H E).nox (Ar st) r):Ji P w K mg base (CXr P w) (k+1) f fd ps (spR K mg np (AS (Oe N.length r))):=by
 rw[JM]
 obtain⟨oc,od,kV,doc,pm,an,cdv,ct,osl,rfl,lk,hcd⟩:=Fu.ex
 refine X3 lk hcd S (λvs H Q E h=>?_) λA outer s H vs Q E hr h=>?_
 .obtain⟨M,ds,S0,d,S',hl,_,r,_⟩:=h
  have:=r.length
  lia
 .obtain⟨M,ds,S0,y',S',hl,e,rr,st,q⟩:=h
  have hlen:=rr.length
  refine⟨λ_ σ H=>tR K mg r σ H λC od _ H'=>E (.ref C) od H',λpins s1 σ1 H1 D I h=>?_,?_⟩
  .exact vo ((hb cdv A outer s H E hr).pe pins s1 σ1 H1 _ (I.TM _) h) (λ_ _ z=>z.elim) λev s' z=>RO z λ_ _ _ _ z=>z
  .obtain⟨⟨y',E',S1⟩,e1,e⟩:=IV e
   cases e
   refine⟨M,_,S0,y',E',S1,e1,?_,st,λC od σ' H' M' hm g _ st'=>q C od H' M' hm g st'⟩
   rw[show L2.start N vs=vs.map Gc++uo (N.length-ds.length) none from by unfold L2.start;rw[hlen]]
   exact .args rr _
def BnQ(x y:Str)(st:vH)(ps:Wp Str):Prop:=∀(kV doc pm:uX) (an:uR uf) (cdv ct:uX) (f:Nat->uX),bindArgs (wY x y (F2 st) (Ar st) (AB st) .none kV doc pm an cdv ct) ⟨(u6 ps.length).map f,[]⟩=pure (ps.zip ((u6 ps.length).map f))
def bnQ(F:Fun K x y st f fd)(h:BnQ x y st ps):Binds K fd ps []:=F.binds λa b c d e g us hl=>by
 obtain⟨k,rfl⟩:=qf hl
 exact h a b c d e g k
def XW k(S:MeS K C m q st)(sc:Aj N ps (AB st))(hb:∀{f} {cdv} {A} {outer} {s} {H} {E},N.Nodup->Cj k (A.deeper (u4 q (AB st) s.heap.objs.size f cdv))->(A.deeper (u4 q (AB st) s.heap.objs.size f cdv)).units+100<cLine->DSs (IW CX0 P w K mg base N q (AB st) f cdv A outer s H E).nox (Ar st) b)(hp:zn (ps.length=np) ww)(hbi:zn (BnQ m q st ps) wP):MeD P w K mg base CX0 C m (k+1) ps (spD K np (AS (AV N.length b))):=by
 obtain⟨Ca,f,fd,h1,h2,h3,Fu⟩:=S.ex
 exact⟨Ca,f,fd,h1,h2,h3,bnQ Fu hbi,Zq Fu sc hp λcdv A outer s H E hr=>hb sc.nd hr (IE hr)⟩
def jf k(S:MeS K C m q st)(sc:Aj N ps (AB st))(hb:∀{f} {cdv} {A} {outer} {s} {H} {E},N.Nodup->Cj k (A.deeper (u4 q (AB st) s.heap.objs.size f cdv))->(A.deeper (u4 q (AB st) s.heap.objs.size f cdv)).units+100<cLine->RSs (IW CX0 P w K mg base N q (AB st) f cdv A outer s H E).nox (Ar st) r)(hp:zn (ps.length=np) ww)(hbi:zn (BnQ m q st ps) wP):MeD P w K mg base (CXr P w) C m (k+1) ps (spR K mg np (AS (Oe N.length r))):=by
 obtain⟨Ca,f,fd,h1,h2,h3,Fu⟩:=S.ex
 exact⟨Ca,f,fd,h1,h2,h3,bnQ Fu hbi,ay Fu sc hp λcdv A outer s H E hr=>hb sc.nd hr (IE hr)⟩
end
noncomputable def HN(C m:Str)(F:Fn)(o:Ev)(fs:Wp Ev):Ev:=λE S=>(o E S).bind λr=>(Km r.2 C r.1).bind λas=>if(as.lookup m).isNone=true then(evs fs E r.2).bind λq=>F (r.1::q.1) q.2 else none
noncomputable def SM(C m:Str)(R:Rf)(o:Ev)(fs:Wp Ev):Rx:=λE S=>(o E S).bind λr=>(Km r.2 C r.1).bind λas=>if(as.lookup m).isNone=true then(evs fs E r.2).bind λq=>(R (r.1::q.1) q.2).map λz=>(z.1,E,z.2)else none
section
variable{X:Cx}{k np:Nat}{C m:Str}{ps:Wp Str}{F:Fn}{R:Rf}{o e:vi}{es:Wp vi}{fo:Ev}{fs:Wp Ev}{p pos apos:Pos}{pl:Sem vZ}
def Ql(st:StR K M S H)(r:BM K M H v d)(hC:vF K mainGlobals C=Gc (Gc (.ref Ca)))(e:Km S C d=Gc as)(hn:(as.lookup m).isNone=true):∃a dx fv,v=.ref a/\H a=Gc (.ins Ca dx fv)/\fv.lookup m=none:=by
 obtain⟨n,rfl,hn'⟩:=KY e
 cases r with
 |ref h=>
  rename_i a
  obtain⟨Ca',dx,fv0,h1,h2,h3,h4,h5⟩:=st.cell n a _ h hn'
  cases hC.symm.trans h1
  exact⟨a,dx,fv0,rfl,h2,((FsR.mk h4 h5).get (f:=m)).2 (Option.isNone_iff_eq_none.mp hn)⟩
def bD (d:MeD X.prog X.w X.K X.mg X.base CX0 C m k ps (spD X.K np F))(hr:Cj k X.A)(ho:DE X o fo)(ha:DEs X (e::es) fs)(hn:zn (fs.length + 1=np) ww)(hst:zn (ue (e::es) X.env=(false,eval e X.env)::ue es X.env) ww)(hpl:zn ((backTo pos (ue es X.env)).any (·.1)=false) ww)(ht:zn (eval (.Call (.Attribute o m apos) (e::es) [] pos) X.env=(do
      let ov ← eval o X.env
      standAt apos.atName
      let (f, first) ← holding [ov] (getMethod ov m pl)
      callWith pos f first (backTo pos (ue (e :: es) X.env)) (backToKw pos (keywordEach [] X.env)))) ww) :
    DE X (.Call (.Attribute o m apos) (e::es) [] pos) (HN C m F fo fs):=⟨by
  obtain⟨Ca,f,fd,hC,cl,hm,hb,Fk⟩:=d.ex
  refine Ax (dc (pl:=pl) ho.pe cl hm Fk hr hb .nil UH ha.pe hst hpl ht) λσ H Q z=>?_
  obtain⟨M,E,S,d0,S',e0,r,st,q⟩:=z
  obtain⟨⟨d1,S1⟩,e1,e0⟩:=Ac e0
  obtain⟨as,e2,e0⟩:=Ac e0
  split at e0
  case isFalse => cases e0
  rename_i hno
  obtain⟨⟨ds,S2⟩,e3,e4⟩:=Ac e0
  refine ⟨M, E, S, d1, S1, e1, r, st, fun u H1 M1 g1 st1 r1 => ?_⟩
  obtain⟨a,dx,fv,rfl,h2,h3⟩:=Ql st1 r1 hC e2 hno
  refine ⟨a, dx, fv, rfl, h2, h3, Ee e3 (r.step g1.st) st1 fun vs H2 M2 g2 st2 r2 => ?_⟩
  rw [vt]
  exact ⟨M2, d1 :: ds, S2, d0, S', by rw [vG, Hm e3]; exact hn, e4, .cons (r1.step g2.st) r2, st2, fun v H' M' g st' r' => q _ _ M' ((g1.trans g2).trans g) st' r'⟩⟩
def YW (d:MeD X.prog X.w X.K X.mg X.base CX0 C m k ps (spD X.K np F))(hr:Cj k X.A)(ho:DE X o fo)(hn:zn (1=np) ww)(ht:zn (eval (.Call (.Attribute o m apos) [] [] pos) X.env=(do
      let ov ← eval o X.env
      standAt apos.atName
      let (f, first) ← holding [ov] (getMethod ov m pl)
      callWith pos f first (backTo pos (ue [] X.env)) (backToKw pos (keywordEach [] X.env)))) ww) :
    DE X (.Call (.Attribute o m apos) [] [] pos) (HN C m F fo []):=⟨by
  obtain⟨Ca,f,fd,hC,cl,hm,hb,Fk⟩:=d.ex
  refine Ax (YK (pl:=pl) ho.pe cl hm Fk hr hb .nil UH ht) λσ H Q z=>?_
  obtain⟨M,E,S,d0,S',e0,r,st,q⟩:=z
  obtain⟨⟨d1,S1⟩,e1,e0⟩:=Ac e0
  obtain⟨as,e2,e0⟩:=Ac e0
  split at e0
  case isFalse => cases e0
  rename_i hno
  refine ⟨M, E, S, d1, S1, e1, r, st, fun u H1 M1 g1 st1 r1 => ?_⟩
  obtain⟨a,dx,fv,rfl,h2,h3⟩:=Ql st1 r1 hC e2 hno
  exact ⟨a, dx, fv, rfl, h2, h3, M1, [d1], S1, d0, S', hn, e0, .cons r1 .nil, st1, fun v H' M' g st' r' => q _ _ M' (g1.trans g) st' r'⟩⟩
def cj (d:MeD X.prog X.w X.K X.mg X.base (CXr X.prog X.w) C m k ps (spR X.K X.mg np R))(hr:Cj k X.A)(ho:DE X o fo)(ha:DEs X (e::es) fs)(hn:zn (fs.length + 1=np) ww)(hxe:zn (X.xe=λ_ _=>wH) ww)(hx:zn (X.ex=[]) ww)(hst:zn (ue (e::es) X.env=(false,eval e X.env)::ue es X.env) ww)(hpl:zn ((backTo pos (ue es X.env)).any (·.1)=false) ww)(ht:zn (eval (.Call (.Attribute o m apos) (e::es) [] pos) X.env=(do
      let ov ← eval o X.env
      standAt apos.atName
      let (f, first) ← holding [ov] (getMethod ov m pl)
      callWith pos f first (backTo pos (ue (e :: es) X.env)) (backToKw pos (keywordEach [] X.env)))) ww) :
    RE X (.Call (.Attribute o m apos) (e::es) [] pos) (SM C m R fo fs):=⟨by
  intro pins s σ H Z I h
  obtain⟨Ca,f,fd,hC,cl,hm,hb,Fk⟩:=d.ex
  obtain⟨M,E,S,y,E',S',e0,r,st,q⟩:=h
  obtain⟨⟨d1,S1⟩,e1,e0⟩:=Ac e0
  obtain⟨as,e2,e0⟩:=Ac e0
  split at e0
  case isFalse => cases e0
  rename_i hno
  obtain⟨⟨ds,S2⟩,e3,e4⟩:=Ac e0
  obtain⟨⟨y',S3⟩,e5,e6⟩:=IV e4
  cases e6
  refine yQ (pl:=pl) (EA hxe (ho.pe pins s σ H (λv H1=>∃M1,Gr M H M1 H1/\StR X.K M1 S1 H1/\BM X.K M1 H1 v d1) I ⟨M,E,S,d1,S1,e1,r,st,λv H1 M1 g1 st1 r1=>⟨M1,g1,st1,r1⟩⟩) λu s1 z=>?_) ht
  obtain⟨v,H1,I1,rv,M1,g1,st1,r1⟩:=z
  obtain⟨a,dx,fv,rfl,h2,h3⟩:=Ql st1 r1 hC e2 hno
  obtain rfl:u=u5 a:=rv
  refine KP I1 h2 cl hm h3 ?_
  have ha':=ha.pe pos pins s1 σ H1 (λvs H2=>∃M2,Gr M1 H1 M2 H2/\StR X.K M2 S2 H2/\Ae X.K M2 H2 vs ds) I1 (Ee e3 (r.step g1.st) st1 λvs H2 M2 g2 st2 r2=>⟨M2,g2,st2,r2⟩)
  refine wj (first:=[.ref a]) (h₀:=X.base) I.ok.mod.kin hm.kp (EA hxe ha' λus s2 ⟨vs,H2,I2,rv,M2,g2,st2,r2⟩=>⟨I2.kIn,?_⟩) hst hpl
  have sp:spR X.K X.mg np R (.ref a::vs) H2 (λ_ _=>wH) (λv od H'=>∃C,v = .ref C/\Z C od σ H') :=
    ⟨M2, d1 :: ds, S2, y', S3, by rw [vG, Hm e3]; exact hn, e5, .cons (r1.step g2.st) r2, st2, fun C od H' M' hc g3 st3 => ⟨C, rfl, q C od σ H' M' hc ((g1.trans g2).trans g3) (((r.step g1.st).step g2.st).step g3.st) st3⟩⟩
  have rv2:Vals (V.ref a::vs) (u5 a::us):=.cons rfl rv
  have hl:(u5 a::us++[]).length=ps.length:=by rw[vt,← rv2.length];exact Fk.len _ _ _ _ sp
  have hbs:=hb s2 (.ref a::us) I2.kIn hl
  rw [vt] at hbs
  refine xt (yf (Fk.run X.A X.stack s2 H2 ⟨.ref a :: us, []⟩ (.ref a :: us) (.ref a :: vs) _ _ hr I2.Zr hbs rv2 sp) fun rs s' hq => ?_)
  cases rs with
  | error ev =>
    obtain⟨e,C,od,H',rfl,os,bare,un,hok,fly,C',hC,z⟩:=hq
    cases hC
    exact ⟨e, C, od, σ, H', rfl, I2.YQ os un hok bare (fun b z => nomatch z), z, fly.imp fun b z => EZ I2 hx b z⟩
  | ok fl =>
    cases fl with
    | ret u =>
      obtain⟨v,H',_,_,_,_,_,q⟩:=hq
      exact q.elim
    | next => exact vX hq
    | brk => exact vX hq
    | cont => exact vX hq⟩
noncomputable def Qv(C:Str)(F:Fn)(fs:Wp Ev):Ev:=λE S=>(evs fs E S).bind λr=>(F (.ref r.2.length::r.1) (r.2++[.ins C []])).bind λq=>match q.1 with
 | .non=>Gc (.ref r.2.length,q.2)
 |_=>none
def cY(d:MkD X.prog X.w X.K X.mg X.base CX0 C k ps (spD X.K np F))(hr:Cj (k+1) X.A)(hg:Gl X C)(ha:DEs X (e::es) fs)(hn:zn (fs.length+1=np) ww)(hdb:zn ((C==("__debug__":Str))=false) xz)(he:zn (ue (e::es) X.env=(false,eval e X.env)::ue es X.env) ww)(hpl:zn ((backTo pos (ue es X.env)).any (·.1)=false) ww):DE X (.Call (.Name C p) (e::es) [] pos) (Qv C F fs):=⟨by
 obtain⟨Ca,f,fd,hmg,hC,hm,hb,Fk⟩:=d.ex
 refine Ax (eH hm Fk hr hg hmg hb .nil UH ha.pe hdb he hpl) λσ H Q z=>?_
 obtain⟨M,E,S,d0,S',e0,r,st,q⟩:=z
 obtain⟨⟨ds,S1⟩,e1,e0⟩:=Ac e0
 obtain⟨⟨w,S2⟩,e2,e0⟩:=Ac e0
 refine Ee e1 r st λvs H1 M1 g1 st1 r1=>λx dx hx hdx ne=>?_
 dsimp only at e0 e2
 split at e0
 case h_2=>cases e0
 cases e0
 obtain⟨st2,g2⟩:=st1.tw (a:=x) (cl:=.ins C []) (H':=upd (upd H1 dx (.own x)) x (.ins Ca dx [])) hx (λb o eb=>by rw[AM (λz=>by rw[z,hx]at eb;cases eb),AM (λz=>by rw[z,hdx]at eb;cases eb)];exact eb) AX trivial λM' g=>⟨Ca,dx,[],hC,AX,by rw[AM ne,AX],rfl,.nil⟩
 have hi:(⟨M1.cel++[x],M1.tmp⟩:Ms).cel[S1.length]?=Gc x:=by rw[<-st1.len];exact uy
 rw[vt]
 exact⟨_,.ref S1.length::ds,_,_,_,by rw[vG,Hm e1];exact hn,e2,.cons (.ref hi) (r1.step g2.st),st2,λv H' M' g st' r'=>⟨by cases r';rfl,q _ _ M' ((g1.trans g2).trans g) st' (.ref (MQ g.pre hi))⟩⟩⟩
end
section
variable{X:Cx}{k j np:Nat}{C m:Str}{ps:Wp Str}{F:Fn}{es:Wp vi}{fo:Ev}{fs:Wp Ev}{p pos apos:Pos}{pl:Sem vZ}
def LO (d:MeD X.prog X.w X.K X.mg X.base CX0 C m k ps (spD X.K np F))(hr:Cj j X.A)(ho:DE X o fo)(ha:DEs X (e::es) fs)(hk:zn (k ≤ j) xz)(hn:zn (fs.length + 1=np) ww)(hst:zn (ue (e::es) X.env=(false,eval e X.env)::ue es X.env) ww)(hpl:zn ((backTo pos (ue es X.env)).any (·.1)=false) ww)(ht:zn (eval (.Call (.Attribute o m apos) (e::es) [] pos) X.env=(do
      let ov ← eval o X.env
      standAt apos.atName
      let (f, first) ← holding [ov] (getMethod ov m pl)
      callWith pos f first (backTo pos (ue (e :: es) X.env)) (backToKw pos (keywordEach [] X.env)))) ww) :
    DE X (.Call (.Attribute o m apos) (e::es) [] pos) (HN C m F fo fs):=bD (pl:=pl) d (hr.mono hk) ho ha hn hst hpl ht
def WL (d:MeD X.prog X.w X.K X.mg X.base CX0 C m k ps (spD X.K np F))(hr:Cj j X.A)(ho:DE X o fo)(hk:zn (k ≤ j) xz)(hn:zn (1=np) ww)(ht:zn (eval (.Call (.Attribute o m apos) [] [] pos) X.env=(do
      let ov ← eval o X.env
      standAt apos.atName
      let (f, first) ← holding [ov] (getMethod ov m pl)
      callWith pos f first (backTo pos (ue [] X.env)) (backToKw pos (keywordEach [] X.env)))) ww) :
    DE X (.Call (.Attribute o m apos) [] [] pos) (HN C m F fo []):=YW (pl:=pl) d (hr.mono hk) ho hn ht
def XQ (d:MeD X.prog X.w X.K X.mg X.base (CXr X.prog X.w) C m k ps (spR X.K X.mg np R))(hr:Cj j X.A)(ho:DE X o fo)(ha:DEs X (e::es) fs)(hk:zn (k ≤ j) xz)(hn:zn (fs.length + 1=np) ww)(hxe:zn (X.xe=λ_ _=>wH) ww)(hx:zn (X.ex=[]) ww)(hst:zn (ue (e::es) X.env=(false,eval e X.env)::ue es X.env) ww)(hpl:zn ((backTo pos (ue es X.env)).any (·.1)=false) ww)(ht:zn (eval (.Call (.Attribute o m apos) (e::es) [] pos) X.env=(do
      let ov ← eval o X.env
      standAt apos.atName
      let (f, first) ← holding [ov] (getMethod ov m pl)
      callWith pos f first (backTo pos (ue (e :: es) X.env)) (backToKw pos (keywordEach [] X.env)))) ww) :
    RE X (.Call (.Attribute o m apos) (e::es) [] pos) (SM C m R fo fs):=cj (pl:=pl) d (hr.mono hk) ho ha hn hxe hx hst hpl ht
def X5(d:MkD X.prog X.w X.K X.mg X.base CX0 C k ps (spD X.K np F))(hr:Cj j X.A)(hg:Gl X C)(ha:DEs X (e::es) fs)(hk:zn (k+1<=j) xz)(hn:zn (fs.length+1=np) ww)(hdb:zn ((C==("__debug__":Str))=false) xz)(he:zn (ue (e::es) X.env=(false,eval e X.env)::ue es X.env) ww)(hpl:zn ((backTo pos (ue es X.env)).any (·.1)=false) ww):DE X (.Call (.Name C p) (e::es) [] pos) (Qv C F fs):=cY d (hr.mono hk) hg ha hn hdb he hpl
end
def pz k(S:MkS K mg C q st)(sc:Aj N ps (AB st))(hb:∀{f} {cdv} {A} {outer} {s} {H} {E},N.Nodup->Cj k (A.deeper (u4 q (AB st) s.heap.objs.size f cdv))->(A.deeper (u4 q (AB st) s.heap.objs.size f cdv)).units+100<cLine->DSs (IW CX0 P w K mg base N q (AB st) f cdv A outer s H E).nox (Ar st) b)(hp:zn (ps.length=np) ww)(hbi:zn (BnQ "__init__" q st ps) wP):MkD P w K mg base CX0 C (k+1) ps (spD K np (AS (AV N.length b))):=by
 obtain⟨Ca,f,fd,h1,h2,h3,Fu⟩:=S.ex
 exact⟨Ca,f,fd,h1,h2,h3,bnQ Fu hbi,Zq Fu sc hp λcdv A outer s H E hr=>hb sc.nd hr (IE hr)⟩
section
variable{K:W1}{st:vH}{od an:uR uf}{osl:yo (uR uX)}{kV doc pm cdv ct:uX}
def iz:∀z∈([]:Wp Str),HU K Ca z:=λ_ z=>nomatch z
def WM(h:vA K (.ref Ca) x=Gc none)(t:∀z∈fs,HU K Ca z):∀z∈x::fs,HU K Ca z:=λz m=>by
 rcases uY.mp m with e|m
 .rw[e];exact h
 .exact t z m
def hV(a:vF K mainGlobals C=Gc (Gc (.ref Ca)))(b1:ye K Ca Str.empty=true)(b2:yU K Ca=true)(b3:AAe K Ca=true)(b4:vA K (.ref Ca) "__setattr__"=Gc (Gc (.builtin "object.__setattr__")))(n:∀z∈fs,HU K Ca z):ClD K C fs:=⟨Ca,a,⟨b1,b2,b3,b4⟩,n⟩
def R7(c:ClD K C fs)(a:vF K mainGlobals C=Gc (Gc (.ref Ca)))(m1:vA K (.ref Ca) m=Gc (Gc (.ref f)))(m2:z8 K (.ref f)=true)(l:K.lookup f=Gc ⟨oc,od,.func (wY m q (F2 st) (Ar st) (AB st) .none kV doc pm an cdv ct),osl⟩)(cd:x5 K cdv q=true)(k:vm K (.ref f)=true):MeS K C m q st:=by
 obtain⟨Ca',h,cl,_⟩:=c.ex
 cases a.symm.trans h
 exact⟨Ca,f,_,a,cl,⟨m1,m2,k⟩,VI l cd k⟩
def jR(X:K.In h)(G:h.Ns mainGlobals mg)(a:vF K mainGlobals C=Gc (Gc (.ref Ca)))(m0:ABH K Ca=true)(m1:vA K (.ref Ca) "__init__"=Gc (Gc (.ref f)))(m2:z8 K (.ref f)=true)(m3:vm K (.ref Ca)=true)(l:K.lookup f=Gc ⟨oc,od,.func (wY "__init__" q (F2 st) (Ar st) (AB st) .none kV doc pm an cdv ct),osl⟩)(cd:x5 K cdv q=true)(k:vm K (.ref f)=true):MkS K mg C q st:=
 ⟨Ca,f,_,wQ X G a,a,⟨m0,m1,m2,m3⟩,VI l cd k⟩
end
def X6(ha:PE X a ta)(hb:PXe X b tr)(hxe:X.xe=λ_ _=>wH)(hs:ue [a,b] X.env=[(false,eval a X.env),(false,eval b X.env)]):PXe X (.Tuple [a,b] k pos) (λσ H Z=>ta σ H λ_ H1=>tr σ H1 Z):=by
 intro pins s σ H Z I h
 refine ABr ?_
 rw[hs]
 show wpAny _ _ (spliced ((false,eval a X.env)::backTo pos [(false,eval b X.env)])) _ _ s
 refine xE (EA hxe (ha pins s σ H _ I h) λu s1 z=>?_)
 obtain⟨x,H1,I1,r1,q1⟩:=z
 exact xE (vo (hb pins s1 σ H1 Z I1 q1) (λ_ _ z=>z.elim) λ_ _ z=>z)
noncomputable def Na(p wd:Str)(ck tk:Nat)(np cp ep kp tp rp:Pos)(h₀:yt)(hs:Wp yt):Wp vH:=[.Try [.Return (Gc (.Tuple [.Constant (.str wd) ck kp,.Call (.Name p np) [] [] cp] tk ep)) rp] (h₀::hs) [] [] tp]
noncomputable def U2(wd:Str)(x:Str)(Jg:Wp Nat)(F:Ev)(R:Rx)(n:Nat)(h:Tg->Ex):Ev:=λE S=>
 if S.any (U0 x)=true then
  match F (TV Jg E) S with
  |some q=>Gc ((.tup [.str wd,q.1]),q.2)
  |none=>(R (TV Jg E) S).bind λq=>(h q.1 (none::uo n none) q.2.2).bind λz=>match z.1 with| .ret d=>Gc (d,z.2.2)| .nx=>none
 else none
def VY{X:Cx}{pins:Wp (uf×Obj)}{σ:Sg}{H:Hp}{s:ui}{k:Nat}{fg f:uf}{fd:zE}{g p x:Str}{st:vH}{body:vi}{sc:wX}{clos:Wp (Str×uf)}{N':Wp Str}{σc:Sg}{Q:VK}{np cp ep kp tp rp:Pos}{rs:Wp Str}(I:Inv X pins σ H s)(Fu:Fun X.K g g st fg fd)(S:Aj (p::rs) [p] (AB st))(Bi:Binds X.K fd [p] [])(hr:Cj (k+3) X.A)(L:NG H s.heap x body sc clos N' σc f)(eb:Ar st=Na p wd ck tk np cp ep kp tp rp h₀ hs)(hv:Vis (AB st) p)(hd1:(p==("__debug__":Str))=false)(hd2:(p==("__classdict__":Str))=false)(hb:∀c' A outer s H,Cj k (A.deeper (wx (Lm x) sc s.heap.objs.size f (.ref c') clos))->DE (Mz X.prog X.w X.K X.mg X.base N' x sc clos f c' A outer s H) body F)(hx:∀c' A outer s H,Cj k (A.deeper (wx (Lm x) sc s.heap.objs.size f (.ref c') clos))->RE (Mz X.prog X.w X.K X.mg X.base N' x sc clos f c' A outer s H) body R)(hh:∀cdv A outer s H,HS (IW CX0 X.prog X.w X.K X.mg X.base (p::rs) g (AB st) fg cdv A outer s H E0).nox (h₀::hs) hd)(h:∃M E S,EnR X.K M E σc H/\StR X.K M S H/\((∃d S',F E S=Gc (d,S')/\∀v H' M',Gr M H M' H'->StR X.K M' S' H'->BM X.K M' H' v (.tup [.str wd,d])->Q v H')\/∃y E' S' d E2 S2,R E S=Gc (y,E',S')/\hd y (none::uo rs.length none) S'=Gc (.ret d,E2,S2)/\∀v H' M',Gr M H M' H'->StR X.K M' S2 H'->BM X.K M' H' v d->Q v H')):wpAny (model X.prog X.w) X.A (call (.ref fg) [.ref f]) (EP X pins σ Q) X.xe s:=by
 refine fN (k:=k+2) (vs:=[.ref f]) Fu S Bi hr I (.cons rfl .nil) rfl λcdv hrg=>?_
 have hrl:Cj (k+1) (X.A.deeper (u4 g (AB st) s.heap.objs.size fg cdv)):=hrg.mono (by lia)
 let Xg:=(IW CX0 X.prog X.w X.K X.mg X.base (p::rs) g (AB st) fg cdv X.A X.stack s H E0).nox
 have p1:=Yg (X:=Xg) (t:=tD X.K F) (i:=0) (y:=p) (p:=np) (pos:=cp) hrl rfl L (λc' s H z=>(hb c' Xg.A Xg.stack s H z).pe) rfl hv hd1 hd2
 have p2:=XU (X:=Xg) (t:=tR X.K X.mg R) (i:=0) (y:=p) (p:=np) (pos:=cp) hrl rfl L (λc' s H z=>(hx c' Xg.A Xg.stack s H z).pe) rfl hv rfl hd1 hd2
 have hst:ue [.Constant (.str wd) ck kp,.Call (.Name p np) [] [] cp] Xg.env=[(false,eval (.Constant (.str wd) ck kp) Xg.env),(false,eval (.Call (.Name p np) [] [] cp) Xg.env)]:=rfl
 have q1:PSs Xg [.Return (Gc (.Tuple [.Constant (.str wd) ck kp,.Call (.Name p np) [] [] cp] tk ep)) rp] _:=KR (Ry (Uu (F5 Nd (F5 p1 NU rfl) rfl)))
 have qx:=X6 (pos:=ep) (k:=tk) (Nd (X:=Xg) (x:=wd) (j:=ck) (pos:=kp)) p2 rfl hst
 have q2:PXs Xg [.Return (Gc (.Tuple [.Constant (.str wd) ck kp,.Call (.Name p np) [] [] cp] tk ep)) rp] (λσ H Z=>σ[0]?=Gc (Gc (.ref f))/\tR X.K X.mg R σc H λC od _ H'=>Z C od σ H'):=λpins s σ H Z I q=>
  xy (AAd (vo (qx pins s σ H Z I q) (λ_ _ z=>z.elim) λ_ _ z=>z))
 have q3:=KR (aq (pos:=tp) q1 q2 (hh cdv X.A X.stack s H) rfl rfl rfl rfl)
 refine⟨_,by rw[eb];exact q3,?_⟩
 obtain⟨M,E,S0,r,sr,w⟩:=h
 rcases w with⟨d,S',e,q⟩|⟨y,E',S',d,E2,S2,e,e2,q⟩
 .refine .inl ⟨rfl,M,E,S0,d,S',e,r,sr,λv H' M' gr st' rd=>⟨by rw[xI];simp,λl hl=>?_⟩⟩
  have g2:=CS (o:=HO.tup [V.str wd,v]) hl
  exact q _ _ M' (gr.trans (.grow st'.mo g2)) (st'.grow g2) (.tup (.of AX) (.cons (.str wd) (.cons (rd.step (Gr.grow st'.mo g2).st) .nil)))
 .refine .inr ⟨y,rfl,M,E,S0,y,E',S',e,r,sr,λC od σ' H' M' hm gr er st'=>⟨hm,?_⟩⟩
  refine⟨M',_,S',.ret d,E2,S2,e2,?_,st',λv2 H2 M2 g2 st2 r2=>q v2 H2 M2 (gr.trans g2) st2 r2⟩
  exact⟨by simp[L2.start],λi d e=>by rw[<-wJ,y7]at e;split at e<;>cases e⟩
def cL{X:Cx}{k:Nat}{g p x:Str}{st:vH}{body:vi}{sc:wX}{params:Arguments}{N':Wp Str}{Jg:Wp Nat}{gp pl pos np cp ep kp tp rp:Pos}{h₀:yt}(G:St.Src X.K X.mg g st)(S:Aj (p::rs) [p] (AB st))(LS:LV X.N X.env.scope N' Jg sc)(ci:UM X x)(bm:BmB X.mg X.base)(hr:Cj (k+3) X.A)(hg:Gl X g)(hb:∀f c' clos A outer s H,Cj k (A.deeper (wx (Lm x) sc s.heap.objs.size f (.ref c') clos))->DE (Mz X.prog X.w X.K X.mg X.base N' x sc clos f c' A outer s H) body F)(hx:∀f c' clos A outer s H,Cj k (A.deeper (wx (Lm x) sc s.heap.objs.size f (.ref c') clos))->RE (Mz X.prog X.w X.K X.mg X.base N' x sc clos f c' A outer s H) body R)(hh:∀fg cdv A outer s H,HS (IW CX0 X.prog X.w X.K X.mg X.base (p::rs) g (AB st) fg cdv A outer s H E0).nox (h₀::hs) hd)(eb:zn (Ar st=Na p wd ck tk np cp ep kp tp rp h₀ hs) ww)(hv:zn (Vis (AB st) p) v4)(hqual:zn (X.env.qual=x++(".<locals>.":Str)) ww)(hdf:zn (defaultsOf params X.env=([],[])) ww)(hp:zn (∀clos pm c' ctv,bindArgs (zO "<lambda>" (Lm x) params body sc clos pm (.ref c') ctv) ⟨[],[]⟩=pure []) u8)(hbi:zn (BnR g st [p]) wP)(hdb:zn ((g==("__debug__":Str))=false) xz)(hd1:zn ((p==("__debug__":Str))=false) xz)(hd2:zn ((p==("__classdict__":Str))=false) xz)(he:zn (ue [Expr.Lambda params body sc pl] X.env=[(false,eval (.Lambda params body sc pl) X.env)]) ww):DE X (.Call (.Name g gp) [.Lambda params body sc pl] [] pos) (U2 wd x Jg F R rs.length hd):=⟨by
 intro pins s σ H Q I h
 obtain⟨M,E,S0,d,S',e,r,sr,q⟩:=h
 unfold U2 at e
 split at e
 case isFalse=>cases e
 rename_i hany
 obtain⟨n,hn⟩:=VZ hany
 obtain⟨P,hc,ps,hP,tok⟩:=sr.at hn
 obtain⟨c,hcode,hcd⟩:=ci P tok.tat I.ok.mod.kin I.ok.mod.glob
 obtain⟨fg,fd,Fu,hm⟩:=G.ex
 have hcl:∀y∈sc.names,y.2=.free->∃a,X.env.cells.lookup y.1=Gc a:=λy hy hf=>I.ok.has y.1 (.inl (LS.free y hy hf))
 refine wD (H0 I hg hm ?_ hdb)
 refine wj (h₀:=X.base) I.ok.mod.kin Fu.kp ?_ he rfl
 rw[he]
 show wpAny _ _ (spliced ((false,eval (.Lambda params body sc pl) X.env)::backTo pos [])) _ _ s
 refine xE (XO I hqual hdf (OA hcl) hcode hcd bm hP tok λf H' s1 mk=>?_)
 refine z7 ⟨mk.inv.kIn,?_⟩
 obtain⟨sr1,g1⟩:=gZ sr hc hn mk
 have L:=gF LS mk λpm c' ctv=>hp _ pm c' ctv
 refine VY mk.inv Fu S (bnR Fu hbi) hr L eb hv hd1 hd2 (λc'=>hb f c' _) (λc'=>hx f c' _) (hh fg) ⟨M,TV Jg E,S0,(r.step g1.st).NA Jg,sr1,?_⟩
 split at e
 .rename_i w ew
  cases e
  exact .inl ⟨w.1,w.2,ew,λv H2 M2 g2 st2 rd=>q v H2 M2 (g1.trans g2) st2 rd⟩
 .obtain⟨⟨y,E',S1⟩,e1,e⟩:=Ac e
  obtain⟨⟨fl,E2,S2⟩,e2,e⟩:=Ac e
  cases fl with
  |nx=>cases e
  |ret w=>
   cases e
   exact .inr ⟨y,E',S1,_,E2,S2,e1,e2,λv H2 M2 g2 st2 rd=>q v H2 M2 (g1.trans g2) st2 rd⟩⟩
section
noncomputable def Dy:D:=.tup [.int 0,.int 1]
noncomputable def N9:D:=.tup [.int 1,.int 1]
noncomputable def BS:D:=.tup [.str "bring",.str "pool",.str "swap",.str "trade"]
def Fj:=AZ (D6 (eOp (o2 QK) [eV 0,eC (.ty "int")]) (Ew (eOp (o2 QK) [eV 0,eC (.ty "bool")])))
def Cd:=AS (AV 1 Fj)
def Gs:=AZ (D6 (AF Cd [eV 0]) (eOp (o2 wGe) [eV 0,eV 1]))
def Bm:=AS (AV 2 Gs)
def Ds:=AZ (D6 (AF Bm [eV 0,eV 1]) (eOp (o2 wLe) [eV 0,eV 2]))
def Ab:=AS (AV 3 Ds)
def Es:=AN (Tx 0 1 (eOp (o1 eP) [eV 0]) (eOp (o1 eP) [eV 1])) (AN (PB (We 1) (eOp (o2 wNe) [eV 1,eI 0]) (Tx 0 1 (eV 1) (eOp (o2 Oz) [eV 0,eV 1]))) (AZ (eV 0)))
def BR:=AS (AV 2 Es)
def NS:=AN (Ay 2 (AF BR [eV 0,eV 1])) (AZ (A9 [eOp (o2 OM) [eV 0,eV 2],eOp (o2 OM) [eV 1,eV 2]]))
def Cz:=AS (AV 3 NS)
def R4:=AZ (AF Cz [eOp (o2 CN) [eOp (o2 B5) [eIx (eV 0) (eI 0),eIx (eV 1) (eI 1)],eOp (o2 B5) [eIx (eV 1) (eI 0),eIx (eV 0) (eI 1)]],eOp (o2 B5) [eIx (eV 0) (eI 1),eIx (eV 1) (eI 1)]])
def E5:=AS (AV 2 R4)
def Rc:=AZ (AF Cz [eOp (o2 QJ) [eOp (o2 B5) [eIx (eV 0) (eI 0),eIx (eV 1) (eI 1)],eOp (o2 B5) [eIx (eV 1) (eI 0),eIx (eV 0) (eI 1)]],eOp (o2 B5) [eIx (eV 0) (eI 1),eIx (eV 1) (eI 1)]])
def J0:=AS (AV 2 Rc)
def O2:=AZ (AF Cz [eOp (o2 B5) [eIx (eV 0) (eI 0),eIx (eV 1) (eI 0)],eOp (o2 B5) [eIx (eV 0) (eI 1),eIx (eV 1) (eI 1)]])
def FL:=AS (AV 2 O2)
def PH:=AN (Ay 4 (eOp (o2 CN) [eOp (o2 B5) [eOp (o2 B5) [eIx (eV 0) (eI 0),eIx (eV 2) (eI 1)],eV 1],eOp (o2 B5) [eOp (o2 B5) [eIx (eV 2) (eI 0),eIx (eV 0) (eI 1)],eV 3]])) (AZ (AF Cz [eV 4,eOp (o2 B5) [eOp (o2 B5) [eIx (eV 0) (eI 1),eIx (eV 2) (eI 1)],eOp (o2 CN) [eV 1,eV 3]]]))
def Hy:=AS (AV 5 PH)
def F9:=AZ (D6 (eOp (o2 wLt) [eV 1,eOp (o1 Eu) [eV 0]]) (eOp (o2 wGe) [eIx (eIx (eV 0) (eV 1)) (eI 1),eV 2]))
def BU:=AS (AV 3 F9)
def Ff:=AZ (D6 (AF BU [eV 0,eV 1,eI 1]) (D6 (AF BU [eV 0,eV 2,eI 1]) (eOp (o2 wEq) [eIx (eIx (eV 0) (eV 1)) (eI 0),eIx (eIx (eV 0) (eV 2)) (eI 0)])))
def Dg:=AS (AV 3 Ff)
def IC:=AZ (D6 (AF BU [eV 0,eV 1,eV 2]) (eOp (o2 wNe) [eIx (eIx (eV 0) (eV 1)) (eI 0),eV 3]))
def DV:=AS (AV 4 IC)
def DU:=AN (Ay 3 (eIx (eV 2) (eI 0))) (AN (xIf (eOp (o2 wEq) [eV 3,eC (.str "pool")]) (AZ (AF Dg [eV 0,eIx (eV 2) (eI 1),eIx (eV 2) (eI 2)])) BO) (AN (xIf (eOp (o2 wEq) [eV 3,eC (.str "swap")]) (AZ (AF DV [eV 0,eIx (eV 2) (eI 1),eIx (eV 2) (eI 2),eIx (eV 2) (eI 3)])) BO) (AN (xIf (eOp (o2 wEq) [eV 3,eC (.str "trade")]) (AN (Ay 4 (Bk [] 1 (F7 (eV 1)) (tNm 0) (eOp (o2 wEq) [eIx (eV 0) (eI 0),eC (.str "trade")]) (eIx (eV 0) (eI 1)))) (AZ (D6 (eOp (o2 (wIn true)) [eIx (eV 2) (eI 1),eV 4]) (AF DV [eV 0,eIx (eV 2) (eI 2),eIx (eV 2) (eI 3),eIx (eV 2) (eI 4)])))) BO) (AN (xIf (eOp (o2 (wIn false)) [eV 3,A9 [eC (.str "spoil"),eC (.str "throw")]]) (AZ (AF BU [eV 0,eIx (eV 2) (eI 1),eIx (eV 2) (eI 2)])) BO) (AZ (eC (.bl true)))))))
def Bc:=AS (AV 5 DU)
def G7:=AN (II (tTp [tNm 3,tNm 4]) (eIx (eV 0) (eV 1))) (AZ (eOp (o2 CN) [eOp (o2 CN) [eOp (Ih false true) [eV 0,eV 1],Ja [A9 [eV 3,eOp (o2 QJ) [eV 4,eV 2]]]],eOp (Ih true false) [eV 0,eOp (o2 CN) [eV 1,eI 1]]]))
def BN:=AS (AV 5 G7)
def BH:=AN (Ay 2 (eIx (eV 1) (eI 0))) (AN (xIf (eOp (o2 wEq) [eV 2,eC (.str "bring")]) (AZ (eOp (o2 CN) [eV 0,Ja [A9 [eIx (eV 1) (eI 2),eIx (eV 1) (eI 3)]]])) BO) (AN (xIf (eOp (o2 wEq) [eV 2,eC (.str "pool")]) (AN (II (tTp [tNm 3,tNm 4]) (eIx (eV 0) (eIx (eV 1) (eI 1)))) (AN (Ay 5 (eIx (eIx (eV 0) (eIx (eV 1) (eI 2))) (eI 1))) (AZ (eOp (o2 CN) [AF BN [AF BN [eV 0,eIx (eV 1) (eI 1),eV 4],eIx (eV 1) (eI 2),eV 5],Ja [A9 [eV 3,eOp (o2 CN) [eV 4,eV 5]]]])))) BO) (AN (xIf (eOp (o2 (wIn false)) [eV 2,A9 [eC (.str "swap"),eC (.str "trade")]]) (AN (II (tTp [tNm 6,tNm 7,tNm 3,tNm 8]) (eOp (Ih true false) [eV 1,eOp (o1 Tv) [eI 4]])) (AZ (eOp (o2 CN) [AF BN [eV 0,eV 6,eV 7],Ja [A9 [eV 3,eV 8]]]))) BO) (AN (xIf (eOp (o2 (wIn false)) [eV 2,A9 [eC (.str "spoil"),eC (.str "throw")]]) (AZ (AF BN [eV 0,eIx (eV 1) (eI 1),eIx (eV 1) (eI 2)])) BO) (AZ (eV 0))))))
def Ad:=AS (AV 9 BH)
def GK:=AZ (Bk [] 1 (F7 (eIx (eV 0) (eI 1))) (tNm 0) BI (A9 [eIx (eV 0) (eI 0),eIx (eV 0) (eI 1)]))
def B4:=AS (AV 1 GK)
def Dt:=AN (Ay 1 (eIx (eV 0) (eI 0))) (AN (xIf (eOp (o2 wEq) [eV 1,eC (.str "pool")]) (AZ (eOp (o1 Og) [Ja [eIx (eV 0) (eI 1),eIx (eV 0) (eI 2)]])) BO) (AN (xIf (eOp (o2 (wIn false)) [eV 1,A9 [eC (.str "swap"),eC (.str "trade")]]) (AZ (Ja [eIx (eV 0) (eOp (o1 Tv) [eI 4])])) BO) (AZ (Ja []))))
def Be:=AS (AV 2 Dt)
def Dz:=AN (Ay 1 (AF B4 [eV 0])) (AN (Ay 2 (eIx (eV 0) (eI 2))) (AN (NH (bf (eV 2)) (tTp [tNm 3,tNm 4]) (AN (xIf (Ew (AF Bc [eV 1,eOp (Ih false true) [eV 2,eV 3],eV 4])) (AZ (eV 3)) BO) (Ay 1 (AF Ad [eV 1,eV 4])))) (AZ (eC .non))))
def BF:=AS (AV 5 Dz)
def Cv:=AN (Ay 1 (AF BF [eV 0])) (xIf (eOp (o2 (Wu true)) [eV 1,eC .non]) CY BO)
def AU:=AS (AV 2 Cv)
def Et:=xIf (Ew (AF Ab [eV 1,eI 0,eOp (o1 Eu) [eIx (eV 0) (eI 2)]])) CY BO
def Bs:=AS (AV 2 Et)
def IY:=AZ (eOp (o1 B7) [Bk [1] 1 (Oy [eV 0]) (tNm 1) BI (eIf (eOp (o2 wEq) [eV 1,eV 0]) (eC N9) (eC Dy))])
def ES:=AS (AV 2 IY)
def HA:=AZ (eOp (o1 B7) [Bk [1,3] 2 (bC (eV 0) (eV 2)) (tTp [tNm 2,tNm 3]) BI (AF Hy [eV 2,eV 0,eV 3,eV 1])])
def CL:=AS (AV 4 HA)
def CW:=AN (Ay 3 (AF Be [eV 2])) (AN (xIf (eOp (o2 wEq) [eOp (o1 Eu) [eV 3],eI 1]) (AZ (eIx (eV 1) (eIx (eV 3) (eI 0)))) BO) (AN (II (tTp [tNm 4,tNm 5]) (eV 3)) (AZ (AF CL [eIx (eV 1) (eV 4),eIx (eIx (eV 0) (eV 4)) (eI 1),eIx (eV 1) (eV 5),eIx (eIx (eV 0) (eV 5)) (eI 1)]))))
def A7:=AS (AV 6 CW)
def G5:=AZ (eOp (o2 CN) [eOp (o1 Xu) [Bk [2] 2 (F7 (eV 1)) (tTp [tNm 1,tNm 2]) BI (eOp (o2 B5) [eV 2,eIx (eV 0) (eV 1)])],eOp (o2 B5) [eIx (eV 0) (eI 2),eIx (eV 2) (eOp (o1 Tv) [eI 1])]])
def DH:=AS (AV 3 G5)
def Hj:=AN (II (tTp [tNm 3,tNm 4,tNm 5]) (eOp (Ih true false) [eV 2,eI 1])) (AZ (AF Cz [eOp (o2 B5) [eV 4,eIx (eV 5) (eIx (eIx (eV 1) (eV 3)) (eI 0))],AF DH [eV 0,eV 1,eV 5]]))
def D5:=AS (AV 6 Hj)
def GP:=AN (II (tTp [tNm 5,tNm 6]) (AF D5 [eV 0,eV 1,eV 3])) (AZ (AF CL [eV 4,eOp (o2 QJ) [eV 6,eV 5],eIx (eV 2) (eIx (eV 3) (eI 1)),eV 5]))
def Ct:=AS (AV 7 GP)
def Hw:=AN (II (tTp [tNm 2,tNm 3,tNm 4]) (eOp (Ih true false) [eV 0,eI 1])) (AN (Ay 5 (AF FL [eIx (eV 1) (eV 2),eV 4])) (AN (Ay 6 (fC (o1 Pt) [eV 1])) (AN (Mq (AF J0 [eIx (eV 1) (eV 2),eV 5]) (eV 6) (eV 2)) (AN (Mq (AF E5 [eIx (eV 1) (eV 3),eV 5]) (eV 6) (eV 3)) (AZ (eOp (o1 B7) [eV 6]))))))
def Du:=AS (AV 7 Hw)
def Av:=AN (xIf (eOp (o2 wEq) [eIx (eV 3) (eI 0),eC (.str "throw")]) (AZ (AF Ct [eV 0,eV 1,eV 2,eV 3,eV 4])) BO) (AN (xIf (eOp (o2 wEq) [eIx (eV 3) (eI 0),eC (.str "sell")]) (AZ (AF Du [eV 3,eV 4])) BO) (AZ (eV 4)))
def AY:=AS (AV 5 Av)
def Aw:=AN (Ay 4 (Bk [0,1,2,3] 1 (F7 (eV 2)) (tNm 4) BI (AF AY [eV 0,eV 1,eV 2,eV 3,eV 4]))) (AN (xIf (eOp (o2 wEq) [eIx (eV 3) (eI 0),eC (.str "bring")]) (AZ (eOp (o2 CN) [eV 4,Ja [AF ES [eIx (eV 0) (eI 0),eIx (eV 3) (eI 1)]]])) BO) (AN (xIf (eOp (o2 (wIn false)) [eIx (eV 3) (eI 0),eC BS]) (AZ (eOp (o2 CN) [eV 4,Ja [AF A7 [eV 1,eV 2,eV 3]]])) BO) (AZ (eV 4))))
def Ah:=AS (AV 5 Aw)
def Ks:=AN (II (tTp [tNm 2,tNm 3,tNm 4]) (eV 0)) (AN (Ay 5 (AF B4 [eV 0])) (AN (Ay 6 (Bk [] 1 (F7 (eV 3)) (tNm 0) BI (eIx (eV 0) (eI 2)))) (AN (Ay 7 (eIx (eV 2) (eI 3))) (AN (NH (F7 (eOp (Ih false true) [eV 4,eV 1])) (tNm 8) (AN (Ay 7 (AF AY [eV 2,eV 5,eV 6,eV 8,eV 7])) (AN (Ay 6 (AF Ah [eV 2,eV 5,eV 6,eV 8])) (Ay 5 (AF Ad [eV 5,eV 8]))))) (AZ (A9 [eV 5,eV 6,eV 7]))))))
def Fv:=AS (AV 9 Ks)
def GY:=AN (xIf (eOp (o2 wLt) [eV 1,eOp (o1 Eu) [eV 0]]) (AZ (eIx (eV 0) (eV 1))) BO) (AZ (eI 0))
def Cq:=AS (AV 2 GY)
def Pu:=AZ (JV [eV 0,eOp (o1 Wl) [eOp (o2 wGe) [eV 0,eOp (o2 k7) [eI 10,eI 18]]],eI 0,eOp (o2 Oz) [eV 0,eI 1000000007]])
def Hh:=AS (AV 1 Pu)
def IL:=AN (xIf (D6 (eOp (o2 wEq) [eIx (eV 0) (eI 1),eI 1]) (eOp (o2 wGt) [eIx (eV 0) (eI 0),eI 0])) (AN (Ay 2 (eOp (o2 Oz) [eIx (eV 0) (eI 0),eV 1])) (AN (Mq (eOp (o2 OM) [eIx (eV 0) (eI 0),eV 1]) (eV 0) (eI 0)) (AZ (eV 2)))) BO) (AN (Mq (eOp (o2 CN) [eIx (eV 0) (eI 2),eI 1]) (eV 0) (eI 2)) (AN (Ay 3 (eOp (o2 Oz) [eOp (o2 B5) [eOp (o2 CN) [eIx (eV 0) (eI 3),eI 17],eOp (o2 CN) [eI 69621,eOp (o2 B5) [eI 2,eIx (eV 0) (eI 2)]]],eI 2147483647])) (AN (Ay 3 (eOp (o2 Oz) [eOp (o2 CN) [eOp (o2 CN) [eOp (o2 B5) [eV 3,eV 3],eOp (o2 B5) [eI 40503,eIx (eV 0) (eI 2)]],eI 5],eI 2147483629])) (AZ (eOp (o2 Oz) [eOp (o2 OM) [eOp (o2 Oz) [eOp (o2 B5) [eV 3,eI 48271],eI 2147483647],eI 32],eV 1])))))
def AG:=AS (AV 4 IL)
def Kz:=AN (PB (We 1) (eOp (o2 wGt) [eV 1,eI 0]) (Tx 0 1 (eV 1) (eOp (o2 Oz) [eV 0,eV 1]))) (AZ (eV 0))
def Fm:=AS (AV 2 Kz)
def NV:=AN (Ay 2 (AF Fm [eOp (o1 eP) [eV 0],eV 1])) (AZ (A9 [eOp (o2 OM) [eV 0,eV 2],eOp (o2 OM) [eV 1,eV 2]]))
def BY:=AS (AV 3 NV)
def Nj:=AZ (AF BY [eOp (o2 CN) [eOp (o2 B5) [eIx (eV 0) (eI 0),eIx (eV 1) (eI 1)],eOp (o2 B5) [eIx (eV 1) (eI 0),eIx (eV 0) (eI 1)]],eOp (o2 B5) [eIx (eV 0) (eI 1),eIx (eV 1) (eI 1)]])
def BX:=AS (AV 2 Nj)
def Lk:=AZ (AF BY [eOp (o2 B5) [eIx (eV 0) (eI 0),eIx (eV 1) (eI 0)],eOp (o2 B5) [eIx (eV 0) (eI 1),eIx (eV 1) (eI 1)]])
def Af:=AS (AV 2 Lk)
def Nq:=AZ (AF BX [eV 0,A9 [eOp (o2 QJ) [eI 0,eIx (eV 1) (eI 0)],eIx (eV 1) (eI 1)]])
def Dh:=AS (AV 2 Nq)
def Ir:=AN (Ay 2 (ZF [0] 1 (Oy [eV 1]) (tNm 1) BI (eIx (Ja [eI 0,eI 1,AF AG [eV 0,eI 4],AF AG [eV 0,eI 9]]) (AF AG [eV 0,eI 4])))) (AN (xIf (eOp (o2 wEq) [eOp (o1 Xu) [eV 2],eI 0]) (Mq (eI 1) (eV 2) (AF AG [eV 0,eV 1])) BO) (AZ (eOp (o1 B7) [Bk [2] 1 (F7 (eV 2)) (tNm 1) BI (AF BY [eV 1,eOp (o1 Xu) [eV 0]])])))
def DP:=AS (AV 3 Ir)
def ID:=AN (Ay 1 (eOp (o2 CN) [eOp (o2 k7) [eI 10,eI 30],AF AG [eV 0,eI 99]])) (AZ (eIx (Ja [eOp (o2 CN) [eI 1,AF AG [eV 0,eI 4]],eOp (o2 CN) [eI 1,AF AG [eV 0,eI 40]],eOp (o2 CN) [eI 1,AF AG [eV 0,eI 999]],eV 1]) (eOp (o2 OM) [AF AG [eV 0,eI 7],eI 2])))
def A8:=AS (AV 2 ID)
def MT:=AN (Tx 1 2 (eOp (o2 CN) [eI 1,AF AG [eV 0,eI 4]]) (eOp (o2 CN) [eI 1,AF AG [eV 0,eI 5]])) (AN (Ay 3 (eIx (Ja [eOp (o2 CN) [eI 1,AF AG [eV 0,eI 3]],eOp (o2 CN) [eI 1,AF AG [eV 0,eI 20]]]) (AF AG [eV 0,eI 2]))) (AZ (A9 [eV 1,eV 2,eV 3,AF DP [eV 0,eV 1],AF AG [eV 0,eI 10],AF AG [eV 0,eI 10]])))
def Gz:=AS (AV 4 MT)
def MA:=AN (Ay 2 (JV [])) (AN (NH (Oy [eIx (Ja [eI 0,eI 1,AF AG [eV 0,eI 5]]) (AF AG [eV 0,eI 3])]) (tNm 3) (Bo (NC Nt (eV 2) [A9 [AF AG [eV 0,eIx (eV 1) (eI 1)],AF A8 [eV 0],AF DP [eV 0,eIx (eV 1) (eI 0)]]]))) (AZ (eOp (o1 B7) [eV 2])))
def Gu:=AS (AV 4 MA)
def ME:=AN (Ay 1 (eOp (o2 CN) [eI 1,AF AG [eV 0,eI 12]])) (AZ (AF BY [eOp (o2 CN) [eI 1,AF AG [eV 0,eV 1]],eV 1]))
def FY:=AS (AV 2 ME)
def K3:=AZ (eOp (o1 B7) [Bk [0] 1 (Oy [eV 1]) (tNm 1) BI (eOp (o2 CN) [eI 1,eIx (Ja [AF AG [eV 0,eI 3],AF AG [eV 0,eI 99]]) (AF AG [eV 0,eI 2])])])
def Di:=AS (AV 2 K3)
def MP:=AZ (JV [ZF [] 1 (F7 (eIx (eV 0) (eI 1))) (tNm 0) BI (fC (o1 Pt) [eV 0]),eOp (o1 B7) [eIx (eIx (eV 0) (eI 0)) (eI 3)],JV []])
def CC:=AS (AV 1 MP)
def K4:=AN (Ay 2 (JV [])) (AN (NH (bC (eIx (eV 0) (eI 2)) (eIx (eV 1) (eI 2))) (tTp [tNm 3,tNm 4]) (AN (Ay 5 (AF BX [AF Af [A9 [eIx (eV 0) (eI 1),eI 1],eV 3],AF Af [A9 [eIx (eV 1) (eI 1),eI 1],eV 4]])) (Bo (NC Nt (eV 2) [AF Af [eV 5,AF BY [eI 1,eOp (o2 CN) [eIx (eV 0) (eI 1),eIx (eV 1) (eI 1)]]]])))) (AZ (eOp (o1 B7) [eV 2])))
def Ft:=AS (AV 6 K4)
def Np:=AN (Ay 3 (eIx (eV 2) (eI 3))) (AN (Ay 4 (eOp (o2 CN) [eOp (o1 Xu) [Bk [3] 3 (F7 (eV 1)) (tTp [tNm 1,tNm 2,tNm 3]) BI (eOp (o2 B5) [eV 2,eIx (eV 0) (eV 1)])],eOp (o2 B5) [eIx (eV 0) (eI 2),eIx (eV 3) (eOp (o1 Tv) [eI 1])]])) (AZ (AF BY [eOp (o2 B5) [eIx (eV 2) (eI 2),eIx (eV 3) (eIx (eIx (eV 1) (eIx (eV 2) (eI 1))) (eI 0))],eV 4])))
def IG:=AS (AV 5 Np)
def Lg:=AN (Ay 3 (JV [])) (AN (NH (bC (eV 0) (eV 2)) (tTp [tNm 4,tNm 5]) (Bo (NC Nt (eV 3) [AF BX [AF Af [eV 4,AF Dh [A9 [eI 1,eI 1],eV 1]],AF Af [eV 5,eV 1]]]))) (AZ (eOp (o1 B7) [eV 3])))
def EH:=AS (AV 6 Lg)
def Nr:=AN (Ay 2 (fC (o1 Pt) [eV 0])) (AN (Ay 3 (AF Af [eIx (eV 2) (eIx (eV 1) (eI 1)),eIx (eV 1) (eI 3)])) (AN (Mq (AF Dh [eIx (eV 2) (eIx (eV 1) (eI 1)),eV 3]) (eV 2) (eIx (eV 1) (eI 1))) (AN (Mq (AF BX [eIx (eV 2) (eIx (eV 1) (eI 2)),eV 3]) (eV 2) (eIx (eV 1) (eI 2))) (AZ (eOp (o1 B7) [eV 2])))))
def E8:=AS (AV 4 Nr)
def Kj:=AN (II (tTp [tNm 3,tNm 4,tNm 5]) (eV 1)) (xIf (eOp (o2 wEq) [eIx (eV 2) (eI 0),eC (.str "throw")]) (AN (Tx 6 7 (AF IG [eV 0,eV 3,eV 2]) (eIx (eIx (eV 3) (eIx (eV 2) (eI 1))) (eI 2))) (AN (Mq (eOp (o2 QJ) [eIx (eIx (eV 3) (eIx (eV 2) (eI 1))) (eI 1),eIx (eV 2) (eI 2)]) (eIx (eV 3) (eIx (eV 2) (eI 1))) (eI 1)) (AN (NH (F7 (eV 3)) (tNm 8) (Mq (AF EH [eIx (eV 8) (eI 2),eV 6,eV 7]) (eV 8) (eI 2))) (Mq (AF EH [eV 4,eV 6,eV 7]) (eV 1) (eI 1))))) (AN (NH (F7 (eV 3)) (tNm 8) (Mq (AF E8 [eIx (eV 8) (eI 2),eV 2]) (eV 8) (eI 2))) (Mq (AF E8 [eV 4,eV 2]) (eV 1) (eI 1))))
def FA:=AS (AV 9 Kj)
def Fq:=AN (II (tTp [tNm 3,tNm 4,tNm 5]) (eV 1)) (AN (Ay 6 (eIx (eV 2) (eI 0))) (xIf (eOp (o2 wEq) [eV 6,eC (.str "bring")]) (Bo (NC Nt (eV 3) [JV [eIx (eV 2) (eI 2),eIx (eV 2) (eI 3),eOp (o1 B7) [Bk [2] 1 (Oy [eIx (eV 0) (eI 0)]) (tNm 1) BI (A9 [eOp (o1 Wl) [eOp (o2 wEq) [eV 1,eIx (eV 0) (eI 1)]],eI 1])]]])) (xIf (eOp (o2 wEq) [eV 6,eC (.str "pool")]) (AN (Tx 7 8 (eIx (eV 3) (eIx (eV 2) (eI 1))) (eIx (eV 3) (eIx (eV 2) (eI 2)))) (AN (Bo (NC Nt (eV 3) [JV [eIx (eV 7) (eI 0),eOp (o2 CN) [eIx (eV 7) (eI 1),eIx (eV 8) (eI 1)],AF Ft [eV 7,eV 8]]])) (AN (Mq (eI 0) (eV 7) (eI 1)) (Mq (eI 0) (eV 8) (eI 1))))) (xIf (eOp (o2 (wIn false)) [eV 6,A9 [eC (.str "swap"),eC (.str "trade")]]) (AN (II (tTp [tNm 9,tNm 10,tNm 11,tNm 12]) (eOp (Ih true false) [eV 2,eOp (o1 Tv) [eI 4]])) (AN (Mq (eOp (o2 QJ) [eIx (eIx (eV 3) (eV 9)) (eI 1),eV 10]) (eIx (eV 3) (eV 9)) (eI 1)) (AN (Bo (NC Nt (eV 3) [JV [eV 11,eV 12,eIx (eIx (eV 3) (eV 9)) (eI 2)]])) (Bo (NC lh (eV 5) [eOp (o2 B5) [eOp (Ih true true) [eV 2,eI 1,eI 2],eOp (o1 Wl) [eOp (o2 wEq) [eV 6,eC (.str "trade")]]]]))))) (xIf (eOp (o2 wEq) [eV 6,eC (.str "spoil")]) (Mq (eOp (o2 QJ) [eIx (eIx (eV 3) (eIx (eV 2) (eI 1))) (eI 1),eIx (eV 2) (eI 2)]) (eIx (eV 3) (eIx (eV 2) (eI 1))) (eI 1)) (Bo (AF FA [eV 0,eV 1,eV 2])))))))
def Bl:=AS (AV 13 Fq)
def Nm:=AN (II (tTp [tNm 3,tNm 4,tNm 5]) (eV 2)) (AN (Ay 6 (Bk [] 2 (bf (eV 3)) (tTp [tNm 0,tNm 1]) (eOp (o2 wGt) [eIx (eV 1) (eI 1),eI 0]) (eV 0))) (AN (Ay 7 (AF AG [eV 0,eI 12])) (AN (xIf (eOr (eOp (o2 wLt) [eV 7,eI 2]) (eOp (o2 wEq) [eV 6,Ja []])) (AZ (A9 [eC (.str "bring"),AF AG [eV 0,eIx (eV 1) (eI 0)],AF AG [eV 0,eIx (eV 1) (eI 1)],AF A8 [eV 0]])) BO) (AN (Ay 8 (eIx (eV 6) (AF AG [eV 0,eOp (o1 Eu) [eV 6]]))) (AN (Ay 9 (eOp (o2 CN) [eI 1,AF AG [eV 0,eOp (o2 lF) [eIx (eIx (eV 3) (eV 8)) (eI 1),eI 2000]]])) (AN (xIf (eOp (o2 wLt) [eV 7,eI 5]) (AN (Ay 10 (Bk [3,8] 1 (F7 (eV 6)) (tNm 2) (D6 (eOp (o2 wNe) [eV 2,eV 1]) (eOp (o2 wEq) [eIx (eIx (eV 0) (eV 2)) (eI 0),eIx (eIx (eV 0) (eV 1)) (eI 0)])) (eV 2))) (xIf (eOp (o2 wNe) [eV 10,Ja []]) (AZ (A9 [eC (.str "pool"),eV 8,eIx (eV 10) (AF AG [eV 0,eOp (o1 Eu) [eV 10]])])) BO)) BO) (AN (xIf (D6 (eOp (o2 wLt) [eV 7,eI 8]) (eOp (o2 wGt) [eIx (eV 1) (eI 1),eI 1])) (AN (Ay 11 (eOp (o2 Oz) [eOp (o2 CN) [eOp (o2 CN) [eIx (eIx (eV 3) (eV 8)) (eI 0),eI 1],AF AG [eV 0,eOp (o2 QJ) [eIx (eV 1) (eI 1),eI 1]]],eIx (eV 1) (eI 1)])) (AN (Ay 12 (Bk [5] 1 (Oy [eI 10]) (tNm 1) (eOp (o2 (wIn true)) [eV 1,eV 0]) (eV 1))) (AN (xIf (D6 (eOp (o2 wEq) [eV 7,eI 7]) (eOp (o2 wNe) [eV 12,Ja []])) (AZ (A9 [eC (.str "trade"),eIx (eV 12) (AF AG [eV 0,eOp (o1 Eu) [eV 12]]),eV 8,eV 9,eV 11,AF A8 [eV 0]])) BO) (AZ (A9 [eC (.str "swap"),eV 8,eV 9,eV 11,AF A8 [eV 0]]))))) BO) (AN (xIf (eOp (o2 wEq) [eV 7,eI 8]) (AZ (A9 [eC (.str "spoil"),eV 8,eV 9])) BO) (AN (xIf (D6 (eOp (o2 wEq) [eV 7,eI 9]) (eOp (o2 wGt) [eIx (eV 1) (eI 0),eI 1])) (AN (Ay 13 (AF AG [eV 0,eIx (eV 1) (eI 0)])) (AZ (A9 [eC (.str "sell"),eV 13,eOp (o2 Oz) [eOp (o2 CN) [eOp (o2 CN) [eV 13,eI 1],AF AG [eV 0,eOp (o2 QJ) [eIx (eV 1) (eI 0),eI 1]]],eIx (eV 1) (eI 0)],AF FY [eV 0]]))) BO) (AZ (A9 [eC (.str "throw"),eV 8,eV 9,AF Di [eV 0,eOp (o2 CN) [eIx (eV 1) (eI 1),eI 1]]])))))))))))
def DY:=AS (AV 14 Nm)
def K1:=AN (Ay 1 (AF CC [eV 0])) (AN (Ay 2 (JV [A9 [Bk [] 1 (F7 (eIx (eV 1) (eI 0))) (tNm 0) BI (eOp (o1 B7) [eV 0]),eOp (o1 B7) [eIx (eV 1) (eI 1)]]])) (AN (NH (F7 (eIx (eV 0) (eI 2))) (tNm 3) (AN (Bo (AF Bl [eIx (eV 0) (eI 0),eV 1,eV 3])) (Bo (NC Nt (eV 2) [A9 [Bk [] 1 (F7 (eIx (eV 1) (eI 0))) (tNm 0) BI (eOp (o1 B7) [eV 0]),eOp (o1 B7) [eIx (eV 1) (eI 1)]]])))) (AZ (eV 2))))
def EV:=AS (AV 4 K1)
def Mp:=AN (Ay 1 (AF Gz [eV 0])) (AZ (A9 [eV 1,AF Gu [eV 0,eV 1]]))
def FX:=AS (AV 2 Mp)
def JB:=AZ (D6 (eOp (o2 wLt) [eV 1,eOp (o1 Eu) [eV 0]]) (eOp (o2 wGe) [eIx (eIx (eV 0) (eV 1)) (eI 1),eV 2]))
def CZ:=AS (AV 3 JB)
def B1:=AN (II (tTp [tNm 2,tNm 3,tNm 4]) (eV 0)) (AN (xIf (eOp (o2 wEq) [eIx (eV 1) (eI 0),eC (.str "pool")]) (AN (Ay 5 (D6 (AF CZ [eV 2,eIx (eV 1) (eI 1),eI 1]) (AF CZ [eV 2,eIx (eV 1) (eI 2),eI 1]))) (AZ (D6 (eV 5) (eOp (o2 wEq) [eIx (eIx (eV 2) (eIx (eV 1) (eI 1))) (eI 0),eIx (eIx (eV 2) (eIx (eV 1) (eI 2))) (eI 0)])))) BO) (AN (xIf (eOp (o2 (wIn false)) [eIx (eV 1) (eI 0),A9 [eC (.str "swap"),eC (.str "trade")]]) (AN (II (tTp [tNm 6,tNm 7,tNm 8,tNm 9]) (eOp (Ih true false) [eV 1,eOp (o1 Tv) [eI 4]])) (AN (xIf (D6 (eOp (o2 wEq) [eIx (eV 1) (eI 0),eC (.str "trade")]) (eOp (o2 (wIn false)) [eIx (eV 1) (eI 1),eV 4])) (AZ (eC (.bl false))) BO) (AZ (D6 (AF CZ [eV 2,eV 6,eV 7]) (eOp (o2 wNe) [eIx (eIx (eV 2) (eV 6)) (eI 0),eV 8]))))) BO) (AN (xIf (eOp (o2 (wIn false)) [eIx (eV 1) (eI 0),A9 [eC (.str "spoil"),eC (.str "throw")]]) (AZ (AF CZ [eV 2,eIx (eV 1) (eI 1),eIx (eV 1) (eI 2)])) BO) (AZ (eC (.bl true))))))
def BP:=AS (AV 10 B1)
def GI:=AZ (D6 (eOp (o2 wGe) [eV 1,eI 0]) (D6 (eOp (o2 wGt) [eV 2,eI 0]) (D6 (Q4 (eI 0) (eV 3) (eIx (eV 0) (eI 1))) (eOp (o2 wGt) [eV 4,eI 0]))))
def Cy:=AS (AV 5 GI)
def Bh:=AN (Tx 2 3 (eIx (eV 1) (eI 0)) (eOp (Ih true false) [eV 1,eI 1])) (AN (xIf (eOp (o2 wEq) [eV 2,eC (.str "bring")]) (AZ (D6 (eOp (o2 wLt) [eIx (eV 3) (eI 0),eIx (eV 0) (eI 0)]) (D6 (eOp (o2 wLt) [eIx (eV 3) (eI 1),eIx (eV 0) (eI 1)]) (eOp (o2 wGt) [eIx (eV 3) (eI 2),eI 0])))) BO) (AN (xIf (eOp (o2 wEq) [eV 2,eC (.str "pool")]) (AZ (eOp (o2 wNe) [eIx (eV 3) (eI 0),eIx (eV 3) (eI 1)])) BO) (AN (xIf (eOp (o2 (wIn false)) [eV 2,A9 [eC (.str "swap"),eC (.str "trade")]]) (AN (II (tTp [tNm 4,tNm 5,tNm 6,tNm 7]) (eOp (Ih true false) [eV 3,eOp (o1 Tv) [eI 4]])) (AZ (AF Cy [eV 0,eV 4,eV 5,eV 6,eV 7]))) BO) (AN (xIf (eOp (o2 (wIn false)) [eV 2,A9 [eC (.str "spoil"),eC (.str "throw")]]) (AZ (eOp (o2 wGt) [eIx (eV 3) (eI 1),eI 0])) BO) (AZ (D6 (eOp (o2 wLt) [eIx (eV 3) (eI 0),eIx (eV 0) (eI 0)]) (D6 (eOp (o2 wLt) [eIx (eV 3) (eI 1),eIx (eV 0) (eI 0)]) (eOp (o2 wNe) [eIx (eV 3) (eI 0),eIx (eV 3) (eI 1)]))))))))
def A5:=AS (AV 8 Bh)
def Ky:=AN (II (tTp [tNm 2,tNm 3,tNm 4]) (eV 0)) (AN (xIf (Ew (AF A5 [eV 2,eV 1])) (AZ (eC (.str "!deed"))) BO) (AN (Ay 5 (AF CC [eV 0])) (AN (NH (F7 (eV 4)) (tNm 6) (Bo (AF Bl [eV 2,eV 5,eV 6]))) (AN (xIf (Ew (AF BP [eV 5,eV 1])) (AZ (eC (.str "!done"))) BO) (AN (Ay 7 (eOp (o1 Eu) [Bk [] 1 (F7 (eOp (o2 CN) [eV 4,A9 [eV 1]])) (tNm 0) (eOp (o2 wEq) [eIx (eV 0) (eI 0),eC (.str "throw")]) (eV 0)])) (AZ (eIx (Ja [eC (.str "ok"),eC (.str "!many")]) (eOp (o1 Wl) [eOr (eOp (o2 wEq) [eOp (o1 Eu) [eV 4],eI 20]) (eOp (o2 wGt) [eV 7,eI 3])]))))))))
def Ck:=AS (AV 8 Ky)
def K9:=AZ (eOp (o2 CN) [eOp (o1 Eu) [eIx (eV 0) (eI 1)],eOp (o1 Eu) [Bk [] 1 (F7 (eIx (eV 0) (eI 2))) (tNm 0) (eOp (o2 (wIn false)) [eIx (eV 0) (eI 0),A9 [eC (.str "bring"),eC (.str "pool"),eC (.str "swap"),eC (.str "trade")]]) (eV 0)]])
def Cc:=AS (AV 1 K9)
def Fp:=AN (Bo (NC Nt (ON "Leader" "earlier" (eV 0)) [ON "Leader" "kept" (eV 0)])) (W8 "Leader" "kept" (eV 0) (eV 1))
def A4:=AS (AV 2 Fp)
def Im:=AZ (AF Bm [eV 1,eI 1])
def EO:=AS (AV 2 Im)
def Cg:=AZ (D6 (eOp (o2 QK) [eV 0,eC (.ty "tuple")]) (eOp (o2 wEq) [eOp (o1 Eu) [eV 0],eV 1]))
def Ag:=AS (AV 2 Cg)
def Ij:=AZ (D6 (AF Ag [eV 0,eV 1]) (eOp (o1 Ww) [Bk [] 1 (F7 (eV 0)) (tNm 0) BI (AF Ab [eV 0,eI 1,eI 99])]))
def EM:=AS (AV 2 Ij)
def Il:=AZ (AF EM [eV 1,eOp (o2 CN) [eIx (eV 0) (eI 1),eI 1]])
def ET:=AS (AV 2 Il)
def JS:=AZ (AF Ab [eV 1,eI 0,eOp (o2 QJ) [eIx (eV 0) (eI 1),eI 1]])
def DN:=AS (AV 2 JS)
def Fo:=AZ (AF Bm [eV 1,eI 0])
def CQ:=AS (AV 2 Fo)
def F8:=AZ (AF Ab [eV 1,eI 0,eOp (o2 QJ) [eIx (eV 0) (eI 0),eI 1]])
def CM:=AS (AV 2 F8)
def Jp:=AN (xIf (eOr (Ew (eOp (o2 QK) [eV 0,eC (.ty "tuple")])) (eOp (o2 wNe) [eOp (o1 Eu) [eV 0],eI 2])) (AZ (eC (.bl false))) BO) (AN (II (tTp [tNm 1,tNm 2]) (eV 0)) (AZ (D6 (AF Cd [eV 1]) (D6 (AF Bm [eV 2,eI 1]) (eOp (o2 wEq) [AF BR [eV 1,eV 2],eI 1])))))
def E7:=AS (AV 3 Jp)
def K2:=AZ (D6 (AF E7 [eV 0]) (SQ (eI 0) (eIx (eV 0) (eI 0)) (eIx (eV 0) (eI 1))))
def Cp:=AS (AV 1 K2)
def GO:=AZ (D6 (AF Cp [eV 1]) (D6 (eOp (o2 wGt) [eIx (eV 1) (eI 0),eI 0]) (eOp (o2 wLe) [eIx (eV 1) (eI 1),eI 12])))
def Cs:=AS (AV 2 GO)
def FH:=AZ (AF Ab [eV 1,eI 0,eI 9])
def CB:=AS (AV 2 FH)
def Ez:Wp (Str×Fn):=[("partner",CM),("kind",DN),("load",CQ),("number",CB),("pieces",EO),("worths",ET),("share",Cs)]
def Ce:=iI Ez 3 1 [eV 0,eV 2]
def Al:=AS (AV 4 Ce)
noncomputable def Em:Wp (Str×D):=[("bring",.tup [.str "partner",.str "kind",.str "pieces"]),("pool",.tup [.str "load",.str "load"]),("swap",.tup [.str "load",.str "pieces",.str "kind",.str "pieces"]),("trade",.tup [.str "number",.str "load",.str "pieces",.str "kind",.str "pieces"]),("spoil",.tup [.str "load",.str "pieces"]),("throw",.tup [.str "load",.str "pieces",.str "worths"]),("sell",.tup [.str "partner",.str "partner",.str "share"])]
noncomputable def Br:D:=.tup [.str "pool",.str "sell"]
def Lc:=AN (xIf (eOr (Ew (eOp (o2 QK) [eV 1,eC (.ty "tuple")])) (eOp (o2 wEq) [eOp (o1 Eu) [eV 1],eI 0])) (AZ (eC (.bl false))) BO) (AN (Ay 2 (eIx (eV 1) (eI 0))) (AN (xIf (eOr (Ew (eOp (o2 QK) [eV 2,eC (.ty "str")])) (eOp (o1 (NX true Em)) [eV 2])) (AZ (eC (.bl false))) BO) (AN (Ay 3 (eOp (o1 (gn Em)) [eV 2])) (AN (xIf (eOp (o2 wNe) [eOp (o1 Eu) [eV 1],eOp (o2 CN) [eOp (o1 Eu) [eV 3],eI 1]]) (AZ (eC (.bl false))) BO) (AN (xIf (Ew (eOp (o1 Ww) [Bk [0,1] 2 (bf (eV 3)) (tTp [tNm 2,tNm 3]) BI (AF Al [eV 0,eV 3,eIx (eV 1) (eOp (o2 CN) [eV 2,eI 1])])])) (AZ (eC (.bl false))) BO) (AZ (eOr (eOp (o2 (wIn true)) [eV 2,eC Br]) (eOp (o2 wNe) [eIx (eV 1) (eI 1),eIx (eV 1) (eI 2)]))))))))
def BA:=AS (AV 4 Lc)
noncomputable def Fs:D:=.int 20
noncomputable def Ey:D:=.int 3
def GW:=AN (xIf (eOr (Ew (eOp (o2 QK) [eV 1,eC (.ty "tuple")])) (eOp (o2 wGt) [eOp (o1 Eu) [eV 1],eC Fs])) (AZ (eC (.bl false))) BO) (AN (xIf (Ew (eOp (o1 Ww) [Bk [0] 1 (F7 (eV 1)) (tNm 1) BI (AF BA [eV 0,eV 1])])) (AZ (eC (.bl false))) BO) (AZ (eOp (o2 wLe) [eOp (o1 Eu) [Bk [] 1 (F7 (eV 1)) (tNm 0) (eOp (o2 wEq) [eIx (eV 0) (eI 0),eC (.str "throw")]) (eV 0)],eC Ey])))
def BD:=AS (AV 2 GW)
def K6:=AZ (AF Ab [eV 1,eI 0,eOp (o2 QJ) [eOp (o1 Eu) [eIx (eV 0) (eI 2)],eI 1]])
def DX:=AS (AV 2 K6)
def Ie:=AZ (eOp (o2 CN) [eOp (o1 Eu) [eIx (eV 0) (eI 1)],eOp (o1 Eu) [Bk [] 1 (F7 (eOp (Ih false true) [eIx (eV 0) (eI 2),eV 1])) (tNm 0) (eOp (o2 (wIn false)) [eIx (eV 0) (eI 0),eC BS]) (eV 0)]])
def C8:=AS (AV 2 Ie)
def JA:=AN (Bo (AF AU [eV 0])) (AN (xIf (Ew (AF DX [eV 0,eV 1])) CY BO) (AN (xIf (eOp (o2 (wIn true)) [eIx (eIx (eIx (eV 0) (eI 2)) (eV 1)) (eI 0),eC BS]) (AZ (eC .non)) BO) (AZ (AF C8 [eV 0,eV 1]))))
def EF:=AS (AV 2 JA)
def Jc:=AN (II (tTp [tNm 2,tNm 3,tNm 4]) (ON "Leader" "kept" (eV 0))) (AN (xIf (Ew (AF BA [eV 2,eV 1])) CY BO) (AN (Ay 5 (A9 [eV 2,eV 3,eOp (o2 CN) [eV 4,A9 [eV 1]]])) (AN (Bo (AF AU [eV 5])) (AN (xIf (Ew (AF BD [eV 2,eIx (eV 5) (eI 2)])) CY BO) (AN (Bo (HN "Leader" "turn_to" A4 (eV 0) [eV 5])) (AZ (AF EF [eV 5,eOp (o1 Eu) [eV 4]])))))))
def As:=AS (AV 6 Jc)
def Cu:=N8 rNo (Ay 1 (AF BF [eV 0])) (rIf (eOp (o2 (Wu true)) [eV 1,eC .non]) (Qz "NotDone" (eV 1)) rNo)
def Ak:=AS (Oe 2 Cu)
def QZ:Rx:=(N8 (Qo Ak [eV 0]) (Bo (AF AU [eV 0])) (N8 (rIf (Ew (AF DX [eV 0,eV 1])) (Lj "NoNumber" [eC (.str "no deed of the book has this place")]) rNo) (xIf (Ew (AF DX [eV 0,eV 1])) CY BO)
    rNo))
def JQ:=AS (Oe 2 QZ)
def Jo:=N8 rNo (II (tTp [tNm 2,tNm 3,tNm 4]) (ON "Leader" "kept" (eV 0))) (N8 (rIf (Ew (AF BA [eV 2,eV 1])) (Lj "NoDeed" [eC (.str "this is no deed of the train")]) rNo) (xIf (Ew (AF BA [eV 2,eV 1])) CY BO) (N8 rNo (Ay 5 (A9 [eV 2,eV 3,eOp (o2 CN) [eV 4,A9 [eV 1]]])) (N8 (Qo Ak [eV 5]) (Bo (AF AU [eV 5])) (N8 (rIf (Ew (AF BD [eV 2,eIx (eV 5) (eI 2)])) (Lj "TooMany" [eC (.str "a book hasn't so many deeds or throws")]) rNo) (xIf (Ew (AF BD [eV 2,eIx (eV 5) (eI 2)])) CY BO) (N8 rNo (Bo (HN "Leader" "turn_to" A4 (eV 0) [eV 5])) (Qo JQ [eV 5,eOp (o1 Eu) [eV 4]]))))))
def A3:=AS (Oe 6 Jo)
def G9:=AN (Ay 3 (AF Ck [eV 1,eV 2])) (AN (Ay 4 (eC .non)) (AN (xIf (eOp (o2 (wIn false)) [eIx (eV 2) (eI 0),A9 [eC (.str "bring"),eC (.str "pool"),eC (.str "swap"),eC (.str "trade")]]) (Ay 4 (AF Cc [eV 1])) BO) (AN (Ay 5 (lB (iY [((eC (.str "ok")),(A9 [eC (.str "told"),eV 4])),((eC (.str "!done")),(A9 [eC (.str "!done"),eOp (o1 Eu) [eIx (eV 1) (eI 2)]]))]) (eV 3) (A9 [eV 3,eC .non]))) (AN (xIf (eOp (o2 wNe) [U2 "told" "_law_deed_right" [0,2] (HN "Leader" "do" As (eV 0) [eV 1]) (SM "Leader" "do" A3 (eV 0) [eV 1]) 1 (gOr ["NoDeed","NotDone","TooMany","NoNext","NothingDone"] "NoDeed" (AZ (A9 [eC (.str "!deed"),eC .non])) (gAs ["NoDeed","NotDone","TooMany","NoNext","NothingDone"] "NotDone" (λn=>.tup [.str "!done",.int n]) (gOr ["NoDeed","NotDone","TooMany","NoNext","NothingDone"] "TooMany" (AZ (A9 [eC (.str "!many"),eC .non])) (gOr ["NoDeed","NotDone","TooMany","NoNext","NothingDone"] "NoNext" (AZ (A9 [eC (.str "!next"),eC .non])) (gOr ["NoDeed","NotDone","TooMany","NoNext","NothingDone"] "NothingDone" (AZ (A9 [eC (.str "!nothing"),eC .non])) gNo))))),eV 5]) (AZ (eC .non)) BO) (AN (xIf (eOp (o2 wEq) [eV 3,eC (.str "ok")]) (AZ (eOp (o2 CN) [eOp (Ih false true) [eV 1,eI 2],A9 [eOp (o2 CN) [eIx (eV 1) (eI 2),A9 [eV 2]]]])) BO) (AZ (eV 1)))))))
def CK:=AS (AV 6 G9)
def QH:=AN (Ay 1 (A9 [eI 0,eI 1])) (AN (NH (F7 (eV 0)) (tNm 2) (Ay 1 (AF BX [eV 1,eV 2]))) (AZ (eV 1)))
def GH:=AS (AV 3 QH)
def K8:=AN (Ay 3 (JV [])) (AN (NH (Oy [eIx (eIx (eV 0) (eI 0)) (eI 1)]) (tNm 4) (AN (Ay 5 (Bk [2,4] 1 (F7 (eV 1)) (tNm 2) (eOp (o2 wEq) [eIx (eV 2) (eI 0),eV 1]) (AF Af [A9 [eIx (eV 2) (eI 1),eI 1],eIx (eIx (eV 2) (eI 2)) (eV 0)]))) (Bo (NC Nt (eV 3) [AF GH [eV 5]])))) (AZ (eOp (o1 B7) [eV 3])))
def De:=AS (AV 6 K8)
def IA:=AZ (ON "Leader" "kept" (eV 0))
def CV:=AS (AV 1 IA)
def Eh:=xIf (Ew (AF CM [eIx (eV 0) (eI 0),eV 1])) CY BO
def Bg:=AS (AV 2 Eh)
def GN:=AN (Ay 3 (fC (o2 B5) [Ja [eC Dy],eV 0])) (AN (NH (bC (eV 1) (eV 2)) (tTp [tTp [tNm 5,tNm 6],tNm 4]) (Mq (AF E5 [eIx (eV 3) (eV 5),AF FL [A9 [eV 6,eI 1],eV 4]]) (eV 3) (eV 5))) (AZ (eOp (o1 B7) [eV 3])))
def Bt:=AS (AV 7 GN)
def Hb:=AN (II (tTp [tNm 2,tNm 3]) (eOp (Ih false true) [eIx (eV 0) (eI 0),eI 2])) (AN (II (tTp [tNm 4,tNm 5,tNm 6]) (AF Fv [eV 0,eV 1])) (AZ (Bk [3,4,5] 1 (Oy [eV 2]) (tNm 3) BI (AF Bt [eV 0,eV 1,Bk [3] 1 (F7 (eV 2)) (tNm 1) BI (eIx (eV 1) (eV 0))]))))
def Dm:=AS (AV 7 Hb)
def Jl:=AN (Bo (AF AU [eV 0])) (AN (Bo (AF Bs [eV 0,eV 1])) (AN (Bo (AF Bg [eV 0,eV 2])) (AZ (eIx (AF Dm [eV 0,eV 1]) (eV 2)))))
def Dq:=AS (AV 3 Jl)
def GF:=AZ (AF Dq [ON "Leader" "kept" (eV 0),eOp (o1 Eu) [eIx (ON "Leader" "kept" (eV 0)) (eI 2)],eV 1])
def BV:=AS (AV 2 GF)
def MH:=AN (xIf (eOp (o2 wNe) [HN "Leader" "book" CV (eV 0) [],eV 1]) (AZ (eC (.bl false))) BO) (AN (Ay 2 (eIx (eIx (AF EV [eV 1]) (eOp (o1 Tv) [eI 1])) (eI 0))) (AN (Ay 3 (Bk [0] 1 (Oy [eIx (eIx (eV 1) (eI 0)) (eI 0)]) (tNm 1) BI (HN "Leader" "theirs" BV (eV 0) [eV 1]))) (AZ (eOp (o2 wEq) [eV 3,Bk [1,2] 1 (Oy [eIx (eIx (eV 1) (eI 0)) (eI 0)]) (tNm 2) BI (AF De [eV 0,eV 1,eV 2])]))))
def DO:=AS (AV 4 MH)
def HW:=AN (II (tTp [tNm 2,tNm 3,tNm 4]) (eV 1)) (AN (Ay 5 (AF CC [eV 1])) (AN (NH (F7 (eV 4)) (tNm 6) (Bo (AF Bl [eV 2,eV 5,eV 6]))) (AN (Ay 6 (AF DY [eV 0,eV 2,eV 5])) (AN (xIf (eOp (o2 wEq) [AF AG [eV 0,eI 4],eI 0]) (Ay 6 (eOp (o2 CN) [eOp (Ih false true) [eV 6,eI 1],eOp (o1 B7) [Bk [0] 1 (F7 (eOp (Ih true false) [eV 6,eI 1])) (tNm 1) BI (eIf (eOp (o2 QK) [eV 1,eC (.ty "int")]) (AF AG [eV 0,eI 7]) (eV 1))]])) BO) (AZ (eV 6))))))
def B0:=AS (AV 7 HW)
def Pg:=AN (Ay 1 (eC Dy)) (AN (NH (F7 (eV 0)) (tNm 2) (Ay 1 (AF E5 [eV 1,eV 2]))) (AZ (eV 1)))
def HR:=AS (AV 3 Pg)
def Ii:=AN (xIf (Ew (AF Ag [eV 1,eV 0])) (AZ (eC (.bl false))) BO) (AZ (D6 (eOp (o1 Ww) [Bk [] 1 (F7 (eV 1)) (tNm 0) BI (AF Cp [eV 0])]) (eOp (o2 wEq) [AF HR [eV 1],eC N9])))
def C7:=AS (AV 2 Ii)
def Ly:=AN (xIf (Ew (AF Ag [eV 1,eI 3])) (AZ (eC (.bl false))) BO) (AN (II (tTp [tNm 2,tNm 3,tNm 4]) (eV 1)) (AZ (D6 (AF DN [eV 0,eV 2]) (D6 (AF Bm [eV 3,eI 0]) (AF C7 [eIx (eV 0) (eI 0),eV 4])))))
def EB:=AS (AV 5 Ly)
noncomputable def Ea:D:=.int 4
def J1:=AN (xIf (eOr (Ew (eOp (o2 QK) [eV 1,eC (.ty "tuple")])) (eOp (o2 wGt) [eOp (o1 Eu) [eV 1],eC Ea])) (AZ (eC (.bl false))) BO) (AZ (eOp (o1 Ww) [Bk [0] 1 (F7 (eV 1)) (tNm 1) BI (D6 (AF EB [eV 0,eV 1]) (eOp (o2 wGt) [eIx (eV 1) (eI 1),eI 0]))]))
def C0:=AS (AV 2 J1)
def Ku:=AN (xIf (Ew (AF Ag [eV 0,eI 6])) (AZ (eC (.bl false))) BO) (AN (II (tTp [tNm 1,tNm 2,tNm 3,tNm 4,tNm 5,tNm 6]) (eV 0)) (AN (xIf (Ew (D6 (AF Ab [eV 1,eI 1,eI 4]) (D6 (AF Ab [eV 2,eI 1,eI 5]) (AF Ab [eV 3,eI 1,eI 20])))) (AZ (eC (.bl false))) BO) (AZ (D6 (AF C7 [eV 1,eV 4]) (D6 (AF Ab [eV 5,eI 0,eI 9]) (AF Ab [eV 6,eI 0,eI 9]))))))
def Dc:=AS (AV 7 Ku)
def Ik:=AN (xIf (Ew (AF Dc [eV 1])) CY BO) (AN (xIf (Ew (AF C0 [eV 1,eV 2])) CY BO) (AN (W8 "Leader" "kept" (eV 0) (A9 [eV 1,eV 2,A9 []])) (W8 "Leader" "earlier" (eV 0) (JV []))))
def Bn:=AS (AV 3 Ik)
def Vz:=AN (Ay 1 (AF Hh [AF Cq [eV 0,eI 0]])) (AN (II (tTp [tNm 2,tNm 3]) (AF FX [eV 1])) (AN (Ay 4 (Qv "Leader" Bn [eV 2,eV 3])) (AN (Ay 5 (A9 [eV 2,eV 3,A9 []])) (AN (NH (Oy [eIx (Ja [eI 6,eI 12,eI 26]) (AF AG [eV 1,eI 3])]) (tNm 6) (AN (Ay 5 (AF CK [eV 4,eV 5,AF B0 [eV 1,eV 5]])) (AN (xIf (eOp (o2 (Wu false)) [eV 5,eC .non]) (AZ (eC (.bl false))) BO) (xIf (D6 (eOp (o2 wEq) [eOp (o2 Oz) [eV 6,eI 4],eI 0]) (Ew (AF DO [eV 4,eV 5]))) (AZ (eC (.bl false))) BO)))) (AZ (AF DO [eV 4,eV 5]))))))
def Ny:=AS (AV 7 Vz)
end
section
noncomputable def top(i:Nat):vH:=zq.main.body.getD i (.Pass ⟨0,0,0,0⟩)
noncomputable def oX(sc osc:wX):wX:={sc with names:=sc.names.map λ(n,k)=>if(k== .free && osc.kind== .function && osc.names.lookup n==Gc .cell)then(n,.cell)else(n,k)}
abbrev Hx:=top 4
abbrev JG:=top 5
abbrev Ge:=top 6
abbrev C3:=top 7
abbrev Gm:=top 8
abbrev KZ:=top 9
abbrev OQ:=top 10
abbrev OG:=top 11
abbrev MR:=top 12
abbrev Mb:=top 13
abbrev Lz:=top 14
abbrev Fb:=top 33
abbrev Fy:=top 34
abbrev DB:=top 35
abbrev Ha:=top 36
abbrev F6:=top 37
abbrev JY:=top 38
abbrev Dr:=top 39
abbrev DQ:=top 40
abbrev F4:=top 41
abbrev C5:=top 42
abbrev F3:=top 43
abbrev EG:=top 44
abbrev G3:=top 46
abbrev JC:=top 47
abbrev ED:=top 48
abbrev Dp:=top 49
abbrev CF:=top 50
abbrev F0:=top 51
abbrev Ht:=top 52
abbrev Hq:=top 53
abbrev GD:=top 54
abbrev Eo:=top 55
abbrev FR:=top 56
abbrev By:=top 57
abbrev Gk:=top 59
abbrev FV:=top 60
abbrev B2:=top 61
abbrev C6:=top 62
abbrev IB:=top 63
abbrev C4:=top 64
abbrev Cm:=top 65
abbrev Gv:=top 66
abbrev DC:=top 68
abbrev CH:=top 69
abbrev FT:=top 70
abbrev CI:=top 71
abbrev FP:=top 72
abbrev D7:=top 73
abbrev FK:=top 74
abbrev EI:=top 75
abbrev Bx:=top 76
abbrev Ec:=top 77
abbrev EJ:=top 78
abbrev BG:=top 79
abbrev Gq:=top 80
abbrev Bp:=inClass (top 87) 0
abbrev A6:=inClass (top 87) 1
abbrev Bj:=inClass (top 87) 2
abbrev Ba:=inClass (top 87) 5
abbrev BB:=inClass (top 87) 6
abbrev Me:=top 89
abbrev GV:=top 90
abbrev KA:=top 91
abbrev Hc:=top 92
abbrev KW:=top 93
abbrev DL:=top 94
abbrev Iy:=top 95
abbrev HZ:=top 96
abbrev Iw:=top 97
abbrev JP:=top 98
abbrev D9:=top 99
abbrev G4:=top 100
abbrev FE:=top 101
abbrev Kk:=top 102
abbrev Iq:=top 103
abbrev HM:=top 104
abbrev GR:=top 105
abbrev Kg:=top 106
abbrev JD:=top 107
abbrev KN:=top 108
abbrev Kc:=top 109
abbrev Jm:=top 110
abbrev JH:=top 111
abbrev LZ:=top 112
abbrev DZ:=top 113
abbrev Ed:=top 114
abbrev Bb:=top 116
abbrev JR:=top 117
abbrev Eb:=top 118
abbrev Cw:=top 119
abbrev Cb:=top 120
abbrev Co:=top 121
abbrev Lr:=top 122
abbrev EX:=top 123
abbrev Cn:=top 124
abbrev Mh:=top 125
abbrev IJ:=top 115
def Mf:Aj ["_law_call","e"] ["_law_call"] (AB IJ):=scM
abbrev EU:=fV (top 25) 0
def LY:Aj sAt sAt (AB EU):=scM
def Kn{P:va}{w:wG}{K:W1}{mg:Str->uR uX}{base:vq}(r:XiR K mg "NotDone" "TrailError" "NotDone.__init__" EU):XiF P w K mg base "NotDone":=
 jL r LY (λf fd F=>F.binds λ_ _ _ _ _ _ us hl=>match us,hl with| [_,_],_=>rfl) λC TE fI D hB cdv A outer s H E=>OL (Ua (XB D hB rfl rfl (.inl rfl) (.inl rfl) (by decide) (by decide) (by decide) rfl)) (KR (pN D rfl (.inl rfl) (.inl rfl) rfl))
structure Bts(mg:Str->uR uX):Prop where
 abs:mg "abs"=none
 all:mg "all"=none
 bool:mg "bool"=none
 enumerate:mg "enumerate"=none
 int:mg "int"=none
 isi:mg "isinstance"=none
 len:mg "len"=none
 list:mg "list"=none
 min:mg "min"=none
 range:mg "range"=none
 sorted:mg "sorted"=none
 str:mg "str"=none
 sum:mg "sum"=none
 tuple:mg "tuple"=none
 zip:mg "zip"=none
structure All(w:wG)(K:W1)(mg:Str->uR uX):Prop where
 bt:Bts mg
 kM:QM K mg "ALL" N9
 Ri:QM K mg "MAKERS" BS
 Kv:QM K mg "MOST_DEEDS" Fs
 Kt:QM K mg "MOST_FIRST" Ea
 Js:QM K mg "MOST_THROWS" Ey
 QB:QM K mg "NOTHING" Dy
 Jq:QM K mg "UNLIKE" Br
 KG:fO K w mg "FORMS" Em
 Qd:lR w K mg "PARTS" [("partner","is_partner"),("kind","is_kind"),("load","is_load_number"),("number","is_trade_number"),("pieces","are_pieces"),("worths","are_worths"),("share","is_sold_share")]
 J4:XcD K mg "NoDeed"
 NR:XcD K mg "NoNumber"
 Hr:XcD K mg "TooMany"
 Jr:XiR K mg "NotDone" "TrailError" "NotDone.__init__" EU
 Jk:XmD K mg ["NoDeed","NotDone","TooMany","NoNext","NothingDone"] "NoDeed"
 J3:XmD K mg ["NoDeed","NotDone","TooMany","NoNext","NothingDone"] "NoNext"
 Hi:XmD K mg ["NoDeed","NotDone","TooMany","NoNext","NothingDone"] "NotDone"
 Dv:XmD K mg ["NoDeed","NotDone","TooMany","NoNext","NothingDone"] "NothingDone"
 HV:XmD K mg ["NoDeed","NotDone","TooMany","NoNext","NothingDone"] "TooMany"
 Ap:ClD K "Leader" ["kept","earlier"]
 Bp:MkS K mg "Leader" "Leader.__init__" Bp
 A6:MeS K "Leader" "turn_to" "Leader.turn_to" A6
 Bj:MeS K "Leader" "do" "Leader.do" Bj
 Ba:MeS K "Leader" "book" "Leader.book" Ba
 BB:MeS K "Leader" "theirs" "Leader.theirs" BB
 Hx:St.Src K mg "is_whole" Hx
 JG:St.Src K mg "is_from" JG
 Ge:St.Src K mg "is_within" Ge
 C3:St.Src K mg "greatest_divisor" C3
 Gm:St.Src K mg "is_amount" Gm
 KZ:St.Src K mg "lowest" KZ
 OQ:St.Src K mg "plus" OQ
 OG:St.Src K mg "less" OG
 MR:St.Src K mg "times" MR
 Mb:St.Src K mg "mixed" Mb
 Lz:St.Src K mg "total" Lz
 Fb:St.Src K mg "is_tuple_of" Fb
 Fy:St.Src K mg "is_share" Fy
 DB:St.Src K mg "are_owners" DB
 Ha:St.Src K mg "is_train" Ha
 F6:St.Src K mg "is_partner" F6
 JY:St.Src K mg "is_kind" JY
 Dr:St.Src K mg "is_load_number" Dr
 DQ:St.Src K mg "is_trade_number" DQ
 F4:St.Src K mg "are_pieces" F4
 C5:St.Src K mg "are_values" C5
 F3:St.Src K mg "are_worths" F3
 EG:St.Src K mg "is_sold_share" EG
 G3:St.Src K mg "is_part" G3
 JC:St.Src K mg "is_load" JC
 ED:St.Src K mg "is_deed" ED
 Dp:St.Src K mg "are_first" Dp
 CF:St.Src K mg "are_deeds" CF
 F0:St.Src K mg "has_pieces" F0
 Ht:St.Src K mg "can_pool" Ht
 Hq:St.Src K mg "can_swap" Hq
 GD:St.Src K mg "can_do" GD
 Eo:St.Src K mg "held_without" Eo
 FR:St.Src K mg "held_behind" FR
 By:St.Src K mg "held_at_first" By
 Gk:St.Src K mg "made_from" Gk
 FV:St.Src K mg "first_wrong" FV
 B2:St.Src K mg "refuse_undone" B2
 C6:St.Src K mg "many_loads" C6
 IB:St.Src K mg "is_place" IB
 C4:St.Src K mg "refuse_no_number" C4
 Cm:St.Src K mg "refuse_no_partner" Cm
 Gv:St.Src K mg "made_by" Gv
 DC:St.Src K mg "all_to_one" DC
 CH:St.Src K mg "mixed_shares" CH
 FT:St.Src K mg "made_shares" FT
 CI:St.Src K mg "worth_of_all" CI
 FP:St.Src K mg "part_thrown" FP
 D7:St.Src K mg "thrown_shares" D7
 FK:St.Src K mg "sold_shares" FK
 EI:St.Src K mg "shares_behind" EI
 Bx:St.Src K mg "owners_behind" Bx
 Ec:St.Src K mg "state_by" Ec
 EJ:St.Src K mg "sums_by_kinds" EJ
 BG:St.Src K mg "theirs_told" BG
 Gq:St.Src K mg "theirs_by" Gq
 Me:St.Src K mg "_law_pen" Me
 GV:St.Src K mg "_law_cell_at" GV
 KA:St.Src K mg "_law_draw" KA
 Hc:St.Src K mg "_law_common" Hc
 KW:St.Src K mg "_law_made" KW
 DL:St.Src K mg "_law_whole" DL
 Iy:St.Src K mg "_law_train" Iy
 HZ:St.Src K mg "_law_pieces" HZ
 Iw:St.Src K mg "_law_first" Iw
 JP:St.Src K mg "_law_begin" JP
 D9:St.Src K mg "_law_is_swapping" D9
 G4:St.Src K mg "_law_is_deed" G4
 FE:St.Src K mg "_law_begun" FE
 Kk:St.Src K mg "_law_plus" Kk
 Iq:St.Src K mg "_law_times" Iq
 HM:St.Src K mg "_law_pooled" HM
 GR:St.Src K mg "_law_cost" GR
 Kg:St.Src K mg "_law_less" Kg
 JD:St.Src K mg "_law_borne" JD
 KN:St.Src K mg "_law_sold" KN
 Kc:St.Src K mg "_law_turn" Kc
 Jm:St.Src K mg "_law_do" Jm
 JH:St.Src K mg "_law_there" JH
 LZ:St.Src K mg "_law_can" LZ
 DZ:St.Src K mg "_law_due_of" DZ
 Ed:St.Src K mg "_law_number" Ed
 Bb:St.Src K mg "_law_deed_right" Bb
 JR:St.Src K mg "_law_share" JR
 Eb:St.Src K mg "_law_worths" Eb
 Cw:St.Src K mg "_law_deed" Cw
 Cb:St.Src K mg "_law_some_deed" Cb
 Co:St.Src K mg "_law_states" Co
 Lr:St.Src K mg "_law_sum" Lr
 EX:St.Src K mg "_law_theirs" EX
 Cn:St.Src K mg "_law_is_so" Cn
 Mh:St.Src K mg "law" Mh
 IJ:St.Src K mg "_law_said" IJ
end
section
local macro_rules| `(tactic|walk_at $s)=>do
 let i (w:xq):Lean.Term:=Lean.mkIdent w.toName
 let t (w:xq):ABl Lean.Term:=do
  match w with
  | "?"=> `(?_)
  | "_"=> `(_)
  | "A"=> `(by assumption)
  | "B"=> `(by walk_at "b")
  | "D"=> `(by decide)
  | "K"=> `(λ_ _ _=>⟨?_,?_,?_⟩)
  | "M"=> `(Cj.mono (by assumption) (by decide))
  | "F"=> `(We _)
  |_=>match w.splitOn "/" with
   | [f,n]=>pure (zP (i f) (Array.replicate n.length (<- `(?_))))
   |_=>pure (i w)
 let r (a:Wp xq):ABl (ABC `tactic):=do `(tactic|refine $(zP (i a.head!) (<-a.tail!.mapM t).toArray))
 let g (s:xq):ABl (ABC `tactic):=do
  (s.splitOn ";").foldrM (λx z=>do
    let a:=x.splitOn " "
    let b<-if a.head!== "%" then `(tactic|with_reducible $(<-r a.tail!):tactic)else r a
    `(tactic|first| $b:tactic| $z:tactic)) (<- `(tactic|assumption))
 let ws:=s.getString.splitOn " "
 match ws.head! with
 | "b"=>g "Bts.abs A;Bts.all A;Bts.bool A;Bts.enumerate A;Bts.int A;Bts.isi A;Bts.len A;Bts.list A;Bts.min A;Bts.range A;Bts.sorted A;Bts.str A;Bts.sum A;Bts.tuple A;Bts.zip A;% boot_abs;% boot_all;% boot_bool;% boot_enumerate;% boot_int;% boot_isinstance;% boot_len;% boot_list;% boot_min;% boot_range;% boot_sorted;% boot_str;% boot_sum;% boot_tuple;% boot_zip"
 | "d"=>do
   let z<-("t8:AD ? ?;AI|gDE:AH _;BQ;Df;Fd Mt ? ?;deM A A ?;P5 ? ? ?;DF ? rfl B B ?;Vg ? rfl B B ?;Dx ?;UC ?;Q1 _ _ _ rfl A ? K;Pq ? ? ?;jD ? ?;UP ?;nO ? ?;Jt;Qa;bI A rfl;iB rfl B B;su ? ? ?;qz ?;kP PySem.F.slot_list_append PySem.F.type_list_append dS ? ?;kP PySem.F.slot_list_extend PySem.F.type_list_extend m9 ? ?;oU ? ?;bp ? ?;oQ ? ? ?;pL ? ? ?|uF:Aq ?;Aa ? ?;CO|gDS:CP ?;Er _ ? A;Ke ?;HG ? ? ?;Sq _ _ _ rfl A rfl rfl A ? K;Q8 ? ?;lI ? ? ?;Zc PassesOwn.never rfl ? ? ?;qG rfl A rfl rfl D rfl rfl ? ?;IQ;lS F PassesOwn.never ? ?|gDT:IX ? ? ?;Fx ?;DW.dt kW/??;DW.dt fP/??;Fi ?|gDG:HF _ A;WN rfl ?|uI:% JX;% Nv ?;% mU;% nD;% gG;% c8;% Rz ?;% kO;% mT;% qH;% qZ;% qJ;% my;% Wk;% YJ|qW:% Dl;% cK;% iU rfl;% O4;% Uz;% jK;% fD;% Vx rfl;% gf rfl;% Zn".splitOn "|").foldrM (λx z=>do
    let a:=x.splitOn ":"
    `(tactic|first|((with_reducible refine $(i a.head!) ?_); $(<-g a.tail!.head!):tactic)| $z:tactic)) (<-g "Cr ? ?;Lx;QV;cF ?;ZO ?;QQ rfl B ?;qI rfl B ? ?;gq rfl B ?;cM;kW ? ?;Zy ?;fP ? ?;ZZ ?;VG;MB ?;Gb ? ? ?;bY ?;dG ? ? ?;U1 A M rfl ?;RA rfl A rfl ?")
   let y:ABC `tactic<-ws.tail!.foldrM (λw z=>do `(tactic|(have:= $(if w.startsWith "T." then i w else zP (i w) #[i "P",i "base",i "bm",i "T"]); $z:tactic))) (<- `(tactic|repeat' $z:tactic))
   pure y
 |_=>Lean.Macro.throwUnsupported
variable(P:va){w:wG}{K:W1}{mg:Str->uR uX}(base:vq)(bm:BmB mg base)(T:All w K mg)
include bm T
theorem Yv:St.Dfn P w K mg base "is_whole" 1 ["thing"] (spD K 1 Cd):=dfW (N:=["thing"]) 0 T.Hx scM λ_ _ _=>by
 walk_at "d T.bt"
theorem ax:St.Dfn P w K mg base "is_from" 2 ["thing","low"] (spD K 2 Bm):=dfW (N:=["thing","low"]) 1 T.JG scM λ_ _ _=>by
 walk_at "d Yv"
theorem YB:St.Dfn P w K mg base "is_within" 3 ["thing","low","high"] (spD K 3 Ab):=dfW (N:=["thing","low","high"]) 2 T.Ge scM λ_ _ _=>by
 walk_at "d ax"
theorem QI:St.Dfn P w K mg base "greatest_divisor" 1 ["one","other"] (spD K 2 BR):=dfW (N:=["one","other"]) 0 T.C3 scM λ_ _ _=>by
 walk_at "d T.bt"
theorem Gy:St.Dfn P w K mg base "is_amount" 3 ["thing"] (spD K 1 E7):=dfW (N:=["thing","top","bottom"]) 2 T.Gm scM λ_ _ _=>by
 walk_at "d T.bt Yv ax QI"
theorem eS:St.Dfn P w K mg base "lowest" 2 ["top","bottom"] (spD K 2 Cz):=dfW (N:=["top","bottom","divisor"]) 1 T.KZ scM λ_ _ _=>by
 walk_at "d QI"
theorem lX:St.Dfn P w K mg base "plus" 3 ["one","other"] (spD K 2 E5):=dfW (N:=["one","other"]) 2 T.OQ scM λ_ _ _=>by
 walk_at "d eS"
theorem kx:St.Dfn P w K mg base "less" 3 ["one","other"] (spD K 2 J0):=dfW (N:=["one","other"]) 2 T.OG scM λ_ _ _=>by
 walk_at "d eS"
theorem gL:St.Dfn P w K mg base "times" 3 ["one","other"] (spD K 2 FL):=dfW (N:=["one","other"]) 2 T.MR scM λ_ _ _=>by
 walk_at "d eS"
theorem iC:St.Dfn P w K mg base "mixed" 3 ["one","weight","other","more"] (spD K 4 Hy):=dfW (N:=["one","weight","other","more","top"]) 2 T.Mb scM λ_ _ _=>by
 walk_at "d eS"
theorem i9:St.Dfn P w K mg base "total" 4 ["amounts"] (spD K 1 HR):=dfW (N:=["amounts","together","amount"]) 3 T.Lz scM λ_ _ _=>by
 walk_at "d T.QB lX"
theorem WW:St.Dfn P w K mg base "is_tuple_of" 1 ["thing","many"] (spD K 2 Ag):=dfW (N:=["thing","many"]) 0 T.Fb scM λ_ _ _=>by
 walk_at "d T.bt"
omit T bm in
theorem OK:Aj ["thing"] ["thing"] (AB Fy):=scM
theorem ZG:St.Dfn P w K mg base "is_share" 4 ["thing"] (spD K 1 Cp):=by
 have Gy:=Gy P base bm T
 refine dfM 3 T.Fy OK λhr hu=>?_
 exact(Aq (CP (jD (deM Gy hr (AD (AH 0) AI)) (UP (cD BQ (Fd Mt (AH 0) BQ) (Fd Mt (AH 0) BQ))))))
theorem Wr:St.Dfn P w K mg base "are_owners" 5 ["partners","thing"] (spD K 2 C7):=dfW (N:=["partners","thing"]) 4 T.DB scM λ_ _ _=>by
 have:AO ["partners","thing"] (AB DB) ["share"] (ixC [] 1) (IK DB 0):=csM
 have:(["share"]:Wp Str).Nodup:=by decide+kernel
 walk_at "d T.bt T.kM i9 WW ZG"
theorem HQ:St.Dfn P w K mg base "is_train" 6 ["thing"] (spD K 1 Dc):=dfW (N:=["thing","partners","kinds","beasts","holders","hire","part"]) 5 T.Ha scM λ_ _ _=>by
 walk_at "d YB WW Wr"
theorem Mu:St.Dfn P w K mg base "is_partner" 4 ["train","thing"] (spD K 2 CM):=dfW (N:=["train","thing"]) 3 T.F6 scM λ_ _ _=>by
 walk_at "d YB"
theorem Qw:St.Dfn P w K mg base "is_kind" 4 ["train","thing"] (spD K 2 DN):=dfW (N:=["train","thing"]) 3 T.JY scM λ_ _ _=>by
 walk_at "d YB"
theorem Jb:St.Dfn P w K mg base "is_load_number" 3 ["train","thing"] (spD K 2 CQ):=dfW (N:=["train","thing"]) 2 T.Dr scM λ_ _ _=>by
 walk_at "d ax"
theorem JO:St.Dfn P w K mg base "is_trade_number" 4 ["train","thing"] (spD K 2 CB):=dfW (N:=["train","thing"]) 3 T.DQ scM λ_ _ _=>by
 walk_at "d YB"
theorem M9:St.Dfn P w K mg base "are_pieces" 3 ["train","thing"] (spD K 2 EO):=dfW (N:=["train","thing"]) 2 T.F4 scM λ_ _ _=>by
 walk_at "d ax"
theorem Wt:St.Dfn P w K mg base "are_values" 4 ["thing","many"] (spD K 2 EM):=dfW (N:=["thing","many"]) 3 T.C5 scM λ_ _ _=>by
 have:AO ["thing","many"] (AB C5) ["value"] (ixC [] 1) (IK C5 0):=csM
 have:(["value"]:Wp Str).Nodup:=by decide+kernel
 walk_at "d T.bt YB WW"
theorem M8:St.Dfn P w K mg base "are_worths" 5 ["train","thing"] (spD K 2 ET):=dfW (N:=["train","thing"]) 4 T.F3 scM λ_ _ _=>by
 walk_at "d Wt"
theorem Ki:St.Dfn P w K mg base "is_sold_share" 5 ["train","thing"] (spD K 2 Cs):=dfW (N:=["train","thing"]) 4 T.EG scM λ_ _ _=>by
 walk_at "d ZG"
omit T bm in
theorem LA:Aj ["train","part","thing","holds"] ["train","part","thing"] (AB G3):=scM
theorem Xd:mn P w K mg base "PARTS" 5 2 Ez:=ag T.Qd (.cons ⟨rfl,_,_,(by decide),Mu P base bm T⟩ (.cons ⟨rfl,_,_,(by decide),Qw P base bm T⟩ (.cons ⟨rfl,_,_,(by decide),Jb P base bm T⟩ (.cons ⟨rfl,_,_,(by decide),JO P base bm T⟩ (.cons ⟨rfl,_,_,(by decide),M9 P base bm T⟩ (.cons ⟨rfl,_,_,(by decide),M8 P base bm T⟩ (.cons ⟨rfl,_,_,(by decide),Ki P base bm T⟩ Paired.nil)))))))
theorem Iz:St.Dfn P w K mg base "is_part" 6 ["train","part","thing"] (spD K 3 Al):=by
 have T_PARTS:=Xd P base bm T
 refine dfM 5 T.G3 LA λhr hu=>?_
 exact(bL 3 1 T_PARTS (hr.mono (by decide)) (AD (AH 0) (AD (AH 2) AI)) rfl LA.nd)
theorem dM:St.Dfn P w K mg base "is_load" 6 ["train","thing"] (spD K 2 EB):=dfW (N:=["train","thing","kind","pieces","owners"]) 5 T.JC scM λ_ _ _=>by
 walk_at "d ax WW Wr Qw"
omit T bm in
theorem Hv:Aj ["train","thing","word","form"] ["train","thing"] (AB ED):=scM
omit T bm in
theorem Mw:AO ["train","thing","word","form"] (AB ED) ["train","thing","at","part"] (ixC [0,1] 2) (IK ED 0):=csM
omit T bm in
theorem Ib:(["train","thing","at","part"]:Wp Str).Nodup:=by decide+kernel
theorem DM:St.Dfn P w K mg base "is_deed" 7 ["train","thing"] (spD K 2 BA):=by
 have B:=T.bt
 have Jq:=T.Jq
 have KG:=T.KG
 have Iz:=Iz P base bm T
 refine dfM 6 T.ED Hv λhr hu=>?_
 exact(Aa (HG (DW.dt (fP (Fx (Fi (DF O4 rfl B.isi boot_isinstance (AD (AH 1) (AD (iB rfl B.tuple boot_tuple) AI))))) (ZZ (IX (Nv hu) (DF Dl rfl B.len zo (AD (AH 1) AI)) BQ)))) (Aq (CP Qa)) CO)
      (Aa (Er 2 (Fd Mt (AH 1) BQ) Hv.nd)
      (Aa (HG (DW.dt (fP (Fx (Fi (DF O4 rfl B.isi boot_isinstance (AD (AH 2) (AD (iB rfl B.str boot_str) AI))))) (ZZ (Qc KG rfl (AH 2))))) (Aq (CP Qa)) CO)
      (Aa (Er 3 (jG KG rfl (AH 2)) Hv.nd)
      (Aa (HG (IX (Rz hu) (DF Dl rfl B.len zo (AD (AH 1) AI)) (P5 JX (DF Dl rfl B.len zo (AD (AH 3) AI)) BQ)) (Aq (CP Qa)) CO)
      (Aa (HG (Fx (Fi (DF (Vx rfl) rfl B.all boot_all (AD (Q1 [0,1] 2 ["train","thing","at","part"] rfl Mw (gq rfl B.enumerate (AH 3)) (λs H fp=>⟨WN rfl (Cr (HF 2 Ib) (Cr (HF 3 Ib) Lx)),QV,deM Iz hr (AD (AH 0) (AD (AH 3) (AD (Fd Mt (AH 1) (P5 JX (AH 2) BQ)) AI)))⟩)) AI)))) (Aq (CP Qa)) CO)
      (Aq (CP (kK (Pq Wk (AH 2) (bI Jq rfl)) (UP (Pq (Rz hu) (Fd Mt (AH 1) BQ) (Fd Mt (AH 1) BQ))))))))))))
theorem Gi:St.Dfn P w K mg base "are_first" 7 ["train","thing"] (spD K 2 C0):=dfW (N:=["train","thing"]) 6 T.Dp scM λ_ _ _=>by
 have:AO ["train","thing"] (AB Dp) ["train","load"] (ixC [0] 1) (IK Dp 0):=csM
 have:(["train","load"]:Wp Str).Nodup:=by decide+kernel
 walk_at "d T.bt T.Kt dM"
theorem B9:St.Dfn P w K mg base "are_deeds" 8 ["train","thing"] (spD K 2 BD):=dfW (N:=["train","thing"]) 7 T.CF scM λ_ _ _=>by
 have:AO ["train","thing"] (AB CF) ["train","deed"] (ixC [0] 1) (IK CF 0):=csM
 have:(["train","deed"]:Wp Str).Nodup:=by decide+kernel
 have:AO ["train","thing"] (AB CF) ["deed"] (ixC [] 1) (IK CF 1):=csM
 have:(["deed"]:Wp Str).Nodup:=by decide+kernel
 walk_at "d T.bt T.Kv T.Js DM"
theorem Wm:St.Dfn P w K mg base "has_pieces" 1 ["held","load","pieces"] (spD K 3 BU):=dfW (N:=["held","load","pieces"]) 0 T.F0 scM λ_ _ _=>by
 walk_at "d T.bt"
theorem Yu:St.Dfn P w K mg base "can_pool" 2 ["held","load","other"] (spD K 3 Dg):=dfW (N:=["held","load","other"]) 1 T.Ht scM λ_ _ _=>by
 walk_at "d Wm"
theorem Za:St.Dfn P w K mg base "can_swap" 2 ["held","load","given","kind"] (spD K 4 DV):=dfW (N:=["held","load","given","kind"]) 1 T.Hq scM λ_ _ _=>by
 walk_at "d Wm"
theorem eO:St.Dfn P w K mg base "can_do" 3 ["held","done","deed"] (spD K 3 Bc):=dfW (N:=["held","done","deed","word","numbers"]) 2 T.GD scM λ_ _ _=>by
 have:AO ["held","done","deed","word","numbers"] (AB GD) ["other"] (ixC [] 1) (IK GD 0):=csM
 have:(["other"]:Wp Str).Nodup:=by decide+kernel
 walk_at "d Wm Yu Za"
theorem Tz:St.Dfn P w K mg base "held_without" 1 ["held","load","pieces"] (spD K 3 BN):=dfW (N:=["held","load","pieces","kind","there"]) 0 T.Eo scM λ_ _ _=>by
 walk_at "d"
theorem WE:St.Dfn P w K mg base "held_behind" 2 ["held","deed"] (spD K 2 Ad):=dfW (N:=["held","deed","word","kind","pieces","more","load","given","got"]) 1 T.FR scM λ_ _ _=>by
 walk_at "d Tz"
theorem Sn:St.Dfn P w K mg base "held_at_first" 1 ["book"] (spD K 1 B4):=dfW (N:=["book"]) 0 T.By scM λ_ _ _=>by
 have:AO ["book"] (AB By) ["load"] (ixC [] 1) (IK By 0):=csM
 have:(["load"]:Wp Str).Nodup:=by decide+kernel
 walk_at "d"
theorem YR:St.Dfn P w K mg base "made_from" 1 ["deed"] (spD K 1 Be):=dfW (N:=["deed","word"]) 0 T.Gk scM λ_ _ _=>by
 walk_at "d T.bt"
theorem FQ:St.Dfn P w K mg base "first_wrong" 4 ["book"] (spD K 1 BF):=dfW (N:=["book","held","deeds","at","deed"]) 3 T.FV scM λ_ _ _=>by
 walk_at "d T.bt eO WE Sn"
omit T bm in
theorem Fg:Aj ["book","wrong"] ["book"] (AB B2):=scM
theorem EE:iD P w K mg base "refuse_undone" 5 ["book"] (spR K mg 1 Ak):=by
 have FQ:=FQ P base bm T
 have Kn:=Kn (P:=P) (w:=w) (base:=base) T.Jr
 refine Vy (k:=4) T.B2 Fg rfl (λ_ _ F=>bnR F λ_ _ _ _ _ _ _=>rfl) λf cdv A outer s H E hr=>?_
 have hu:=IE hr
 exact(Gb XR (Er 1 (deM FQ hr (AD (AH 0) AI)) Fg.nd)
      (MB (dG (IX YJ (AH 1) Jt) (MB (WU rfl Kn rfl (hr.mono (by decide)) (AH 1))) VG)))
theorem BW:St.Dfn P w K mg base "refuse_undone" 5 ["book"] (spD K 1 AU):=dfW (N:=["book","wrong"]) 4 T.B2 scM λ_ _ _=>by
 walk_at "d FQ"
theorem Ws:St.Dfn P w K mg base "many_loads" 1 ["book","many"] (spD K 2 C8):=dfW (N:=["book","many"]) 0 T.C6 scM λ_ _ _=>by
 have:AO ["book","many"] (AB C6) ["deed"] (ixC [] 1) (IK C6 0):=csM
 have:(["deed"]:Wp Str).Nodup:=by decide+kernel
 walk_at "d T.bt T.Ri"
theorem Zh:St.Dfn P w K mg base "is_place" 4 ["book","thing"] (spD K 2 DX):=dfW (N:=["book","thing"]) 3 T.IB scM λ_ _ _=>by
 walk_at "d T.bt YB"
theorem QL:St.Dfn P w K mg base "refuse_no_number" 4 ["book","many"] (spD K 2 Bs):=dfW (N:=["book","many"]) 3 T.C4 scM λ_ _ _=>by
 walk_at "d T.bt YB"
theorem Pd:St.Dfn P w K mg base "refuse_no_partner" 5 ["book","partner"] (spD K 2 Bg):=dfW (N:=["book","partner"]) 4 T.Cm scM λ_ _ _=>by
 walk_at "d Mu"
theorem JJ:iD P w K mg base "made_by" 6 ["book","place"] (spR K mg 2 JQ):=sZ (N:=["book","place"]) 5 T.Gv scM λ_ _ _=>by
 walk_at "d T.Ri BW Ws Zh T.NR EE"
theorem FZ:St.Dfn P w K mg base "made_by" 6 ["book","place"] (spD K 2 EF):=dfW (N:=["book","place"]) 5 T.Gv scM λ_ _ _=>by
 walk_at "d T.Ri BW Ws Zh"
theorem Wo:St.Dfn P w K mg base "all_to_one" 1 ["many","one"] (spD K 2 ES):=dfW (N:=["many","one"]) 0 T.DC scM λ_ _ _=>by
 have:AO ["many","one"] (AB DC) ["one","at"] (ixC [1] 1) (IK DC 0):=csM
 have:(["one","at"]:Wp Str).Nodup:=by decide+kernel
 walk_at "d T.bt T.kM T.QB"
theorem Tt:St.Dfn P w K mg base "mixed_shares" 4 ["shares","weight","others","more"] (spD K 4 CL):=dfW (N:=["shares","weight","others","more"]) 3 T.CH scM λ_ _ _=>by
 have:AO ["shares","weight","others","more"] (AB CH) ["weight","more","share","other"] (ixC [1,3] 2) (IK CH 0):=csM
 have:(["weight","more","share","other"]:Wp Str).Nodup:=by decide+kernel
 walk_at "d T.bt iC"
theorem Va:St.Dfn P w K mg base "made_shares" 5 ["held","shares","deed"] (spD K 3 A7):=dfW (N:=["held","shares","deed","sources","load","other"]) 4 T.FT scM λ_ _ _=>by
 walk_at "d T.bt YR Tt"
theorem Tu:St.Dfn P w K mg base "worth_of_all" 1 ["train","held","worths"] (spD K 3 DH):=dfW (N:=["train","held","worths"]) 0 T.CI scM λ_ _ _=>by
 have:AO ["train","held","worths"] (AB CI) ["worths","kind","pieces"] (ixC [2] 2) (IK CI 0):=csM
 have:(["worths","kind","pieces"]:Wp Str).Nodup:=by decide+kernel
 walk_at "d T.bt"
theorem Ul:St.Dfn P w K mg base "part_thrown" 3 ["train","held","deed"] (spD K 3 D5):=dfW (N:=["train","held","deed","load","pieces","worths"]) 2 T.FP scM λ_ _ _=>by
 walk_at "d eS Tu"
theorem Tq:St.Dfn P w K mg base "thrown_shares" 5 ["train","held","owners","deed","shares"] (spD K 5 Ct):=dfW (N:=["train","held","owners","deed","shares","top","bottom"]) 4 T.D7 scM λ_ _ _=>by
 walk_at "d Tt Ul"
theorem WC:St.Dfn P w K mg base "sold_shares" 4 ["deed","shares"] (spD K 2 Du):=dfW (N:=["deed","shares","partner","other","sold","passed","changed"]) 3 T.FK scM λ_ _ _=>by
 walk_at "d T.bt lX kx gL"
theorem TL:St.Dfn P w K mg base "shares_behind" 6 ["train","held","owners","deed","shares"] (spD K 5 AY):=dfW (N:=["train","held","owners","deed","shares"]) 5 T.EI scM λ_ _ _=>by
 walk_at "d Tq WC"
theorem SX:St.Dfn P w K mg base "owners_behind" 7 ["train","held","owners","deed"] (spD K 4 Ah):=dfW (N:=["train","held","owners","deed","behind"]) 6 T.Bx scM λ_ _ _=>by
 have:AO ["train","held","owners","deed","behind"] (AB Bx) ["train","held","owners","deed","shares"] (ixC [0,1,2,3] 1) (IK Bx 0):=csM
 have:(["train","held","owners","deed","shares"]:Wp Str).Nodup:=by decide+kernel
 walk_at "d T.Ri Wo Va TL"
theorem Zl:St.Dfn P w K mg base "state_by" 8 ["book","many"] (spD K 2 Fv):=dfW (N:=["book","many","train","first","deeds","held","owners","holders","deed"]) 7 T.Ec scM λ_ _ _=>by
 have:AO ["book","many","train","first","deeds","held","owners","holders","deed"] (AB Ec) ["load"] (ixC [] 1) (IK Ec 0):=csM
 have:(["load"]:Wp Str).Nodup:=by decide+kernel
 walk_at "d WE Sn TL SX"
theorem TZ:St.Dfn P w K mg base "sums_by_kinds" 4 ["kinds","held","shares"] (spD K 3 Bt):=dfW (N:=["kinds","held","shares","sums","share","kind","pieces"]) 3 T.EJ scM λ_ _ _=>by
 walk_at "d T.bt T.QB lX gL"
theorem VP:St.Dfn P w K mg base "theirs_told" 9 ["book","many"] (spD K 2 Dm):=dfW (N:=["book","many","partners","kinds","held","owners","holders"]) 8 T.BG scM λ_ _ _=>by
 have:AO ["book","many","partners","kinds","held","owners","holders"] (AB BG) ["kinds","held","owners","partner"] (ixC [3,4,5] 1) (IK BG 0):=csM
 have:(["kinds","held","owners","partner"]:Wp Str).Nodup:=by decide+kernel
 have:AO ["kinds","held","owners","partner"] (oX (IK BG 0) (AB BG)) ["partner","shares"] (ixC [3] 1) (IK BG 1):=csM
 have:(["partner","shares"]:Wp Str).Nodup:=by decide+kernel
 walk_at "d T.bt Zl TZ"
theorem Gx:St.Dfn P w K mg base "theirs_by" 10 ["book","many","partner"] (spD K 3 Dq):=dfW (N:=["book","many","partner"]) 9 T.Gq scM λ_ _ _=>by
 walk_at "d BW QL Pd VP"
omit T bm in
theorem Mm:Aj ["self","train","first"] ["self","train","first"] (AB Bp):=scM
theorem GA:MkD P w K mg base CX0 "Leader" 8 ["self","train","first"] (spD K 3 Bn):=by
 have Ap:=T.Ap
 have HQ:=HQ P base bm T
 have Gi:=Gi P base bm T
 refine pz (N:=["self","train","first"]) 7 T.Bp Mm λ{f cdv A outer s H E} nd_ hr hu=>?_
 exact(Aa (HG (Fx (Fi (deM HQ hr (AD (AH 1) AI)))) (Aq IQ) CO)
      (Aa (HG (Fx (Fi (deM Gi hr (AD (AH 1) (AD (AH 2) AI))))) (Aq IQ) CO)
      (Aa (Wg Ap (by decide) (AH 0) (Dx (AD (AH 1) (AD (AH 2) (AD (Dx AI) AI)))))
      (Aq (Wg Ap (by decide) (AH 0) (UC AI))))))
omit T bm in
theorem JZ:Aj ["self","book"] ["self","book"] (AB A6):=scM
theorem BJ:MeD P w K mg base CX0 "Leader" "turn_to" 1 ["self","book"] (spD K 2 A4):=by
 have Ap:=T.Ap
 refine XW (N:=["self","book"]) 0 T.A6 JZ λ{f cdv A outer s H E} nd_ hr hu=>?_
 exact(Aa (Ke (kP ABR PySem.F.type_list_append dS (La Ap (by decide) (AH 0)) (AD (La Ap (by decide) (AH 0)) AI)))
      (Aq (Wg Ap (by decide) (AH 0) (AH 1))))
omit T bm in
theorem Az:Aj ["self","deed","train","first","deeds","behind"] ["self","deed"] (AB Bj):=scM
theorem Gj:MeD P w K mg base (CXr P w) "Leader" "do" 9 ["self","deed"] (spR K mg 2 A3):=by
 have B:=T.bt
 have Ap:=T.Ap
 have DM:=DM P base bm T
 have B9:=B9 P base bm T
 have BW:=BW P base bm T
 have FZ:=FZ P base bm T
 have BJ:=BJ P base bm T
 have J4:=T.J4
 have Hr:=T.Hr
 have EE:=EE P base bm T
 have JJ:=JJ P base bm T
 refine jf (N:=["self","deed","train","first","deeds","behind"]) 8 T.Bj Az λ{f cdv A outer s H E} nd_ hr hu=>?_
 exact(Gb XR (Q8 (La Ap (by decide) (AH 0)) (WN rfl (Cr (HF 2 Az.nd) (Cr (HF 3 Az.nd) (Cr (HF 4 Az.nd) Lx)))))
      (Gb (dG (Fx (Fi (deM DM hr (AD (AH 2) (AD (AH 1) AI))))) (MB (RA rfl J4 rfl (AD Df AI))) VG) (HG (Fx (Fi (deM DM hr (AD (AH 2) (AD (AH 1) AI))))) (Aq IQ) CO)
      (Gb XR (Er 5 (Dx (AD (AH 2) (AD (AH 3) (AD (P5 JX (AH 4) (Dx (AD (AH 1) AI))) AI)))) Az.nd)
      (Gb (bY (U1 EE (hr.mono (by decide)) rfl (AD (AH 5) AI))) (Ke (deM BW hr (AD (AH 5) AI)))
      (Gb (dG (Fx (Fi (deM B9 hr (AD (AH 2) (AD (Fd Mt (AH 5) BQ) AI))))) (MB (RA rfl Hr rfl (AD Df AI))) VG) (HG (Fx (Fi (deM B9 hr (AD (AH 2) (AD (Fd Mt (AH 5) BQ) AI))))) (Aq IQ) CO)
      (Gb XR (Ke (LO BJ hr (AH 0) (AD (AH 5) AI)))
      (MB (gU (U1 JJ (hr.mono (by decide)) rfl (AD (AH 5) (AD (DF Dl rfl B.len zo (AD (AH 4) AI)) AI)))))))))))
theorem Ga:MeD P w K mg base CX0 "Leader" "do" 9 ["self","deed"] (spD K 2 As):=by
 have B:=T.bt
 have Ap:=T.Ap
 have DM:=DM P base bm T
 have B9:=B9 P base bm T
 have BW:=BW P base bm T
 have FZ:=FZ P base bm T
 have BJ:=BJ P base bm T
 refine XW (N:=["self","deed","train","first","deeds","behind"]) 8 T.Bj Az λ{f cdv A outer s H E} nd_ hr hu=>?_
 exact(Aa (Q8 (La Ap (by decide) (AH 0)) (WN rfl (Cr (HF 2 Az.nd) (Cr (HF 3 Az.nd) (Cr (HF 4 Az.nd) Lx)))))
      (Aa (HG (Fx (Fi (deM DM hr (AD (AH 2) (AD (AH 1) AI))))) (Aq IQ) CO)
      (Aa (Er 5 (Dx (AD (AH 2) (AD (AH 3) (AD (P5 JX (AH 4) (Dx (AD (AH 1) AI))) AI)))) Az.nd)
      (Aa (Ke (deM BW hr (AD (AH 5) AI)))
      (Aa (HG (Fx (Fi (deM B9 hr (AD (AH 2) (AD (Fd Mt (AH 5) BQ) AI))))) (Aq IQ) CO)
      (Aa (Ke (LO BJ hr (AH 0) (AD (AH 5) AI)))
      (Aq (CP (deM FZ hr (AD (AH 5) (AD (DF Dl rfl B.len zo (AD (AH 4) AI)) AI)))))))))))
omit T bm in
theorem LC:Aj ["self"] ["self"] (AB Ba):=scM
theorem FW:MeD P w K mg base CX0 "Leader" "book" 1 ["self"] (spD K 1 CV):=by
 have Ap:=T.Ap
 refine XW (N:=["self"]) 0 T.Ba LC λ{f cdv A outer s H E} nd_ hr hu=>?_
 exact(Aq (CP (La Ap (by decide) (AH 0))))
omit T bm in
theorem J7:Aj ["self","partner"] ["self","partner"] (AB BB):=scM
theorem D8:MeD P w K mg base CX0 "Leader" "theirs" 11 ["self","partner"] (spD K 2 BV):=by
 have B:=T.bt
 have Ap:=T.Ap
 have Gx:=Gx P base bm T
 refine XW (N:=["self","partner"]) 10 T.BB J7 λ{f cdv A outer s H E} nd_ hr hu=>?_
 exact(Aq (CP (deM Gx hr (AD (La Ap (by decide) (AH 0)) (AD (DF Dl rfl B.len zo (AD (Fd Mt (La Ap (by decide) (AH 0)) BQ) AI)) (AD (AH 1) AI))))))
theorem Mc:St.Dfn P w K mg base "_law_pen" 1 ["_law_cell"] (spD K 1 Hh):=dfW (N:=["_law_cell"]) 0 T.Me scM λ_ _ _=>by
 walk_at "d T.bt"
theorem Gw:St.Dfn P w K mg base "_law_cell_at" 1 ["_law_script","_law_k"] (spD K 2 Cq):=dfW (N:=["_law_script","_law_k"]) 0 T.GV scM λ_ _ _=>by
 walk_at "d T.bt"
theorem J8:St.Dfn P w K mg base "_law_draw" 1 ["_law_pen_here","_law_bound"] (spD K 2 AG):=dfW (N:=["_law_pen_here","_law_bound","_law_found","_law_stir"]) 0 T.KA scM λ_ _ _=>by
 walk_at "d"
theorem ZP:St.Dfn P w K mg base "_law_common" 1 ["_law_one","_law_other"] (spD K 2 Fm):=dfW (N:=["_law_one","_law_other"]) 0 T.Hc scM λ_ _ _=>by
 walk_at "d"
theorem eM:St.Dfn P w K mg base "_law_made" 2 ["_law_top","_law_bottom"] (spD K 2 BY):=dfW (N:=["_law_top","_law_bottom","_law_by"]) 1 T.KW scM λ_ _ _=>by
 walk_at "d T.bt ZP"
theorem bQ:St.Dfn P w K mg base "_law_whole" 3 ["_law_pen_here","_law_many"] (spD K 2 DP):=dfW (N:=["_law_pen_here","_law_many","_law_weights"]) 2 T.DL scM λ_ _ _=>by
 have:AO ["_law_pen_here","_law_many","_law_weights"] (AB DL) ["_law_pen_here","_law_one"] (ixC [0] 1) (IK DL 0):=csM
 have:(["_law_pen_here","_law_one"]:Wp Str).Nodup:=by decide+kernel
 have:AO ["_law_pen_here","_law_many","_law_weights"] (AB DL) ["_law_weights","_law_weight"] (ixC [2] 1) (IK DL 1):=csM
 have:(["_law_weights","_law_weight"]:Wp Str).Nodup:=by decide+kernel
 walk_at "d T.bt J8 eM"
theorem dm:St.Dfn P w K mg base "_law_train" 4 ["_law_pen_here"] (spD K 1 Gz):=dfW (N:=["_law_pen_here","_law_partners","_law_kinds","_law_beasts"]) 3 T.Iy scM λ_ _ _=>by
 walk_at "d J8 bQ"
theorem ZA:St.Dfn P w K mg base "_law_pieces" 2 ["_law_pen_here"] (spD K 1 A8):=dfW (N:=["_law_pen_here","_law_great"]) 1 T.HZ scM λ_ _ _=>by
 walk_at "d J8"
theorem d9:St.Dfn P w K mg base "_law_first" 4 ["_law_pen_here","_law_train_here"] (spD K 2 Gu):=dfW (N:=["_law_pen_here","_law_train_here","_law_found","_law_k"]) 3 T.Iw scM λ_ _ _=>by
 walk_at "d T.bt J8 bQ ZA"
theorem JF:St.Dfn P w K mg base "_law_begin" 5 ["_law_pen_here"] (spD K 1 FX):=dfW (N:=["_law_pen_here","_law_train_here"]) 4 T.JP scM λ_ _ _=>by
 walk_at "d dm d9"
theorem Sv:St.Dfn P w K mg base "_law_is_swapping" 1 ["_law_train_here","_law_load","_law_given","_law_kind","_law_got"] (spD K 5 Cy):=dfW (N:=["_law_train_here","_law_load","_law_given","_law_kind","_law_got"]) 0 T.D9 scM λ_ _ _=>by
 walk_at "d"
theorem Gf:St.Dfn P w K mg base "_law_is_deed" 2 ["_law_train_here","_law_deed_here"] (spD K 2 A5):=dfW (N:=["_law_train_here","_law_deed_here","_law_word","_law_things","_law_load","_law_given","_law_kind","_law_got"]) 1 T.G4 scM λ_ _ _=>by
 walk_at "d Sv"
theorem JN:St.Dfn P w K mg base "_law_begun" 1 ["_law_book"] (spD K 1 CC):=dfW (N:=["_law_book"]) 0 T.FE scM λ_ _ _=>by
 have:AO ["_law_book"] (AB FE) ["_law_load"] (ixC [] 1) (IK FE 0):=csM
 have:(["_law_load"]:Wp Str).Nodup:=by decide+kernel
 walk_at "d T.bt"
theorem eW:St.Dfn P w K mg base "_law_plus" 3 ["_law_one","_law_other"] (spD K 2 BX):=dfW (N:=["_law_one","_law_other"]) 2 T.Kk scM λ_ _ _=>by
 walk_at "d eM"
theorem av:St.Dfn P w K mg base "_law_times" 3 ["_law_one","_law_other"] (spD K 2 Af):=dfW (N:=["_law_one","_law_other"]) 2 T.Iq scM λ_ _ _=>by
 walk_at "d eM"
theorem Zs:St.Dfn P w K mg base "_law_pooled" 4 ["_law_one","_law_other"] (spD K 2 Ft):=dfW (N:=["_law_one","_law_other","_law_found","_law_mine","_law_its","_law_both"]) 3 T.HM scM λ_ _ _=>by
 walk_at "d T.bt eM eW av"
theorem eZ:St.Dfn P w K mg base "_law_cost" 3 ["_law_train_here","_law_loads","_law_deed_here"] (spD K 3 IG):=dfW (N:=["_law_train_here","_law_loads","_law_deed_here","_law_worths_here","_law_whole_here"]) 2 T.GR scM λ_ _ _=>by
 have:AO ["_law_train_here","_law_loads","_law_deed_here","_law_worths_here","_law_whole_here"] (AB GR) ["_law_worths_here","_law_kind","_law_pieces_here","_law_owners"] (ixC [3] 3) (IK GR 0):=csM
 have:(["_law_worths_here","_law_kind","_law_pieces_here","_law_owners"]:Wp Str).Nodup:=by decide+kernel
 walk_at "d T.bt eM"
theorem fE:St.Dfn P w K mg base "_law_less" 4 ["_law_one","_law_other"] (spD K 2 Dh):=dfW (N:=["_law_one","_law_other"]) 3 T.Kg scM λ_ _ _=>by
 walk_at "d eW"
theorem Z0:St.Dfn P w K mg base "_law_borne" 5 ["_law_shares","_law_part","_law_owners"] (spD K 3 EH):=dfW (N:=["_law_shares","_law_part","_law_owners","_law_found","_law_mine","_law_its"]) 4 T.JD scM λ_ _ _=>by
 walk_at "d T.bt eW av fE"
theorem fG:St.Dfn P w K mg base "_law_sold" 5 ["_law_shares","_law_deed_here"] (spD K 2 E8):=dfW (N:=["_law_shares","_law_deed_here","_law_found","_law_passes"]) 4 T.KN scM λ_ _ _=>by
 walk_at "d T.bt eW av fE"
theorem eR:St.Dfn P w K mg base "_law_turn" 6 ["_law_train_here","_law_state","_law_deed_here"] (spD K 3 FA):=dfW (N:=["_law_train_here","_law_state","_law_deed_here","_law_loads","_law_holders","_law_numbers","_law_part","_law_owners","_law_load"]) 5 T.Kc scM λ_ _ _=>by
 walk_at "d eZ Z0 fG"
theorem OD:St.Dfn P w K mg base "_law_do" 7 ["_law_train_here","_law_state","_law_deed_here"] (spD K 3 Bl):=dfW (N:=["_law_train_here","_law_state","_law_deed_here","_law_loads","_law_holders","_law_numbers","_law_word","_law_one","_law_other","_law_load","_law_given","_law_kind","_law_got"]) 6 T.Jm scM λ_ _ _=>by
 have:AO ["_law_train_here","_law_state","_law_deed_here","_law_loads","_law_holders","_law_numbers","_law_word","_law_one","_law_other","_law_load","_law_given","_law_kind","_law_got"] (AB Jm) ["_law_deed_here","_law_one"] (ixC [2] 1) (IK Jm 0):=csM
 have:(["_law_deed_here","_law_one"]:Wp Str).Nodup:=by decide+kernel
 walk_at "d T.bt Zs eR"
theorem aI:St.Dfn P w K mg base "_law_there" 1 ["_law_loads","_law_load","_law_pieces_here"] (spD K 3 CZ):=dfW (N:=["_law_loads","_law_load","_law_pieces_here"]) 0 T.JH scM λ_ _ _=>by
 walk_at "d T.bt"
theorem ML:St.Dfn P w K mg base "_law_can" 2 ["_law_state","_law_deed_here"] (spD K 2 BP):=dfW (N:=["_law_state","_law_deed_here","_law_loads","_law_holders","_law_numbers","_law_there_here","_law_load","_law_given","_law_kind","_law_got"]) 1 T.LZ scM λ_ _ _=>by
 walk_at "d aI"
omit T bm in
theorem CA:Aj ["_law_book","_law_deed_here","_law_train_here","_law_first_here","_law_deeds","_law_state","_law_one","_law_throws"] ["_law_book","_law_deed_here"] (AB DZ):=scM
omit T bm in
theorem Lu:AO ["_law_book","_law_deed_here","_law_train_here","_law_first_here","_law_deeds","_law_state","_law_one","_law_throws"] (AB DZ) ["_law_one"] (ixC [] 1) (IK DZ 0):=csM
omit T bm in
theorem L7:(["_law_one"]:Wp Str).Nodup:=by decide+kernel
theorem Hu:St.Dfn P w K mg base "_law_due_of" 8 ["_law_book","_law_deed_here"] (spD K 2 Ck):=by
 have B:=T.bt
 have Gf:=Gf P base bm T
 have JN:=JN P base bm T
 have OD:=OD P base bm T
 have ML:=ML P base bm T
 refine dfM 7 T.DZ CA λhr hu=>?_
 exact(Aa (Q8 (AH 0) (WN rfl (Cr (HF 2 CA.nd) (Cr (HF 3 CA.nd) (Cr (HF 4 CA.nd) Lx)))))
      (Aa (HG (Fx (Fi (deM Gf hr (AD (AH 2) (AD (AH 1) AI))))) (Aq (CP Df)) CO)
      (Aa (Er 5 (deM JN hr (AD (AH 0) AI)) CA.nd)
      (Aa (Zc PassesOwn.never rfl (ZO (AH 4)) (HF 6 CA.nd) (Aq (Ke (deM OD hr (AD (AH 2) (AD (AH 5) (AD (AH 6) AI)))))))
      (Aa (HG (Fx (Fi (deM ML hr (AD (AH 5) (AD (AH 1) AI))))) (Aq (CP Df)) CO)
      (Aa (Er 7 (DF Dl rfl B.len zo (AD (Q1 [] 1 ["_law_one"] rfl Lu (ZO (P5 JX (AH 4) (Dx (AD (AH 1) AI)))) (λs H fp=>⟨HF 0 L7,cF (IX (Nv hu) (Fd Mt (AH 0) BQ) Df),AH 0⟩)) AI)) CA.nd)
      (Aq (CP (Fd Mt (UC (AD Df (AD Df AI))) (Vg Uz rfl B.int boot_int (AD (kK (Pq (Nv hu) (DF Dl rfl B.len zo (AD (AH 4) AI)) BQ) (UP (Pq kO (AH 7) BQ))) AI)))))))))))
theorem Hs:St.Dfn P w K mg base "_law_number" 1 ["_law_book"] (spD K 1 Cc):=dfW (N:=["_law_book"]) 0 T.Ed scM λ_ _ _=>by
 have:AO ["_law_book"] (AB Ed) ["_law_deed_here"] (ixC [] 1) (IK Ed 0):=csM
 have:(["_law_deed_here"]:Wp Str).Nodup:=by decide+kernel
 walk_at "d T.bt"
omit T bm in
theorem Bz:Aj ["_law_leader","_law_book","_law_deed_here","_law_due","_law_number_here","_law_told"] ["_law_leader","_law_book","_law_deed_here"] (AB Bb):=scM
omit T bm in
theorem JI:LV ["_law_leader","_law_book","_law_deed_here","_law_due","_law_number_here","_law_told"] (AB Bb) ["_law_leader","_law_deed_here"] [0,2] (rV Bb 0):=lsM
theorem El:St.Dfn P w K mg base "_law_deed_right" 13 ["_law_leader","_law_book","_law_deed_here"] (spD K 3 CK):=by
 have B:=T.bt
 have S_law_said:=T.IJ
 have Ga:=Ga P base bm T
 have Hu:=Hu P base bm T
 have Hs:=Hs P base bm T
 have Jk:=T.Jk
 have J3:=T.J3
 have Hi:=T.Hi
 have Dv:=T.Dv
 have HV:=T.HV
 have xa_NotDone:=T.Jr.xa
 have Gj:=Gj P base bm T
 refine dfL 12 T.Bb Bz λci hr hu=>?_
 exact(Aa (Er 3 (deM Hu hr (AD (AH 1) (AD (AH 2) AI))) Bz.nd)
      (Aa (Er 4 Jt Bz.nd)
      (Aa (HG (IX gG (Fd Mt (AH 2) BQ) (Dx (AD Df (AD Df (AD Df (AD Df AI)))))) (Aq (Er 4 (deM Hs hr (AD (AH 1) AI)) Bz.nd)) CO)
      (Aa (Er 5 (ip hu (jY (RY Df (Dx (AD Df (AD (AH 4) AI))) (RY Df (Dx (AD Df (AD (DF Dl rfl B.len zo (AD (Fd Mt (AH 1) BQ) AI)) AI))) aY)) (List.cons_ne_nil _ _) (by decide)) (AH 3) (Dx (AD (AH 3) (AD Jt AI))) ⟨rfl,rfl,rfl,rfl⟩) Bz.nd)
      (Aa (HG (IX (Rz hu) (cL (k:=9) S_law_said Mf JI ci bm (hr.mono (by decide)) rfl (λf c' clos A outer s H hr=>(LO Ga hr (AH 0) (AD (AH 1) AI))) (λf c' clos A outer s H hr=>(XQ Gj hr (AH 0) (AD (AH 1) AI))) (λ_ _ _ _ _ _=>(OB Jk rfl (λ_=>Aq (CP (Dx (AD Df (AD Jt AI))))) (oW (i:=1) Hi xa_NotDone rfl Mf.nd rfl rfl rfl rfl (λ_ _ D=>bN D rfl (.inl rfl)) (OB HV rfl (λ_=>Aq (CP (Dx (AD Df (AD Jt AI))))) (OB J3 rfl (λ_=>Aq (CP (Dx (AD Df (AD Jt AI))))) (OB Dv rfl (λ_=>Aq (CP (Dx (AD Df (AD Jt AI))))) jN))))))) (AH 5)) (Aq (CP Jt)) CO)
      (Aa (HG (IX (Nv hu) (AH 3) Df) (Aq (CP (P5 JX (bp (AH 1) BQ) (Dx (AD (P5 JX (Fd Mt (AH 1) BQ) (Dx (AD (AH 2) AI))) AI))))) CO)
      (Aq (CP (AH 1)))))))))
theorem dD:St.Dfn P w K mg base "_law_share" 3 ["_law_pen_here"] (spD K 1 FY):=dfW (N:=["_law_pen_here","_law_bottom"]) 2 T.JR scM λ_ _ _=>by
 walk_at "d J8 eM"
theorem ZE:St.Dfn P w K mg base "_law_worths" 2 ["_law_pen_here","_law_many"] (spD K 2 Di):=dfW (N:=["_law_pen_here","_law_many"]) 1 T.Eb scM λ_ _ _=>by
 have:AO ["_law_pen_here","_law_many"] (AB Eb) ["_law_pen_here","_law_one"] (ixC [0] 1) (IK Eb 0):=csM
 have:(["_law_pen_here","_law_one"]:Wp Str).Nodup:=by decide+kernel
 walk_at "d T.bt J8"
theorem eY:St.Dfn P w K mg base "_law_deed" 4 ["_law_pen_here","_law_train_here","_law_state"] (spD K 3 DY):=dfW (N:=["_law_pen_here","_law_train_here","_law_state","_law_loads","_law_holders","_law_numbers","_law_full","_law_way","_law_load","_law_some","_law_same","_law_kind","_law_left","_law_partner"]) 3 T.Cw scM λ_ _ _=>by
 have:AO ["_law_pen_here","_law_train_here","_law_state","_law_loads","_law_holders","_law_numbers","_law_full","_law_way","_law_load","_law_some","_law_same","_law_kind","_law_left","_law_partner"] (AB Cw) ["_law_at","_law_load"] (ixC [] 2) (IK Cw 0):=csM
 have:(["_law_at","_law_load"]:Wp Str).Nodup:=by decide+kernel
 have:AO ["_law_pen_here","_law_train_here","_law_state","_law_loads","_law_holders","_law_numbers","_law_full","_law_way","_law_load","_law_some","_law_same","_law_kind","_law_left","_law_partner"] (AB Cw) ["_law_loads","_law_load","_law_at"] (ixC [3,8] 1) (IK Cw 1):=csM
 have:(["_law_loads","_law_load","_law_at"]:Wp Str).Nodup:=by decide+kernel
 have:AO ["_law_pen_here","_law_train_here","_law_state","_law_loads","_law_holders","_law_numbers","_law_full","_law_way","_law_load","_law_some","_law_same","_law_kind","_law_left","_law_partner"] (AB Cw) ["_law_numbers","_law_number_here"] (ixC [5] 1) (IK Cw 2):=csM
 have:(["_law_numbers","_law_number_here"]:Wp Str).Nodup:=by decide+kernel
 walk_at "d T.bt J8 ZA dD ZE"
theorem FO:St.Dfn P w K mg base "_law_some_deed" 8 ["_law_pen_here","_law_book"] (spD K 2 B0):=dfW (N:=["_law_pen_here","_law_book","_law_train_here","_law_first_here","_law_deeds","_law_state","_law_deed_here"]) 7 T.Cb scM λ_ _ _=>by
 have:AO ["_law_pen_here","_law_book","_law_train_here","_law_first_here","_law_deeds","_law_state","_law_deed_here"] (AB Cb) ["_law_pen_here","_law_one"] (ixC [0] 1) (IK Cb 0):=csM
 have:(["_law_pen_here","_law_one"]:Wp Str).Nodup:=by decide+kernel
 walk_at "d T.bt J8 JN OD eY"
theorem Hk:St.Dfn P w K mg base "_law_states" 8 ["_law_book"] (spD K 1 EV):=dfW (N:=["_law_book","_law_state","_law_found","_law_deed_here"]) 7 T.Co scM λ_ _ _=>by
 have:AO ["_law_book","_law_state","_law_found","_law_deed_here"] (AB Co) ["_law_load"] (ixC [] 1) (IK Co 0):=csM
 have:(["_law_load"]:Wp Str).Nodup:=by decide+kernel
 have:AO ["_law_book","_law_state","_law_found","_law_deed_here"] (AB Co) ["_law_load"] (ixC [] 1) (IK Co 1):=csM
 have:(["_law_load"]:Wp Str).Nodup:=by decide+kernel
 walk_at "d T.bt JN OD"
theorem kS:St.Dfn P w K mg base "_law_sum" 4 ["_law_some"] (spD K 1 GH):=dfW (N:=["_law_some","_law_found","_law_one"]) 3 T.Lr scM λ_ _ _=>by
 walk_at "d eW"
theorem HY:St.Dfn P w K mg base "_law_theirs" 5 ["_law_book","_law_loads","_law_partner"] (spD K 3 De):=dfW (N:=["_law_book","_law_loads","_law_partner","_law_found","_law_kind","_law_some"]) 4 T.EX scM λ_ _ _=>by
 have:AO ["_law_book","_law_loads","_law_partner","_law_found","_law_kind","_law_some"] (AB EX) ["_law_partner","_law_kind","_law_load"] (ixC [2,4] 1) (IK EX 0):=csM
 have:(["_law_partner","_law_kind","_law_load"]:Wp Str).Nodup:=by decide+kernel
 walk_at "d T.bt av kS"
omit T bm in
theorem Hg:Aj ["_law_leader","_law_book","_law_loads","_law_mine"] ["_law_leader","_law_book"] (AB Cn):=scM
omit T bm in
theorem My:AO ["_law_leader","_law_book","_law_loads","_law_mine"] (AB Cn) ["_law_leader","_law_partner"] (ixC [0] 1) (IK Cn 0):=csM
omit T bm in
theorem ND:(["_law_leader","_law_partner"]:Wp Str).Nodup:=by decide+kernel
omit T bm in
theorem Mv:AO ["_law_leader","_law_book","_law_loads","_law_mine"] (AB Cn) ["_law_book","_law_loads","_law_partner"] (ixC [1,2] 1) (IK Cn 1):=csM
omit T bm in
theorem Mx:(["_law_book","_law_loads","_law_partner"]:Wp Str).Nodup:=by decide+kernel
theorem GX:St.Dfn P w K mg base "_law_is_so" 12 ["_law_leader","_law_book"] (spD K 2 DO):=by
 have B:=T.bt
 have FW:=FW P base bm T
 have D8:=D8 P base bm T
 have Hk:=Hk P base bm T
 have HY:=HY P base bm T
 refine dfM 11 T.Cn Hg λhr hu=>?_
 exact(Aa (HG (IX (Rz hu) (WL FW hr (AH 0)) (AH 1)) (Aq (CP Qa)) CO)
      (Aa (Er 2 (Fd Mt (Fd Mt (deM Hk hr (AD (AH 1) AI)) (nO cM BQ)) BQ) Hg.nd)
      (Aa (Sq [0] 1 ["_law_leader","_law_partner"] rfl Hg.nd rfl rfl My (QQ rfl B.range (AD (Fd Mt (Fd Mt (AH 1) BQ) BQ) AI)) (λs H fp=>⟨HF 1 ND,QV,LO D8 hr (AH 0) (AD (AH 1) AI)⟩))
      (Aq (CP (Pq (Nv hu) (AH 3) (Q1 [1,2] 1 ["_law_book","_law_loads","_law_partner"] rfl Mv (QQ rfl B.range (AD (Fd Mt (Fd Mt (AH 1) BQ) BQ) AI)) (λs H fp=>⟨HF 2 Mx,QV,deM HY hr (AD (AH 0) (AD (AH 1) (AD (AH 2) AI)))⟩))))))))
end
@[simp high] def A1{α β:Type}(a:α)(f:α->Option β):(some a).bind f=f a:=Eq.mp (congrArg (λz=>z=f a) rfl) (Eq.refl (f a))
@[simp high] def oY{α β:Type}(a:α)(f:α->β):(some a).map f=some (f a):=Eq.mp (congrArg (λz=>z=some (f a)) rfl) (Eq.refl (some (f a)))
section
variable{E:En}{S:Sto}{op:OpN}{f g c:Ev}{d:D}{i:Nat}{w:Wv}{a b e h r':D}{r:Wp D}{fs:Wp Ev}
@[simp] def uN:at? (o::E) 0=o:=rfl
@[simp] def uB:at? (o::E) (i+1)=at? E i:=rfl
@[simp] def qu:eC d E S=some (d,S):=rfl
@[simp] def rA:eV i E S=(at? E i).map λd=>(d,S):=rfl
@[simp] def dC:evs [] E S=some ([],S):=rfl
@[simp] def DK:evs (f::fs) E S=(f E S).bind λr=>(evs fs E r.2).map λq=>(r.1::q.1,q.2):=rfl
@[simp] def Vm{cf:Bool}:O0 cf op fs E S=(evs fs E S).bind λr=>(op (r.1.map (dr r.2))).bind λw=>fin cf w r.2:=rfl
@[simp] def sx{cf:Bool}:fin cf (.val d) S=some (d,S):=by cases cf<;>rfl
@[simp] def sQ:fin false (.own r) S=some (.lst r,S):=rfl
@[simp] def sX:fin true (.own r) S=some (.ref S.length,S++[.lst r]):=rfl
@[simp] def rB:dr S .non=.val .non:=rfl
@[simp] def tS{b:Bool}:dr S (.bl b)=.val (.bl b):=rfl
@[simp] def ql{i:Int}:dr S (.int i)=.val (.int i):=rfl
@[simp] def qM{x:Str}:dr S (.str x)=.val (.str x):=rfl
@[simp] def tN{x:String}:dr S (.ty x)=.val (.ty x):=rfl
@[simp] def rD:dr S (.tup r)=.val (.tup r):=rfl
@[simp] def qr:dr S (.lst r)=.val (.lst r):=rfl
@[simp] def qh{ns:List Int}:dr S (.scr ns)=.val (.scr ns):=rfl
def An{n:Nat}(h:S[n]?=Gc (.lst r)):dr S (.ref n)=.own r:=by
 show(match S[n]? with|some (.lst ds)=>Wv.own ds|_=>.val (.ref n))=_
 rw[h]
def AQ{n:Nat}(h:S[n]?=Gc (.lst r)):Ek S n=Gc r:=by
 unfold Ek
 rw[h]
@[simp] def qb:fz (.val d)=d:=rfl
noncomputable def ng(g:Ev)(E:En)(r:D×Sto):uR (D×Sto):=match r.1 with| .bl true=>g E r.2| .bl false=>Gc (.bl false,r.2)|_=>none
noncomputable def orK(g:Ev)(E:En)(r:D×Sto):uR (D×Sto):=match r.1 with| .bl false=>g E r.2| .bl true=>Gc (.bl true,r.2)|_=>none
noncomputable def qF(r:D×Sto):uR (D×Sto):=match r.1 with| .bl b=>Gc (.bl (!b),r.2)|_=>none
noncomputable def ifK(f g:Ev)(E:En)(r:D×Sto):uR (D×Sto):=match r.1 with| .bl true=>f E r.2| .bl false=>g E r.2|_=>none
@[simp] def qy:ng g E (.bl true,S)=g E S:=rfl
@[simp] def q9:ng g E (.bl false,S)=some (.bl false,S):=rfl
@[simp] def sF:orK g E (.bl false,S)=g E S:=rfl
@[simp] def rO:orK g E (.bl true,S)=some (.bl true,S):=rfl
@[simp] def qR{b:Bool}:qF (.bl b,S)=some (.bl (!b),S):=rfl
@[simp] def rY:ifK f g E (.bl true,S)=f E S:=rfl
@[simp] def sV:ifK f g E (.bl false,S)=g E S:=rfl
@[simp] def lQ:D6 f g E S=(f E S).bind (ng g E):=rfl
@[simp] def pE:eOr f g E S=(f E S).bind (orK g E):=rfl
@[simp] def mD:Ew f E S=(f E S).bind qF:=rfl
@[simp] def nK:eIf c f g E S=(c E S).bind (ifK f g E):=rfl
@[simp] def ky:A9 fs E S=(evs fs E S).bind λr=>if r.1.length<=sizeLine then some (.tup r.1,r.2)else none:=rfl
@[simp] def lP{cf:Bool}:YS cf fs E S=(evs fs E S).bind λr=>if r.1.length<=sizeLine then fin cf (.own r.1) r.2 else none:=rfl
@[simp] def iR{F:Fn}:AF F fs E S=(evs fs E S).bind λr=>F r.1 r.2:=rfl
noncomputable def qw(op:Mo)(fs:Wp Ev)(E:En)(r:D×Sto):uR (D×Sto):=match r.1 with
 | .ref n=>(Ek r.2 n).bind λ_=>(evs fs E r.2).bind λp=>(Ek p.2 n).bind λds=>(op p.2 ds p.1).map λq=>(q.1,p.2.set n (.lst q.2))
 |_=>none
@[simp] def lr{op:Mo}:qw op fs E (.ref n,S)=(Ek S n).bind λ_=>(evs fs E S).bind λp=>(Ek p.2 n).bind λds=>(op p.2 ds p.1).map λq=>(q.1,p.2.set n (.lst q.2)):=rfl
@[simp] def mL{op:Mo}:NC op f fs E S=(f E S).bind (qw op fs E):=rfl
@[simp] def lE:Nt S r [d]=if r.length<sizeLine then some (.non,r++[d])else none:=rfl
variable{x y:Ex}
noncomputable def bB(y:Ex)(r:Fl×En×Sto):uR (Fl×En×Sto):=match r.1 with| .nx=>y r.2.1 r.2.2| .ret w=>Gc (.ret w,r.2)
noncomputable def pJ(x y:Ex)(E:En)(r:D×Sto):uR (Fl×En×Sto):=match r.1 with| .bl true=>x E r.2| .bl false=>y E r.2|_=>none
@[simp] def bP:bB y (.nx,E,S)=y E S:=rfl
@[simp] def mB{w:D}:bB y (.ret w,E,S)=some (.ret w,E,S):=rfl
@[simp] def qm:pJ x y E (.bl true,S)=x E S:=rfl
@[simp] def qa:pJ x y E (.bl false,S)=y E S:=rfl
@[simp] def Ro:AN x y E S=(x E S).bind (bB y):=rfl
@[simp] def lK:BO E S=some (.nx,E,S):=rfl
@[simp] def T9:xIf c x y E S=(c E S).bind (pJ x y E):=rfl
@[simp] def l7:AZ f E S=(f E S).map λr=>(.ret r.1,E,r.2):=rfl
@[simp] def W9:Ay i f E S=(f E S).map λr=>(.nx,E.set i (some r.1),r.2):=rfl
@[simp] def Wa:Bo f E S=(f E S).map λr=>(.nx,E,r.2):=rfl
noncomputable def qQ(d b:D)(E:En)(i:D×Sto):uR (Fl×En×Sto):=match b,i.1 with
 | .ref n,.int j=>(Ek i.2 n).bind λds=>(ixN ds.length j).map λm=>(.nx,E,i.2.set n (.lst (ds.set m d)))
 |_,_=>none
@[simp] def k8:qQ d (.ref n) E (.int j,S)=(Ek S n).bind λds=>(ixN ds.length j).map λm=>(.nx,E,S.set n (.lst (ds.set m d))):=rfl
@[simp] def ke{k o:Ev}:Mq k f o E S=(k E S).bind λr=>(f E r.2).bind λb=>(o E b.2).bind (qQ r.1 b.1 E):=rfl
@[simp] def mV{t:Tf}:II t f E S=(f E S).bind λr=>(t r.1 E r.2).map λE'=>(.nx,E',r.2):=rfl
@[simp] def kh{i j:Nat}:Tx i j f g E S=(f E S).bind λr=>(g E r.2).map λq=>(.nx,(E.set i (some r.1)).set j (some q.1),q.2):=by
  unfold Tx
  rw[DK]
  cases f E S with
  |none=>rfl
  |some r=>
   rw[A1,A1,DK]
   cases g E r.2 with
   |none=>rfl
   |some q=>rfl
@[simp] def dg:tNm i d E S=some (E.set i (some d)):=rfl
@[simp] def nU:tTp ts (.tup ds) E S=tMs ts ds E S:=rfl
@[simp] def mW:tTp ts (.lst ds) E S=tMs ts ds E S:=rfl
@[simp] def om:tTp ts (.ref n) E S=(Ek S n).bind λds=>tMs ts ds E S:=rfl
@[simp] def nX:tMs [] [] E S=some E:=rfl
@[simp] def lx:tMs (t::ts) (d::ds) E S=(t d E S).bind λE1=>tMs ts ds E1 S:=rfl
@[simp] def jd:AS (AV N x) ds S=(x (ds.map some++List.replicate (N-ds.length) none) S).map λr=>(flD r.1,r.2.2):=by rw[JM];rfl
@[simp] def qO:flD .nx=.non:=rfl
@[simp] def oo:flD (.ret d)=d:=rfl
@[simp] def oZ{i j:Int}:CN (.val (.int i)) (.val (.int j))=some (.val (.int (i+j))):=rfl
@[simp] def p0{xs ys:List D}:CN (.val (.tup xs)) (.val (.tup ys))=if xs.length+ys.length<=sizeLine then some (.val (.tup (xs++ys)))else none:=rfl
@[simp] def mw{xs ys:List D}:CN (.val (.lst xs)) (.val (.lst ys))=if xs.length+ys.length<=sizeLine then some (.own (xs++ys))else none:=rfl
@[simp] def k9{i j:Int}:B5 (.val (.int i)) (.val (.int j))=if Dj i j=true then some (.val (.int (i*j)))else none:=rfl
@[simp] def kr{k:Int}:B5 (.val (.tup r)) (.val (.int k))=if(!r.isEmpty && decide (k<=0) && decide (-(2^63)<=k))=true then some (.val (.tup []))else if(!r.isEmpty && decide (1<=k) && decide (r.length*k.toNat<=sizeLine))=true then some (.val (.tup (List.replicate k.toNat r).flatten))else none:=rfl
@[simp] def Rg{k:Int}:B5 (.val (.lst r)) (.val (.int k))=if(decide (k<2^63) && decide (-(2^63)<=k) && decide (r.length*k.toNat<=sizeLine))=true then some (.own (List.replicate k.toNat r).flatten)else none:=rfl
@[simp] def oj:asS (.own r)=some r:=rfl
@[simp] def oS:asS (.val (.lst r))=some r:=rfl
@[simp] def oC:asS (.val (.tup r))=some r:=rfl
@[simp] def nZ{ns:List Int}:asS (.val (.scr ns))=some (ns.map .int):=rfl
@[simp] def Vt{j:Int}:wIx w (.val (.int j))=(asS w).bind λds=>(atI ds j).map .val:=rfl
def B3{n:Nat}{x:α}(h:xs[n]?=Gc x):atI xs (n:Int)=Gc x:=aM h
def ZC{xs:Wp α}{i:Int}(h0:0<=i)(h1:i<xs.length):atI xs i=Gc (xs[i.toNat]'(by lia)):=by
 have:atI xs ((i.toNat:Nat):Int)=Gc (xs[i.toNat]'(by lia)):=B3 (uS (by lia))
 rwa [vd h0]at this
@[simp] def tK:atI (a::r) 0=some a:=B3 (n:=0) rfl
@[simp] def sS:atI (a::b::r) 1=some b:=B3 (n:=1) rfl
@[simp] def rR:atI (a::b::e::r) 2=some e:=B3 (n:=2) rfl
@[simp] def sR:atI (a::b::e::h::r) 3=some h:=B3 (n:=3) rfl
@[simp] def rS{k:D}:atI (a::b::e::h::k::r) 4=some k:=B3 (n:=4) rfl
def Lf{n k:Nat}(h:k<n):ixN n (k:Int)=Gc k:=by
 unfold ixN
 simp
 lia
def Rp{n:Nat}{i:Int}(h0:0<=i)(h1:i<n):ixN n i=Gc i.toNat:=by
 have:=Lf (n:=n) (k:=i.toNat) (by lia)
 rwa [vd h0]at this
@[simp] def sv{n:Nat}:ixN (n+1) 0=some 0:=Rp (by decide) (by lia)
@[simp] def rW{n:Nat}:ixN (n+2) 1=some 1:=Rp (by decide) (by lia)
@[simp] def rT{n:Nat}:ixN (n+3) 2=some 2:=Rp (by decide) (by lia)
@[simp] def q8{i j:Int}:deq (.int i) (.int j)=(i==j):=rfl
@[simp] def qA{i j:Int}:OP (.int i) (.int j)=true:=rfl
@[simp] def mZ{w':Wv}:wEq w w'=if OP (fz w) (fz w')=true then some (.val (.bl (deq (fz w) (fz w'))))else none:=rfl
@[simp] def og{w':Wv}:wNe w w'=if OP (fz w) (fz w')=true then some (.val (.bl (!deq (fz w) (fz w'))))else none:=rfl
@[simp] def nW{i j:Int}:wLt (.val (.int i)) (.val (.int j))=some (.val (.bl (decide (i<j)))):=rfl
@[simp] def oB{i j:Int}:wLe (.val (.int i)) (.val (.int j))=some (.val (.bl (decide (i<=j)))):=rfl
@[simp] def mz{i j:Int}:wGt (.val (.int i)) (.val (.int j))=some (.val (.bl (decide (j<i)))):=rfl
@[simp] def pH{i j:Int}:wGe (.val (.int i)) (.val (.int j))=some (.val (.bl (decide (j<=i)))):=rfl
@[simp] def lJ{i j:Int}:QJ (.val (.int i)) (.val (.int j))=some (.val (.int (i-j))):=rfl
@[simp] def ko{i:Int}:Tv (.val (.int i))=some (.val (.int (-i))):=rfl
@[simp] def kz{i j:Int}:Oz (.val (.int i)) (.val (.int j))=(if 0<j then some (.val (.int (i % j)))else none):=by
  show ACI Wv.val (if 0<j then Gc (D.int (i % j))else none)=_
  split<;>rfl
@[simp] def ja{i j:Int}:OM (.val (.int i)) (.val (.int j))=(if(decide (0<j) && decide (j.natAbs<Fh))=true then some (.val (.int (i / j)))else none):=by
  show ACI Wv.val (if(decide (0<j) && decide (j.natAbs<Fh))=true then Gc (D.int (i / j))else none)=_
  split<;>rfl
@[simp] def kZ{i j:Int}:k7 (.val (.int i)) (.val (.int j))=if(decide (0<=j) && decide (j<=1000) && decide (i.natAbs<2^64))=true then some (.val (.int (i^j.toNat)))else none:=by
  show ACI Wv.val (if(decide (0<=j) && decide (j<=1000) && decide (i.natAbs<2^64))=true then Gc (D.int (i^j.toNat))else none)=_
  split<;>rfl
@[simp] def lV{i:Int}:eP (.val (.int i))=some (.val (.int (i.natAbs:Int))):=by
  show Gc (Wv.val (D.int (if i<0 then-i else i)))=_
  congr 3
  split<;>lia
@[simp] def mF:Eu (.own r)=some (.val (.int r.length)):=rfl
@[simp] def mP:Eu (.val (.lst r))=some (.val (.int r.length)):=rfl
@[simp] def lY:Eu (.val (.tup r))=some (.val (.int r.length)):=rfl
@[simp] def mM{ns:List Int}:Eu (.val (.scr ns))=some (.val (.int ns.length)):=by
  show Gc (Wv.val (D.int ((ns.map D.int).length:Nat)))=_
  rw[vN]
@[simp] def eX:B7 w=(asS w).map λds=>.val (.tup ds):=rfl
@[simp] def jy:Pt w=(asS w).map λds=>.own ds:=rfl
@[simp] def qg{b:Bool}:Wl (.val (.bl b))=some (.val (.int (if b then 1 else 0))):=rfl
@[simp] def mO{i j:Int}:lF (.val (.int i)) (.val (.int j))=some (.val (.int (if j<i then j else i))):=rfl
@[simp] def mH{T:String}:QK w (.val (.ty T))=if Pr T=true then(kdW w).map λk=>.val (.bl (k.isA T))else none:=rfl
@[simp] def pF:Pr "int"=true:=by decide
@[simp] def km:Pr "bool"=true:=by decide
@[simp] def jJ:Pr "tuple"=true:=by decide
@[simp] def pS:Pr "str"=true:=by decide
@[simp] def mI:Ww (.val (.lst r))=(bls r).map λbs=>.val (.bl (bs.all id)):=rfl
def AJ{n:Nat}(h:n<=1000):n<=sizeLine:=uZ h (by decide)
@[simp] def sz1:(1:Nat)<=sizeLine:=AJ (by decide)
@[simp] def sz2:(2:Nat)<=sizeLine:=AJ (by decide)
@[simp] def sz3:(3:Nat)<=sizeLine:=AJ (by decide)
@[simp] def sz4:(4:Nat)<=sizeLine:=AJ (by decide)
@[simp] def sz5:(5:Nat)<=sizeLine:=AJ (by decide)
@[simp] def sz6:(6:Nat)<=sizeLine:=AJ (by decide)
@[simp] def D0:BI E S=some (.bl true,S):=rfl
@[simp] def kf{b:Ex}:NH s t b E S=(s E S).bind λr=>Md r.1.2 t b r.1.1 E r.2:=rfl
@[simp] def AW:gOk [] S:=λ_ h=>(nomatch h)
def Jy{b:Ex}(h:gOk gs S):Md gs t b [] E S=Gc (.nx,E,S):=by
 unfold Md
 rw[vC h]
def Vw {b:Ex}(h:gOk gs S):Md gs t b (d::ds) E S=(t d E S).bind λE1=>(b E1 S).bind λr=>match r.1 with
    | .nx => Md gs t b ds r.2.1 r.2.2
    | .ret w=>Gc (.ret w,r.2):=by
  rw [Md, vC h]
  all_goals rfl
def EC{b:Ex}(h:gOk gs S):Md gs t b (d::ds) E S=(t d E S).bind λE1=>(b E1 S).bind (bB (Md gs t b ds)):=by
 rw[Vw h]
 rfl
@[simp] def kl:F7 f E S=(f E S).bind λr=>(sqD r.2 r.1).map λp=>(p,r.2):=rfl
@[simp] def nS:sqD S (.tup r)=some (r,[]):=rfl
@[simp] def pX:sqD S (.lst r)=some (r,[]):=rfl
def JT{n:Nat}(h:S[n]?=Gc (.lst r)):sqD S (.ref n)=Gc (r,[(n,r)]):=by
 show(Ek S n).map (λds=>(ds,[(n,ds)]))=_
 rw[AQ h]
 rfl
@[simp] def lD:bf f E S=(f E S).bind λr=>(sqD r.2 r.1).map λp=>((Mr 0 p.1,p.2),r.2):=rfl
@[simp] def mR:bC f g E S=(f E S).bind λr=>(g E r.2).bind λq=>(sqD q.2 r.1).bind λa=>(sqD q.2 q.1).map λb=>((NM a.1 b.1,a.2++b.2),q.2):=by
  unfold bC
  rw[DK]
  cases f E S with
  |none=>rfl
  |some r=>
   rw[A1,A1,DK]
   cases g E r.2 with
   |none=>rfl
   |some q=>rfl
noncomputable def J6(j:Int):vZ:=decide (-(2^62)<=j) && decide (j<2^62)
def ER{j:Int}(h: -1000000<=j)(g:j<=1000000):J6 j=true:=by
 unfold J6
 rw[ub]
 exact⟨xO (by lia),xO (by lia)⟩
noncomputable def qD(S:Sto):D->uR ((Wp D×Gd)×Sto)
 | .int j=>if J6 j=true then Gc ((NK 0 j.toNat,[]),S)else none
 |_=>none
@[simp] def lC{j:Int}:qD S (.int j)=if J6 j=true then some ((NK 0 j.toNat,[]),S)else none:=rfl
@[simp] def mS:Oy [f] E S=(f E S).bind λr=>qD r.2 r.1:=by
  unfold Oy
  rw[DK]
  cases f E S with
  |none=>rfl
  |some r=>
   obtain⟨d,S1⟩:=r
   rw[A1,dC,oY,A1,A1]
   cases d<;>rfl
@[simp] def jz:NY cf cap m s t c f E S=(s E S).bind λr=>(BZ r.1.2 t c f r.1.1 [] (NA cap m E) r.2).bind λq=>fin cf (.own q.1) q.2:=rfl
@[simp] def mQ:NA cap m E=cap.map (at? E)++List.replicate m none:=rfl
theorem QP{α:Type}(p:α->vZ):∀xs:Wp α,bls (xs.map λx=>.bl (p x))=Gc (xs.map p)
 | []=>rfl
 |x::xs=>by
  have ih:=QP p xs
  unfold bls at ih⊢
  rw[uw,AAV,ih]
  rfl
@[simp] def Ti{i:Int}:LF (.int i::r)=(LF r).map λns=>i::ns:=by
  unfold LF
  rw[AAV]
  show(do let r1<-Gc i;let rs<-List.mapM intD r;pure (r1::rs))=_
  cases List.mapM intD r<;>rfl
theorem GQ:∀(ns:Wp Int),LF (ns.map D.int)=Gc ns
 | []=>rfl
 |n::ns=>by rw[uw,Ti,GQ ns];rfl
@[simp] def lN:Xu (.own r)=(LF r).map λns=>.val (.int ns.sum):=rfl
@[simp] def lu:Xu (.val (.lst r))=(LF r).map λns=>.val (.int ns.sum):=rfl
@[simp] def qP:Wu false w (.val .non)=some (.val (.bl (isN w))):=rfl
@[simp] def qj:Wu true w (.val .non)=some (.val (.bl (!isN w))):=rfl
@[simp] def rQ{i:Int}:Ih true false [w,.val (.int i)]=wSl (some i) none w:=rfl
@[simp] def r9{i:Int}:Ih false true [w,.val (.int i)]=wSl none (some i) w:=rfl
@[simp] def sE{i j:Int}:Ih true true [w,.val (.int i),.val (.int j)]=wSl (some i) (some j) w:=rfl
@[simp] def pb{lo hi:Option Int}:wSl lo hi (.val (.tup r))=some (.val (.tup (IU r lo hi))):=rfl
end
structure Bq(A:Wp Nat)(S S':Sto):Prop where
 len:S.length<=S'.length
 keep:∀n,n<S.length->n∉A->S'[n]?=S[n]?
def Bq.refl:Bq A S S:=⟨uc _,λ_ _ _=>rfl⟩
def Bq.trans(h:Bq A S S')(g:Bq A S' S2):Bq A S S2:=⟨uZ h.len g.len,λn hn ha=>(g.keep n (uU hn h.len) ha).trans (h.keep n hn ha)⟩
def Bq.mono(h:Bq A S S')(s:∀n∈A,n∈B):Bq B S S':=⟨h.len,λn hn hb=>h.keep n hn λz=>hb (s n z)⟩
def Bq.get(h:Bq A S S')(e:S[n]?=Gc c)(ha:n∉A):S'[n]?=Gc c:=by
 rw[h.keep n (ua.mp e).1 ha];exact e
def Bq.app:Bq A S (S++T):=⟨by simp,λn hn _=>uT hn⟩
def Bq.set(h:n∈A):Bq A S (S.set n c):=⟨by simp,λm hm ha=>uV (λz=>ha (by rw[<-z];exact h))⟩
def Bq.new(h:Bq A S S')(g:Bq (A++B) S' S2)(hb:∀n∈B,S.length<=n):Bq A S S2:=⟨uZ h.len g.len,λn hn ha=>(g.keep n (uU hn h.len) (λz=>by
 rcases vD.mp z with z|z
 .exact ha z
 .have:=hb n z;lia)).trans (h.keep n hn ha)⟩
def Ai{S:Sto}(h:S[n]?=Gc c):n<S.length:=(ua.mp h).1
section
variable{E:En}{S:Sto}
@[simp high] def lW{op:Op1}:O0 cf (o1 op) [f] E S=(f E S).bind λr=>(op (dr r.2 r.1)).bind λw=>fin cf w r.2:=by
  rw[Vm,DK];cases f E S<;>rfl
@[simp high] def XD{op:Op2}:O0 cf (o2 op) [f,g] E S=(f E S).bind λr=>(g E r.2).bind λq=>(op (dr q.2 r.1) (dr q.2 q.1)).bind λw=>fin cf w q.2:=by
  rw[Vm,DK]
  cases f E S with
  |none=>rfl
  |some r=>rw[A1,A1,DK];cases g E r.2<;>rfl
def qv:evs [f] E S=(f E S).bind λr=>Gc ([r.1],r.2):=by rw[DK];cases f E S<;>rfl
def qV:evs [f,g] E S=(f E S).bind λr=>(g E r.2).bind λq=>Gc ([r.1,q.1],q.2):=by
 rw[DK];cases f E S with
 |none=>rfl
 |some r=>rw[A1,A1,qv];cases g E r.2<;>rfl
def qU:evs [f,g,h] E S=(f E S).bind λr=>(g E r.2).bind λq=>(h E q.2).bind λu=>Gc ([r.1,q.1,u.1],u.2):=by
 rw[DK];cases f E S with
 |none=>rfl
 |some r=>rw[A1,A1,qV];cases g E r.2 with
  |none=>rfl
  |some q=>rw[A1,A1];cases h E q.2<;>rfl
def rh:evs [f,g,h,k] E S=(f E S).bind λr=>(g E r.2).bind λq=>(h E q.2).bind λu=>(k E u.2).bind λv=>Gc ([r.1,q.1,u.1,v.1],v.2):=by
 rw[DK];cases f E S with
 |none=>rfl
 |some r=>rw[A1,A1,qU];cases g E r.2 with
  |none=>rfl
  |some q=>rw[A1,A1];cases h E q.2 with
   |none=>rfl
   |some u=>rw[A1,A1];cases k E u.2<;>rfl
@[simp high] def tZ:evs [f] E S=(f E S).bind λr=>some ([r.1],r.2):=qv
@[simp high] def tu:evs [f,g] E S=(f E S).bind λr=>(g E r.2).bind λq=>some ([r.1,q.1],q.2):=qV
@[simp high] def rg:evs [f,g,h] E S=(f E S).bind λr=>(g E r.2).bind λq=>(h E q.2).bind λu=>some ([r.1,q.1,u.1],u.2):=qU
@[simp high] def tM:evs [f,g,h,k] E S=(f E S).bind λr=>(g E r.2).bind λq=>(h E q.2).bind λu=>(k E u.2).bind λv=>some ([r.1,q.1,u.1,v.1],v.2):=rh
@[simp high] def uG{d:D}:eV 0 (some d::E) S=some (d,S):=rfl
@[simp high] def uK:eV 1 (o0::some d::E) S=some (d,S):=rfl
@[simp high] def uA{o0 o1:Option D}:eV 2 (o0::o1::some d::E) S=some (d,S):=rfl
@[simp high] def uO{o0 o1 o2:Option D}:eV 3 (o0::o1::o2::some d::E) S=some (d,S):=rfl
@[simp high] def uD{o0 o1 o2 o3:Option D}:eV 4 (o0::o1::o2::o3::some d::E) S=some (d,S):=rfl
@[simp high] def uC{o0 o1 o2 o3 o4:Option D}:eV 5 (o0::o1::o2::o3::o4::some d::E) S=some (d,S):=rfl
@[simp high] def uL{o0 o1 o2 o3 o4 o5:Option D}:eV 6 (o0::o1::o2::o3::o4::o5::some d::E) S=some (d,S):=rfl
@[simp high] def uJ{o0 o1 o2 o3 o4 o5 o6:Option D}:eV 7 (o0::o1::o2::o3::o4::o5::o6::some d::E) S=some (d,S):=rfl
@[simp high] def uE{o0 o1 o2 o3 o4 o5 o6 o7:Option D}:eV 8 (o0::o1::o2::o3::o4::o5::o6::o7::some d::E) S=some (d,S):=rfl
@[simp high] def uH{o0 o1 o2 o3 o4 o5 o6 o7 o8:Option D}:eV 9 (o0::o1::o2::o3::o4::o5::o6::o7::o8::some d::E) S=some (d,S):=rfl
@[simp high] def tP{o0 o1 o2 o3 o4 o5 o6 o7 o8 o9:Option D}:eV 10 (o0::o1::o2::o3::o4::o5::o6::o7::o8::o9::some d::E) S=some (d,S):=rfl
@[simp high] def sg{o0 o1 o2 o3 o4 o5 o6 o7 o8 o9 o10:Option D}:eV 11 (o0::o1::o2::o3::o4::o5::o6::o7::o8::o9::o10::some d::E) S=some (d,S):=rfl
@[simp high] def tY{o0 o1 o2 o3 o4 o5 o6 o7 o8 o9 o10 o11:Option D}:eV 12 (o0::o1::o2::o3::o4::o5::o6::o7::o8::o9::o10::o11::some d::E) S=some (d,S):=rfl
@[simp high] def tO{o0 o1 o2 o3 o4 o5 o6 o7 o8 o9 o10 o11 o12:Option D}:eV 13 (o0::o1::o2::o3::o4::o5::o6::o7::o8::o9::o10::o11::o12::some d::E) S=some (d,S):=rfl
@[simp 20000] def qq:O0 cf (o2 op) [f,eC d] E S=(f E S).bind λr=>(op (dr r.2 r.1) (dr r.2 d)).bind λw=>fin cf w r.2:=by
  rw[XD];cases f E S<;>rfl
@[simp high] def l8:AN (Ay i f) y E S=(f E S).bind λr=>y (E.set i (some r.1)) r.2:=by
  rw[Ro,W9];cases f E S<;>rfl
@[simp high] def lM{y:Ex}:AN (Bo f) y E S=(f E S).bind λr=>y E r.2:=by
  rw[Ro,Wa];cases f E S<;>rfl
end
section
def mulL(h: -18446744073709551616<i)(g:i<18446744073709551616):Dj i j=true:=by
 unfold Dj
 rw[vv]
 exact .inl (xO (by lia))
def mulR(h: -18446744073709551616<j)(g:j<18446744073709551616):Dj i j=true:=by
 unfold Dj
 rw[vv,vv]
 exact .inr (.inl (xO (by lia)))
def C9(h:n<2^k)(hk:k<=8000):n<Fh:=uU h (vM (by decide) hk)
def EW{n:Int}(h0:0<n)(h1:n<1152921504606846976):n.natAbs<Fh:=C9 (k:=60) (show n.natAbs<2^60 by lia) (by decide)
variable{S:Sto}
noncomputable def Ow(a b:Int):Int:=((AAB a.natAbs b.natAbs:Nat):Int)
theorem Ma:HX c b (k+1) E S=(c E S).bind λr=>match r.1 with
 | .bl true=>(b E r.2).bind λp=>match p.1 with
   | .nx=>HX c b k p.2.1 p.2.2
   | .ret w=>Gc (.ret w,p.2)
 | .bl false=>Gc (.nx,E,r.2)
 |_=>none:=rfl
def R9(e1:c E S=Gc (.bl true,S1))(e2:b E S1=Gc (.nx,E2,S2)):HX c b (k+1) E S=HX c b k E2 S2:=by
 rw[Ma,e1]
 show(b E S1).bind _=_
 rw[e2]
 rfl
def RN(e1:c E S=Gc (.bl false,S1)):HX c b (k+1) E S=Gc (.nx,E,S1):=by
 rw[Ma,e1]
 rfl
theorem Rn:∀k (x y:Nat),y<k->HX (eOp (o2 wNe) [eV 1,eC (.int 0)]) (Tx 0 1 (eV 1) (eOp (o2 Oz) [eV 0,eV 1])) k [Gc (.int x),Gc (.int y)] S=Gc (.nx,[Gc (.int (AAB x y:Nat)),Gc (.int 0)],S)
 |0,x,y,h=>absurd h (Nat.not_lt_zero _)
 |k+1,x,y,h=>by
  by_cases hy:y=0
  .subst hy
   rw[RN (S1:=S) (by simp)]
   simp
  .have hy2:(((y:Nat):Int)==0)=false:=by simpa using hy
   have ih:=Rn k y (x % y) (by have:=Nat.mod_lt x (yy hy);lia)
   rw[show((x % y:Nat):Int)=(x:Int) % (y:Int) by lia]at ih
   have hy4:0<y:=yy hy
   rw[R9 (S1:=S) (S2:=S) (E2:=[Gc (.int y),Gc (.int ((x:Int) % (y:Int)))]) (by simp[hy2]) (by simp[hy4]),ih]
   rw[ABD x y,Nat.gcd_rec y x,ABD]
def Yz a b:BR [.int a,.int b] S=Gc (.int (Ow a b),S):=by
 have:=Rn (S:=S) (b.natAbs+2) a.natAbs b.natAbs (by lia)
 simp[BR,Es,PB,We,this,Ow]
theorem Lp:∀k (x y:Nat),y<k->HX (eOp (o2 wGt) [eV 1,eC (.int 0)]) (Tx 0 1 (eV 1) (eOp (o2 Oz) [eV 0,eV 1])) k [Gc (.int x),Gc (.int y)] S=Gc (.nx,[Gc (.int (AAB x y:Nat)),Gc (.int 0)],S)
 |0,x,y,h=>absurd h (Nat.not_lt_zero _)
 |k+1,x,y,h=>by
  by_cases hy:y=0
  .subst hy
   rw[RN (S1:=S) (by simp)]
   simp
  .have ih:=Lp k y (x % y) (by have:=Nat.mod_lt x (yy hy);lia)
   rw[show((x % y:Nat):Int)=(x:Int) % (y:Int) by lia]at ih
   have hy4:0<y:=yy hy
   rw[R9 (S1:=S) (S2:=S) (E2:=[Gc (.int y),Gc (.int ((x:Int) % (y:Int)))]) (by simp[hy4]) (by simp[hy4]),ih]
   rw[ABD x y,Nat.gcd_rec y x,ABD]
def UK a b(ha:0<=a)(hb:0<=b):Fm [.int a,.int b] S=Gc (.int (Ow a b),S):=by
 have:=Lp (S:=S) (b.natAbs+2) a.natAbs b.natAbs (by lia)
 have e1:((a.natAbs:Nat):Int)=a:=by lia
 have e2:((b.natAbs:Nat):Int)=b:=by lia
 rw[e1,e2]at this
 simp[Fm,Kz,PB,We,this,Ow]
noncomputable def lowP(t b:Int):Int×Int:=(t / Ow t b,b / Ow t b)
def RP(h:0<b):0<Ow t b:=by
 unfold Ow
 have:0<AAB t.natAbs b.natAbs:=Nat.gcd_pos_of_pos_right _ (by lia)
 lia
def Vq(h:0<b):(Ow t b).natAbs<=b.natAbs:=by
 unfold Ow
 have:AAB t.natAbs b.natAbs<=b.natAbs:=Nat.gcd_le_right _ (by lia)
 lia
noncomputable def amD(p:Int×Int):D:=.tup [.int p.1,.int p.2]
def Ju(h:0<b)(hb:b.natAbs<Fh):Cz [.int t,.int b] S=Gc (amD (lowP t b),S):=by
 have h1:=RP (t:=t) h
 have h2:(Ow t b).natAbs<Fh:=vJ (Vq h) hb
 simp[Cz,NS,Yz,h1,h2,amD,lowP]
def XT:Ow (t.natAbs:Int) b=Ow t b:=by
 unfold Ow
 rw[wt]
def QW(h:0<b)(hb:b.natAbs<Fh):BY [.int t,.int b] S=Gc (amD (lowP t b),S):=by
 have h1:=RP (t:=t) h
 have h2:(Ow t b).natAbs<Fh:=vJ (Vq h) hb
 have h3:=UK (S:=S) (t.natAbs:Int) b (by lia) (by lia)
 rw[XT]at h3
 simp[BY,NV,h3,h1,h2,amD,lowP]
noncomputable def aD(q:Rat):D:=.tup [.int q.num,.int q.den]
def Sz(k:Nat)(q:Rat):Prop:=q.num.natAbs<2^k/\q.den<2^k
def DJ q:(q.num:Rat) / (q.den:Rat)=q:=by
 rw[<-Rat.mkRat_eq_div,Rat.mkRat_self]
def Hl(q:Rat):(q.den:Rat)≠0:=by
 have:=q.den_nz
 exact_mod_cast this
def MC(t:Int)(n:Nat)(h:0<n):((t:Rat) / (n:Rat)).num=t / (AAB t.natAbs n:Nat)/\((t:Rat) / (n:Rat)).den=n / AAB t.natAbs n:=by
 have e:(t:Rat) / (n:Rat)=mkRat t n:=by rw[Rat.mkRat_eq_div]
 rw[e,Rat.mkRat_def,dif_neg (by lia),Rat.normalize_eq]
 exact⟨rfl,rfl⟩
def Ip(h:0<b):amD (lowP t b)=aD ((t:Rat) / (b:Rat)):=by
 obtain⟨n,rfl⟩:∃n:Nat,b=n:=⟨b.natAbs,by lia⟩
 obtain⟨h1,h2⟩:=MC t n (by lia)
 unfold amD aD lowP Ow
 rw[show(((n:Nat):Int):Rat)=((n:Nat):Rat)from rfl,h1,h2]
 simp
def Nk{t b:Int}(h:0<b)(ht:t.natAbs<2^k)(hb:b.natAbs<2^k):Sz k ((t:Rat) / (b:Rat)):=by
 obtain⟨n,rfl⟩:∃n:Nat,b=n:=⟨b.natAbs,by lia⟩
 obtain⟨h1,h2⟩:=MC t n (by lia)
 unfold Sz
 rw[show(((n:Nat):Int):Rat)=((n:Nat):Rat)from rfl,h1,h2]
 exact⟨vJ (Int.natAbs_ediv_le_natAbs _ _) ht,vJ (Nat.div_le_self _ _) (by simpa using hb)⟩
def DR(ha:a<2^j)(hb:b<2^k):a*b<2^(j+k):=by
 rw[Nat.pow_add]
 exact Nat.mul_lt_mul'' ha hb
def GU(hi:i.natAbs<2^k)(hj:j.natAbs<2^m)(h:k<=60000)(g:m<=60000):Dj i j=true:=by
 unfold Dj
 rw[vv,vv,ub]
 exact .inr (.inr ⟨xO (uU hi (vM (by decide) h)),xO (uU hj (vM (by decide) g))⟩)
def den_pos(q:Rat):0<(q.den:Int):=by have:=q.den_pos;lia
def aO{x:Int}(h:x.natAbs<2^n)(g:n<=m):x.natAbs<2^m:=uU h (vM (by decide) g)
def Dd(hp:Sz j p)(hq:Sz k q):(p.num*q.den+q.num*p.den).natAbs<2^(j+k+1)/\((p.den:Int)*q.den).natAbs<2^(j+k)/\(p.num*q.den-q.num*p.den).natAbs<2^(j+k+1):=by
 have a1:=DR hp.1 hq.2
 have a2:=DR hq.1 hp.2
 have a3:=DR hp.2 hq.2
 rw[AA9 k j]at a2
 have e:2^(j+k+1)=2^(j+k)+2^(j+k):=by rw[ABE];lia
 refine⟨?_,?_,?_⟩
 .refine vJ (Int.natAbs_add_le _ _) ?_
  rw[yB,yB,wt,wt,e]
  lia
 .rw[yB,wt,wt];exact a3
 .refine vJ (Int.natAbs_sub_le _ _) ?_
  rw[yB,yB,wt,wt,e]
  lia
def Ol:(((p.num*q.den+q.num*p.den:Int):Rat) / (((p.den:Int)*q.den:Int):Rat))=p+q:=by
 have h1:=DJ p;have h2:=DJ q
 have d1:=Hl p;have d2:=Hl q
 push_cast
 grind
def SE:(((p.num*q.den-q.num*p.den:Int):Rat) / (((p.den:Int)*q.den:Int):Rat))=p-q:=by
 have h1:=DJ p;have h2:=DJ q
 have d1:=Hl p;have d2:=Hl q
 push_cast
 grind
def MM:(((p.num*q.num:Int):Rat) / (((p.den:Int)*q.den:Int):Rat))=p*q:=by
 have h1:=DJ p;have h2:=DJ q
 have d1:=Hl p;have d2:=Hl q
 push_cast
 grind
def jQ(hp:Sz j p)(hq:Sz k q):Sz (j+k+1) (p+q):=by
 rw[<-Ol]
 have:=Dd hp hq
 exact Nk (vy (den_pos _) (den_pos _)) this.1 (aO this.2.1 (by lia))
def fK(hp:Sz j p)(hq:Sz k q):Sz (j+k+1) (p-q):=by
 rw[<-SE]
 have:=Dd hp hq
 exact Nk (vy (den_pos _) (den_pos _)) this.2.2 (aO this.2.1 (by lia))
def NZ(hp:Sz j p)(hq:Sz k q):Sz (j+k) (p*q):=by
 rw[<-MM]
 have:=Dd hp hq
 exact Nk (vy (den_pos _) (den_pos _)) (by rw[yB];exact DR hp.1 hq.1) this.2.1
def Ng(hp:Sz j p)(hq:Sz k q)(hj:j+k<=7990):Dj p.num q.den=true/\Dj q.num p.den=true/\Dj p.den q.den=true/\Dj p.num q.num=true:=by
 refine⟨GU hp.1 (by simpa using hq.2) (by lia) (by lia),GU hq.1 (by simpa using hp.2) (by lia) (by lia),GU (by simpa using hp.2) (by simpa using hq.2) (by lia) (by lia),GU hp.1 hq.1 (by lia) (by lia)⟩
def dj(hp:Sz j p)(hq:Sz k q)(hj:j+k<=7990):E5 [aD p,aD q] S=Gc ((aD (p+q)),S):=by
 obtain⟨m1,m2,m3,m4⟩:=Ng hp hq (by lia)
 have b:=Dd hp hq
 have l:=Ju (S:=S) (t:=p.num*q.den+q.num*p.den) (b:=p.den*q.den) (vy (den_pos _) (den_pos _)) (C9 b.2.1 (by lia))
 rw[Ip (vy (den_pos _) (den_pos _)),Ol]at l
 simp only[aD]at l⊢
 simp[E5,R4,m1,m2,m3,l]
def pQ(hp:Sz j p)(hq:Sz k q)(hj:j+k<=7990):J0 [aD p,aD q] S=Gc ((aD (p-q)),S):=by
 obtain⟨m1,m2,m3,m4⟩:=Ng hp hq (by lia)
 have b:=Dd hp hq
 have l:=Ju (S:=S) (t:=p.num*q.den-q.num*p.den) (b:=p.den*q.den) (vy (den_pos _) (den_pos _)) (C9 b.2.1 (by lia))
 rw[Ip (vy (den_pos _) (den_pos _)),SE]at l
 simp only[aD]at l⊢
 simp[J0,Rc,m1,m2,m3,l]
def ZL(hp:Sz j p)(hq:Sz k q)(hj:j+k<=7990):FL [aD p,aD q] S=Gc ((aD (p*q)),S):=by
 obtain⟨m1,m2,m3,m4⟩:=Ng hp hq (by lia)
 have b:=Dd hp hq
 have l:=Ju (S:=S) (t:=p.num*q.num) (b:=p.den*q.den) (vy (den_pos _) (den_pos _)) (C9 b.2.1 (by lia))
 rw[Ip (vy (den_pos _) (den_pos _)),MM]at l
 simp only[aD]at l⊢
 simp[FL,O2,m3,m4,l]
def Pp(hp:Sz j p)(hq:Sz k q)(hj:j+k<=7990):BX [aD p,aD q] S=Gc ((aD (p+q)),S):=by
 obtain⟨m1,m2,m3,m4⟩:=Ng hp hq (by lia)
 have b:=Dd hp hq
 have l:=QW (S:=S) (t:=p.num*q.den+q.num*p.den) (b:=p.den*q.den) (vy (den_pos _) (den_pos _)) (C9 b.2.1 (by lia))
 rw[Ip (vy (den_pos _) (den_pos _)),Ol]at l
 simp only[aD]at l⊢
 simp[BX,Nj,m1,m2,m3,l]
def Iu(hp:Sz j p)(hq:Sz k q)(hj:j+k<=7990):Af [aD p,aD q] S=Gc ((aD (p*q)),S):=by
 obtain⟨m1,m2,m3,m4⟩:=Ng hp hq (by lia)
 have b:=Dd hp hq
 have l:=QW (S:=S) (t:=p.num*q.num) (b:=p.den*q.den) (vy (den_pos _) (den_pos _)) (C9 b.2.1 (by lia))
 rw[Ip (vy (den_pos _) (den_pos _)),MM]at l
 simp only[aD]at l⊢
 simp[Af,Lk,m3,m4,l]
def gy:aD (-q)=.tup [.int (0-q.num),.int q.den]:=by
 unfold aD
 rw[show(-q).num=0-q.num by simp,show(-q).den=q.den by simp]
def kH(hq:Sz k q):Sz k (-q):=by
 unfold Sz
 rw[show(-q).num= -q.num by simp,show(-q).den=q.den by simp,Int.natAbs_neg]
 exact hq
def Yx(hp:Sz j p)(hq:Sz k q)(hj:j+k<=7990):Dh [aD p,aD q] S=Gc ((aD (p-q)),S):=by
 have l:=Pp (S:=S) hp (kH hq) hj
 rw[gy]at l
 rw[Rat.sub_eq_add_neg]
 simp only[aD]at l⊢
 simp at l
 simp[Dh,Nq,l]
def WI(h:0<b)(hb:b.natAbs<Fh):Cz [.int t,.int b] S=Gc ((aD (t / b)),S):=by
 rw[Ju h hb,Ip h]
def Xh(h:0<b)(hb:b.natAbs<Fh):BY [.int t,.int b] S=Gc ((aD (t / b)),S):=by
 rw[QW h hb,Ip h]
def IM{a b:Int}(ha:a.natAbs<2^k)(hb:b.natAbs<2^k):(a+b).natAbs<2^(k+1):=by
 have e:2^(k+1)=2^k+2^k:=by rw[ABE];lia
 have:=Int.natAbs_add_le a b
 lia
def Jv{a b:Int}(ha:a.natAbs<2^j)(hb:b.natAbs<2^k):(a*b).natAbs<2^(j+k):=by
 rw[yB];exact DR ha hb
def WB(h:0<w+m):((p.num*q.den*w+q.num*p.den*m:Int):Rat) / (((p.den:Int)*q.den*(w+m):Int):Rat)=(p*w+q*m) / (w+m):=by
 have h1:=DJ p;have h2:=DJ q
 have d1:=Hl p;have d2:=Hl q
 have d3:((w:Rat)+(m:Rat))≠0:=by
  intro e
  have:((w+m:Int):Rat)=0:=by push_cast;exact e
  have:=yC.mp this
  lia
 push_cast
 grind
section
variable{w m:Int}
def XE(hp:Sz j p)(hq:Sz k q)(hw:w.natAbs<2^n)(hm:m.natAbs<2^n):(p.num*q.den*w+q.num*p.den*m).natAbs<2^(j+k+n+1)/\((p.den:Int)*q.den*(w+m)).natAbs<2^(j+k+(n+1)):=by
 have d1:((p.den:Int)).natAbs<2^j:=by simpa using hp.2
 have d2:((q.den:Int)).natAbs<2^k:=by simpa using hq.2
 refine⟨IM (Jv (Jv hp.1 d2) hw) ?_,Jv (Jv d1 d2) (IM hw hm)⟩
 have:=Jv (Jv hq.1 d1) hm
 rwa [AA9 k j]at this
def gc(hp:Sz j p)(hq:Sz k q)(hw:w.natAbs<2^n)(hm:m.natAbs<2^n)(h:0<w+m)(hj:j+k+n+1<=7990):Hy [aD p,.int w,aD q,.int m] S=Gc ((aD ((p*w+q*m) / (w+m))),S):=by
 obtain⟨m1,m2,m3,m4⟩:=Ng hp hq (by lia)
 have d1:((p.den:Int)).natAbs<2^j:=by simpa using hp.2
 have d2:((q.den:Int)).natAbs<2^k:=by simpa using hq.2
 have b:=XE hp hq hw hm
 have m5:Dj (p.num*q.den) w=true:=GU (Jv hp.1 d2) hw (by lia) (by lia)
 have m6:Dj (q.num*p.den) m=true:=GU (Jv hq.1 d1) hm (by lia) (by lia)
 have m7:Dj ((p.den:Int)*q.den) (w+m)=true:=GU (Jv d1 d2) (IM hw hm) (by lia) (by lia)
 have l:=WI (S:=S) (t:=p.num*q.den*w+q.num*p.den*m) (b:=p.den*q.den*(w+m)) (vy (vy (den_pos _) (den_pos _)) h) (C9 b.2 (by lia))
 rw[WB h]at l
 simp only[aD]at l⊢
 simp[Hy,PH,m1,m2,m3,m5,m6,m7,l]
end
end
section
variable{S:Sto}{p:Nat}
def Zu(h:p<S.length):dr (S.set p (.lst r)) (.ref p)=.own r:=An (uh h)
def Pen(ds:Wp D):Prop:=∃a b c d:Int,ds=[.int a,.int b,.int c,.int d]/\0<=d/\d<1000000007
def Dw(p:Nat)(S:Sto):Prop:=∃ds,S[p]?=Gc (.lst ds)/\Pen ds
structure Pn(p:Nat)(S S':Sto):Prop where
 same:Bq [p] S S'
 pen:Dw p S'
def Pn.trans(h:Pn p S S')(g:Pn p S' S2):Pn p S S2:=⟨h.same.trans g.same,g.pen⟩
def Pn.get(h:Pn p S S')(e:S[n]?=Gc c)(ha:n≠p):S'[n]?=Gc c:=h.same.get e (by simpa using ha)
def Pn.refl(h:Dw p S):Pn p S S:=⟨.refl,h⟩
def Dw.lt(h:Dw p S):p<S.length:=by obtain⟨ds,e,_⟩:=h;exact Ai e
def Dw.app(h:Dw p S) T:Dw p (S++T):=by obtain⟨ds,e,hp⟩:=h;exact⟨ds,by rw[uT (Ai e)];exact e,hp⟩
inductive Drw(p:Nat)(n:Int)(S:Sto):Prop
 |mk (r:Int) (S':Sto) (e:AG [.ref p,.int n] S=Gc (.int r,S')) (a:0<=r) (b:r<n) (g:Pn p S S')
def Am(h:Dw p S)(h0:0<n)(h1:n<1152921504606846976):Drw p n S:=by
 obtain⟨ds,hp,a,b,c,d,rfl,hd0,hd1⟩:=h
 have hl:=Ai hp
 have hs:=EW h0 h1
 have hr:=An hp
 have hc:=AQ hp
 by_cases hb:b=1/\0<a
 .obtain⟨rfl,ha⟩:=hb
  refine⟨a % n,S.set p (.lst [.int (a / n),.int 1,.int c,.int d]),?_,xg _ (by lia),yG _ h0,.set (by simp),_,uh hl,_,_,_,_,rfl,hd0,hd1⟩
  simp[AG,IL,ha,h0,hs,hr,hc]
 .have m1:Dj (d+17) (69621+2*(c+1))=true:=mulL (by lia) (by lia)
  have m2:Dj 2 (c+1)=true:=mulL (by decide) (by decide)
  generalize ht:(d+17)*(69621+2*(c+1)) % 2147483647=t at*
  have t0:0<=t:=by rw[<-ht];exact xg _ (by decide)
  have t1:t<2147483647:=by rw[<-ht];exact yG _ (by decide)
  have m3:Dj t t=true:=mulL (by lia) (by lia)
  have m4:Dj 40503 (c+1)=true:=mulL (by decide) (by decide)
  generalize hu:(t*t+40503*(c+1)+5) % 2147483629=u at*
  have u0:0<=u:=by rw[<-hu];exact xg _ (by decide)
  have u1:u<2147483629:=by rw[<-hu];exact yG _ (by decide)
  have m5:Dj u 48271=true:=mulL (by lia) (by lia)
  have d32:(32:Int).natAbs<Fh:=EW (by decide) (by decide)
  have d32':(32:Nat)<Fh:=d32
  refine⟨u*48271 % 2147483647 / 32 % n,S.set p (.lst [.int a,.int b,.int (c+1),.int d]),?_,xg _ (by lia),yG _ h0,.set (by simp),_,uh hl,_,_,_,_,rfl,hd0,hd1⟩
  by_cases hb1:b=1
  .subst hb1
   have ha:¬0<a:=λz=>hb ⟨rfl,z⟩
   simp[AG,IL,ha,h0,hs,hr,hc,Zu,hl,m1,m2,m3,m4,m5,ht,hu,d32']
  .have hb2:(b==1)=false:=by simpa using hb1
   simp[AG,IL,hb2,h0,hs,hr,hc,Zu,hl,m1,m2,m3,m4,m5,ht,hu,d32']
def gH c:∃p S',Hh [.int c] S=Gc (.ref p,S')/\Dw p S'/\Bq [] S S'/\S.length<=p:=by
 refine⟨S.length,S++[.lst [.int c,.int (if(10:Int)^18<=c then 1 else 0),.int 0,.int (c % 1000000007)]],?_,⟨_,uy,_,_,_,_,rfl,xg _ (by decide),yG _ (by decide)⟩,.app,uc _⟩
 simp[Hh,Pu]
def DA(h:gOk gs S):BZ gs t c f [] acc E S=Gc (acc,S):=by
 unfold BZ
 rw[vC h]
def Nf (h:gOk gs S)(hz:acc.length<sizeLine):BZ gs t c f (d::ds) acc E S=(t d E S).bind λE1=>(c E1 S).bind λr=>match r.1 with
      | .bl true => (f E1 r.2).bind fun p => BZ gs t c f ds (acc ++ [p.1]) E1 p.2
      | .bl false => BZ gs t c f ds acc E1 r.2
      | _=>none:=by
  rw [BZ, vC h, vC hz]
  all_goals rfl
def FN(h:gOk gs S)(hz:acc.length<sizeLine)(e1:t d E S=Gc E1)(e2:c E1 S=Gc (.bl true,S1)):BZ gs t c f (d::ds) acc E S=(f E1 S1).bind λp=>BZ gs t c f ds (acc++[p.1]) E1 p.2:=by
 rw[Nf h hz,e1]
 show(c E1 S).bind _=_
 rw[e2]
 rfl
def JL(h:gOk gs S)(hz:acc.length<sizeLine)(e1:t d E S=Gc E1)(e2:c E1 S=Gc (.bl false,S1)):BZ gs t c f (d::ds) acc E S=BZ gs t c f ds acc E1 S1:=by
 rw[Nf h hz,e1]
 show(c E1 S).bind _=_
 rw[e2]
 rfl
theorem OZ{gs:Gd}{t:Tf}{f:Ev}{I:Sto->Prop}(hg:∀S,I S->gOk gs S):∀{ds acc} {os} {S},os.length=m->I S->acc.length+ds.length<=sizeLine->(∀d∈ds,∀os S,os.length=m->I S->∃us y S',us.length=m/\t d (C++os) S=Gc (C++us)/\f (C++us) S=Gc (y,S')/\I S'/\R d y)->∃ys S',BZ gs t BI f ds acc (C++os) S=Gc (acc++ys,S')/\I S'/\ys.length=ds.length/\Paired R ds ys
 | [],acc,os,S,ho,hI,hz,h=>⟨[],S,by rw[DA (hg S hI)];simp,hI,rfl,.nil⟩
 |d::ds,acc,os,S,ho,hI,hz,h=>by
  obtain⟨us,y,S1,hu,e1,e2,I1,r1⟩:=h d uk os S ho hI
  obtain⟨ys,S2,e3,I2,l2,r2⟩:=OZ hg (ds:=ds) (acc:=acc++[y]) (os:=us) (S:=S1) hu I1 (by simp at hz ⊢; lia) λd' hd=>h d' (uW _ hd)
  refine⟨y::ys,S2,?_,I2,by simp[l2],.cons r1 r2⟩
  rw[FN (hg S hI) (by simp at hz;lia) e1 D0,e2,A1,e3]
  simp
theorem comp_map(hg:gOk gs S):∀{ds acc} {os},os.length=m->acc.length+ds.length<=sizeLine->(∀d∈ds,∀os,os.length=m->∃us,us.length=m/\t d (C++os) S=Gc (C++us)/\f (C++us) S=Gc (g d,S))->BZ gs t BI f ds acc (C++os) S=Gc (acc++ds.map g,S)
 | [],acc,os,ho,hz,h=>by rw[DA hg];simp
 |d::ds,acc,os,ho,hz,h=>by
  obtain⟨us,hu,e1,e2⟩:=h d uk os ho
  rw[FN hg (by simp at hz;lia) e1 D0,e2,A1]
  rw[comp_map hg hu (by simp at hz ⊢; lia) λd' hd=>h d' (uW _ hd)]
  simp
theorem Gn{I:Wp D->En->Sto->Prop}(hg:∀ds E S,I ds E S->gOk gs S):∀{ds} {E} {S},I ds E S->(∀d ds E S,I (d::ds) E S->∃E1 E2 S2,t d E S=Gc E1/\b E1 S=Gc (.nx,E2,S2)/\I ds E2 S2)->∃E' S',Md gs t b ds E S=Gc (.nx,E',S')/\I [] E' S'
 | [],E,S,hI,h=>⟨E,S,Jy (hg _ _ _ hI),hI⟩
 |d::ds,E,S,hI,h=>by
  obtain⟨E1,E2,S2,e1,e2,I2⟩:=h d ds E S hI
  obtain⟨E',S',e3,I3⟩:=Gn hg I2 h
  exact⟨E',S',by rw[EC (hg _ _ _ hI),e1];simp[e2,e3],I3⟩
def pick{xs:Wp D}{r:Int}(h0:0<=r)(h1:r<xs.length):∃x,atI xs r=Gc x/\x∈xs:=⟨_,ZC h0 h1,yD _⟩
theorem KC{P:β->Prop}:∀{xs:Wp α} {ys},Paired (λ_ y=>P y) xs ys->∀y∈ys,P y
 |_,_,.nil,y,h=>by cases h
 |_,_,.cons r t,y,h=>by
  rcases uY.mp h with h|h
  .rw[h];exact r
  .exact KC t y h
def IP:(NK lo n).length=n:=by simp[NK]
end
def Ok(G B:Nat)(r:Rat):Prop:=∃z:Nat,r*(G:Rat)=(z:Rat)/\z<=B
def NN{n:Nat}(h:0<n):(n:Rat)≠0:=by
 have:n≠0:=by lia
 exact_mod_cast this
def Ok.sz(h:Ok G B r)(hG:0<G)(g:G<2^k)(b:B<2^k):Sz k r:=by
 obtain⟨z,e,hz⟩:=h
 have e2:r=((z:Int):Rat) / ((G:Int):Rat):=by
  have:=NN hG
  rw[show(((z:Nat):Int):Rat)=(z:Rat)from rfl,show(((G:Nat):Int):Rat)=(G:Rat)from rfl,<-e]
  grind
 rw[e2]
 exact Nk (by lia) (by simpa using vJ hz b) (by simpa using g)
def Ok.up(h:Ok G B r)(hB:B*t<=B'):Ok (G*t) B' r:=by
 obtain⟨z,e,hz⟩:=h
 refine⟨z*t,?_,uZ (vf t hz) hB⟩
 push_cast
 rw[<-e]
 grind
def Ok.zero:Ok G B 0:=⟨0,by simp,wL _⟩
def Ok.one(h:G<=B):Ok G B 1:=⟨G,by simp,h⟩
def Ok.mix{G B a b t:Nat}(hr:Ok G B r)(ho:Ok G B o)(ht:a+b=t)(h0:0<t):Ok (G*t) (B*t) ((r*(a:Rat)+o*(b:Rat)) / (t:Rat)):=by
 obtain⟨z,e1,h1⟩:=hr
 obtain⟨y,e2,h2⟩:=ho
 refine⟨z*a+y*b,?_,?_⟩
 .have:=NN h0
  push_cast
  rw[<-e1,<-e2]
  grind
 .rw[<-ht,Nat.mul_add]
  exact Nat.add_le_add (vf a h1) (vf b h2)
structure Tr where
 p:Nat
 k:Nat
 b:Nat
 ho:Wp Rat
 h:Int
 l:Int
structure Ld where
 k:Nat
 n:Int
 ow:Wp Rat
structure Stt where
 AA:Wp Ld
 hold:Wp Rat
 nums:Wp Int
inductive AR where
 |CU (p k:Nat) (n:Int)
 |GJ (a b:Nat)
 |swap (l:Nat) (g:Int) (k:Nat) (n:Int)
 |Bv (t:Int) (l:Nat) (g:Int) (k:Nat) (n:Int)
 |Ci (l:Nat) (n:Int)
 |thr (l:Nat) (n:Int) (ws:Wp Int)
 |Fe (p q:Nat) (s:Rat)
noncomputable def shD(rs:Wp Rat):D:=.tup (rs.map aD)
noncomputable def Tr.d(t:Tr):D:=.tup [.int t.p,.int t.k,.int t.b,shD t.ho,.int t.h,.int t.l]
noncomputable def Ld.d(l:Ld):D:=.tup [.int l.k,.int l.n,shD l.ow]
noncomputable def AR.d:AR->D
 | .CU p k n=>.tup [.str "bring",.int p,.int k,.int n]
 | .GJ a b=>.tup [.str "pool",.int a,.int b]
 | .swap l g k n=>.tup [.str "swap",.int l,.int g,.int k,.int n]
 | .Bv t l g k n=>.tup [.str "trade",.int t,.int l,.int g,.int k,.int n]
 | .Ci l n=>.tup [.str "spoil",.int l,.int n]
 | .thr l n ws=>.tup [.str "throw",.int l,.int n,.tup (ws.map .int)]
 | .Fe p q s=>.tup [.str "sell",.int p,.int q,aD s]
noncomputable def HI(x:Rat)(os ss:Wp Rat):Wp Rat:=AAC (λs o=>s*(1-x)+o*x) ss os
noncomputable def Gp(p q:Nat)(s:Rat)(ss:Wp Rat):Wp Rat:=(ss.set p (ss.getD p 0-ss.getD p 0*s)).set q (ss.getD q 0+ss.getD p 0*s)
noncomputable def CD(n m:Int)(ss os:Wp Rat):Wp Rat:=AAC (λs o=>(s*n+o*m) / (n+m:Int)) ss os
noncomputable def Ef(t:Tr)(ls:Wp Ld)(ws:Wp Int):Int:=(ls.map λl=>l.n*ws.getD l.k 0).sum+t.b*ws.getD t.k 0
noncomputable def Iv(t:Tr)(ls:Wp Ld)(l:Nat)(n:Int)(ws:Wp Int):Rat:=((n*ws.getD ((ls[l]?.map (·.k)).getD 0) 0:Int):Rat) / (Ef t ls ws:Rat)
noncomputable def AL(ls:Wp Ld)(l:Nat):Ld:=ls.getD l ⟨0,0,[]⟩
noncomputable def less(ls:Wp Ld)(l:Nat)(n:Int):Wp Ld:=ls.set l {AL ls l with n:=(AL ls l).n-n}
noncomputable def Vj(p i:Nat):Wp Rat:=(u6 p).map λj=>if j=i then 1 else 0
noncomputable def step(t:Tr)(s:Stt):AR->Stt
 | .CU p k n=>{s with AA:=s.AA++[⟨k,n,Vj t.p p⟩]}
 | .GJ a b=>{s with AA:=less (less s.AA a (AL s.AA a).n) b (AL s.AA b).n++[⟨(AL s.AA a).k,(AL s.AA a).n+(AL s.AA b).n,CD (AL s.AA a).n (AL s.AA b).n (AL s.AA a).ow (AL s.AA b).ow⟩]}
 | .swap l g k n=>{s with AA:=less s.AA l g++[⟨k,n,(AL s.AA l).ow⟩]}
 | .Bv u l g k n=>{s with AA:=less s.AA l g++[⟨k,n,(AL s.AA l).ow⟩],nums:=s.nums++[u]}
 | .Ci l n=>{s with AA:=less s.AA l n}
 | .thr l n ws=>{s with AA:=(less s.AA l n).map λx=>{x with ow:=HI (Iv t s.AA l n ws) (AL s.AA l).ow x.ow},hold:=HI (Iv t s.AA l n ws) (AL s.AA l).ow s.hold}
 | .Fe p q x=>{s with AA:=s.AA.map λy=>{y with ow:=Gp p q x y.ow},hold:=Gp p q x s.hold}
def Hn(t:Tr):Prop:=1<=t.p/\t.p<=4/\1<=t.k/\t.k<=5/\1<=t.b/\t.b<=20
def Can(t:Tr)(s:Stt):AR->Prop
 | .CU p k n=>p<t.p/\k<t.k/\1<=n/\n<2^131
 | .GJ a b=>a≠b/\a<s.AA.length/\b<s.AA.length/\0<(AL s.AA a).n/\0<(AL s.AA b).n/\(AL s.AA a).k=(AL s.AA b).k
 | .swap l g k n=>l<s.AA.length/\1<=g/\g<=(AL s.AA l).n/\k<t.k/\k≠(AL s.AA l).k/\1<=n/\n<2^131
 | .Bv u l g k n=>l<s.AA.length/\1<=g/\g<=(AL s.AA l).n/\k<t.k/\k≠(AL s.AA l).k/\1<=n/\n<2^131/\u∉s.nums/\0<=u/\u<=9
 | .Ci l n=>l<s.AA.length/\1<=n/\n<=(AL s.AA l).n
 | .thr l n ws=>l<s.AA.length/\1<=n/\n<=(AL s.AA l).n/\ws.length=t.k+1/\∀w∈ws,1<=w/\w<=99
 | .Fe p q x=>p≠q/\p<t.p/\q<t.p/\0<x.num/\x.num<=x.den/\x.den<=12
structure FC(t:Tr)(k:Nat)(s:Stt):Prop where
 len:s.AA.length<=4+k
 kind:∀l∈s.AA,l.k<t.k
 pcs:∀l∈s.AA,0<=l.n/\l.n<2^(131+k)
 own:∀l∈s.AA,l.ow.length=t.p
 hold:s.hold.length=t.p
 nm:s.nums.length<=k
 gb:∃G B:Nat,0<G/\G<=B/\B<2^(30+170*k)/\(∀l∈s.AA,∀r∈l.ow,Ok G B r)/\∀r∈s.hold,Ok G B r
def FC.sz(h:FC t k s):(∀l∈s.AA,∀r∈l.ow,Sz (30+170*k) r)/\∀r∈s.hold,Sz (30+170*k) r:=by
 obtain⟨G,B,g0,gb,b,h1,h2⟩:=h.gb
 exact⟨λl hl r hr=>(h1 l hl r hr).sz g0 (vJ gb b) b,λr hr=>(h2 r hr).sz g0 (vJ gb b) b⟩
def Ao(h:l<ls.length):AL ls l∈ls:=by
 unfold AL
 rw[uz,uS h]
 exact yD h
def EL(h:l<ls.length):ls[l]?=Gc (AL ls l):=by
 unfold AL
 rw[uz,uS h]
 rfl
def Od(h:x∈less ls l n)(hl:l<ls.length):x∈ls\/x={AL ls l with n:=(AL ls l).n-n}:=by
 unfold less at h
 rcases xX h with h|h
 .exact .inl h
 .exact .inr h
def Dk:(less ls l n).length=ls.length:=by simp[less]
theorem QU{P:Int->Prop}:∀{ys},(∀y∈ys,∃i,y=.int i/\P i)->∃ns:Wp Int,ys=ns.map D.int/\∀n∈ns,P n
 | [],_=>⟨[],rfl,λn h=>by cases h⟩
 |y::ys,h=>by
  obtain⟨i,rfl,hi⟩:=h y uk
  obtain⟨ns,rfl,hn⟩:=QU (P:=P) (ys:=ys) λz hz=>h z (uW _ hz)
  exact⟨i::ns,rfl,λn hn'=>by
   rcases uY.mp hn' with e|e
   .rw[e];exact hi
   .exact hn n e⟩
def P7{ns:Wp Int}(h:∀n∈ns,0<=n/\n<=8):0<=ns.sum/\ns.sum<=8*ns.length/\∀n∈ns,n<=ns.sum:=by
 induction ns with
 |nil=>simp
 |cons a l ih=>
  have h1:=h a uk
  obtain⟨i1,i2,i3⟩:=ih λn hn=>h n (uW _ hn)
  rw[wu,vG]
  refine⟨by lia,by push_cast;lia,λn hn=>?_⟩
  rcases uY.mp hn with e|e
  .lia
  .have:=i3 n e;lia
def TQ (h:Dw p S)(hn:n ≤ 20):∃(ns:Wp Int)(S':Sto),BZ [] (tNm 1) BI (eOp (o2 wIx) [(Ja [(eC (.int 0)),(eC (.int 1)),(AF AG [(eV 0),(eC (.int 4))]),(AF AG [(eV 0),(eC (.int 9))])]),(AF AG [(eV 0),(eC (.int 4))])]) (NK 0 n) [] [Gc (.ref p),none] S=Gc (ns.map D.int,S')/\Pn p S S'/\ns.length=n/\∀i ∈ ns,0 ≤ i/\i ≤ 8:=by
  obtain⟨ys,S',e,hI,l,r⟩:=OZ (gs:=[]) (t:=tNm 1) (f:=eOp (o2 wIx) [(Ja [(eC (.int 0)),(eC (.int 1)),(AF AG [(eV 0),(eC (.int 4))]),(AF AG [(eV 0),(eC (.int 9))])]),(AF AG [(eV 0),(eC (.int 4))])]) (C:=[Gc (.ref p)]) (m:=1) (I:=Pn p S) (R:=λ_ y=>∃i:Int,y = .int i/\0 ≤ i/\i ≤ 8)
    (λ_ _=>AW) (ds:=NK 0 n) (acc:=[]) (os:=[none]) rfl (Pn.refl h) (by rw[IP];simp;exact AJ (by lia)) λd _ os S0 ho I0=>by
      obtain⟨o,rfl⟩:=NJ ho
      obtain⟨r1,S1,e1,a1,b1,p1⟩:=Am I0.pen (n:=4) (by decide) (by decide)
      obtain⟨r2,S2,e2,a2,b2,p2⟩:=Am p1.pen (n:=9) (by decide) (by decide)
      obtain⟨r3,S3,e3,a3,b3,p3⟩:=Am p2.pen (n:=4) (by decide) (by decide)
      obtain⟨x,ex,hx⟩:=pick (xs:=[.int 0,.int 1,.int r1,.int r2]) (r:=r3) a3 (by simpa using b3)
      refine ⟨[Gc d], x, S3, rfl, by simp, by simp [e1, e2, e3, ex], ((I0.trans p1).trans p2).trans p3, ?_⟩
      simp only [uY, uu, ve] at hx
      rcases hx with rfl | rfl | rfl | rfl
      · exact ⟨0, rfl, by decide, by decide⟩
      · exact ⟨1, rfl, by decide, by decide⟩
      · exact ⟨r1, rfl, by lia, by lia⟩
      · exact ⟨r2, rfl, by lia, by lia⟩
  obtain⟨ns,rfl,hns⟩:=QU (KC r)
  exact ⟨ns, S', by simpa using e, hI, by simpa [IP] using l, hns⟩
noncomputable def Io(ns:Wp Int):Wp Rat:=ns.map λ(n:Int)=>(n:Rat) / (ns.sum:Rat)
def Mg(h:∀n∈ns,0<=n/\n<=8)(hs:0<ns.sum):∀r∈Io ns,Ok ns.sum.toNat ns.sum.toNat r:=by
 intro r hr
 obtain⟨n,hn,rfl⟩:=vS.mp hr
 have h1:=h n hn
 have h2:=(P7 h).2.2 n hn
 refine⟨n.toNat,?_,by lia⟩
 have e1:((ns.sum.toNat:Nat):Rat)=(ns.sum:Rat):=by
  have:((ns.sum.toNat:Nat):Int)=ns.sum:=by lia
  exact congrArg (λz:Int=>(z:Rat)) this
 have e2:((n.toNat:Nat):Rat)=(n:Rat):=by
  have:((n.toNat:Nat):Int)=n:=by lia
  exact congrArg (λz:Int=>(z:Rat)) this
 rw[e1,e2]
 have:(ns.sum:Rat)≠0:=by
  intro z
  have:=yC.mp z
  lia
 grind
theorem VT:∀{ns:Wp Int},(ns.map λ(n:Int)=>(n:Rat) / s).sum=(ns.sum:Rat) / s
 | []=>by simp;grind
 |n::ns=>by
  rw[uw,wu,wu,VT (ns:=ns)]
  push_cast
  grind
def P9(hs:0<ns.sum):(Io ns).sum=1:=by
 unfold Io
 rw[VT]
 have:(ns.sum:Rat)≠0:=by
  intro z
  have:=yC.mp z
  lia
 grind
def RJ(hq:S[q]?=Gc (.lst (ns.map D.int)))(hl:ns.length<=20)(hn:∀n∈ns,0<=n/\n<=8)(hs:0<ns.sum):BZ [(q,ns.map D.int)] (tNm 1) BI (AF BY [eV 1,eOp (o1 Xu) [eV 0]]) (ns.map D.int) [] [Gc (.ref q),none] S=Gc ((Io ns).map aD,S):=by
 obtain⟨s1,s2,s3⟩:=P7 hn
 have:=comp_map (gs:=[(q,ns.map D.int)]) (t:=tNm 1) (f:=AF BY [eV 1,eOp (o1 Xu) [eV 0]]) (C:=[Gc (.ref q)]) (m:=1) (g:=λd=>match d with| .int n=>aD ((n:Rat) / (ns.sum:Rat))|d=>d) (S:=S) (λg hg=>by rw[vQ.mp hg];exact AQ hq) (ds:=ns.map D.int) (acc:=[]) (os:=[none]) rfl (by simp;exact AJ (by lia)) λd hd os ho=>by
  obtain⟨o,rfl⟩:=NJ ho
  obtain⟨i,hi,rfl⟩:=vS.mp hd
  have m:=Xh (S:=S) (t:=i) hs (EW (by lia) (by lia))
  exact⟨[Gc (.int i)],rfl,by simp,by simp[An hq,GQ,m]⟩
 have e2:(ns.map D.int).map (λd=>match d with| .int n=>aD ((n:Rat) / (ns.sum:Rat))|d=>d)=(Io ns).map aD:=by
  unfold Io
  rw[wC,wC]
  rfl
 rw[e2]at this
 simpa using this
def Rw(h:Dw p S){n:Nat}(h1:1<=n)(h2:n<=4):∃rs S',DP [.ref p,.int n] S=Gc (shD rs,S')/\Pn p S S'/\(rs.length=n/\rs.sum=1)/\∃G,0<G/\G<=32/\∀r∈rs,Ok G G r:=by
 obtain⟨ns,S1,e1,p1,l1,i1⟩:=TQ (n:=n) h (by lia)
 obtain⟨s1,s2,s3⟩:=P7 i1
 have hq:(S1++[Cl.lst (ns.map D.int)])[S1.length]?=Gc (.lst (ns.map D.int)):=uy
 have pp:Dw p (S1++[Cl.lst (ns.map D.int)]):=p1.pen.app _
 have hlt:=p1.pen.lt
 have r1:J6 (n:Int)=true:=ER (by lia) (by lia)
 by_cases hz:ns.sum=0
 .obtain⟨r,S2,e2,a2,b2,p2⟩:=Am pp (n:=n) (by lia) (by lia)
  have hq2:S2[S1.length]?=Gc (.lst (ns.map D.int)):=p2.get hq (by lia)
  have hn':∀x∈ns.set r.toNat 1,0<=x/\x<=8:=λx hx=>by
   rcases xX hx with hx|rfl
   .exact i1 x hx
   .exact⟨by decide,by decide⟩
  have hs':0<(ns.set r.toNat 1).sum:=by
   have:=(P7 hn').2.2 1 (List.mem_set (by lia) 1)
   lia
  have hq3:(S2.set S1.length (.lst ((ns.set r.toNat 1).map D.int)))[S1.length]?=Gc (.lst ((ns.set r.toNat 1).map D.int)):=uh (Ai hq2)
  have e3:=RJ hq3 (by simp;lia) hn' hs'
  have ix:ixN ns.length r=Gc r.toNat:=Rp a2 (by lia)
  refine⟨Io (ns.set r.toNat 1),S2.set S1.length (.lst ((ns.set r.toNat 1).map D.int)),?_,⟨?_,?_⟩,⟨by simp[Io,l1],P9 hs'⟩,_,(show 0<(ns.set r.toNat 1).sum.toNat by lia),?_,Mg hn' hs'⟩
  .have sq3:=JT hq3
   rw[yH]at e3 sq3 hq3
   simp[DP,Ir,r1,e1,An hq,GQ,hz,e2,AQ hq2,ix,sq3,e3,shD]
  .have g:Bq [p] S (S1++[Cl.lst (ns.map D.int)]):=p1.same.trans .app
   refine⟨uZ (g.trans p2.same).len (by simp),λm hm hmp=>?_⟩
   rw[uV (by have:=p1.same.len;lia)]
   exact(g.trans p2.same).keep m hm hmp
  .obtain⟨ds,ed,hd⟩:=p2.pen
   exact⟨ds,by rw[uV (by lia)];exact ed,hd⟩
  .have:=(P7 hn').2.1
   rw[wU]at this
   lia
 .have hz':(ns.sum==0)=false:=by simpa using hz
  have e3:=RJ hq (by lia) i1 (by lia)
  refine⟨Io ns,S1++[Cl.lst (ns.map D.int)],?_,⟨p1.same.trans .app,pp⟩,⟨by simp[Io,l1],P9 (by lia)⟩,_,(show 0<ns.sum.toNat by lia),by lia,Mg i1 (by lia)⟩
  have sq3:=JT hq
  simp[DP,Ir,r1,e1,An hq,GQ,hz',sq3,e3,shD]
def di:(2:Nat)<Fh:=EW (n:=2) (by decide) (by decide)
inductive Pcs(p j:Nat)(S:Sto):Prop
 |mk (n:Int) (S':Sto) (e:A8 [.ref p] S=Gc (.int n,S')) (g:Pn p S S') (a:1<=n) (b:n<2^j)
def Ni(h:Dw p S):Pcs p 130 S:=by
 obtain⟨r1,S1,e1,a1,b1,p1⟩:=Am h (n:=99) (by decide) (by decide)
 obtain⟨r2,S2,e2,a2,b2,p2⟩:=Am p1.pen (n:=4) (by decide) (by decide)
 obtain⟨r3,S3,e3,a3,b3,p3⟩:=Am p2.pen (n:=40) (by decide) (by decide)
 obtain⟨r4,S4,e4,a4,b4,p4⟩:=Am p3.pen (n:=999) (by decide) (by decide)
 obtain⟨r5,S5,e5,a5,b5,p5⟩:=Am p4.pen (n:=7) (by decide) (by decide)
 have pp:=(((p1.trans p2).trans p3).trans p4).trans p5
 have d2:=di
 have go:∀g:Int,1<=g->g<2^130->∃n:Int,atI [D.int (1+r2),.int (1+r3),.int (1+r4),.int g] (r5 / 2)=Gc (.int n)/\1<=n/\n<2^130:=λg g1 g2=>by
  obtain⟨x,ex,hx⟩:=pick (xs:=[D.int (1+r2),.int (1+r3),.int (1+r4),.int g]) (r:=r5 / 2) (by lia) (by simp;lia)
  simp only[uY,uu,ve]at hx
  rcases hx with rfl|rfl|rfl|rfl
  .exact⟨_,ex,by lia,by lia⟩
  .exact⟨_,ex,by lia,by lia⟩
  .exact⟨_,ex,by lia,by lia⟩
  .exact⟨_,ex,g1,g2⟩
 first
  |(obtain⟨n,en,n1,n2⟩:=go (10^39+r1) (by lia) (by lia)
    exact⟨n,S5,by simp[A8,ID,e1,e2,e3,e4,e5,d2]at en ⊢; simp[en],pp,n1,n2⟩)
  |(obtain⟨n,en,n1,n2⟩:=go (10^30+r1) (by lia) (by lia)
    exact⟨n,S5,by simp[A8,ID,e1,e2,e3,e4,e5,d2]at en ⊢; simp[en],pp,n1,n2⟩)
def Lv(h:Dw p S):Pcs p 131 S:=by
 obtain⟨n,S',a,b,c,d⟩:=Ni h
 exact⟨n,S',a,b,c,Int.lt_trans d (by decide)⟩
def Hf{r:Int}(h:0<=r):∃m:Nat,r=m:=⟨r.toNat,by lia⟩
def rF(t:Tr):Prop:=0<=t.h/\t.h<=9/\0<=t.l/\t.l<=9
def U7(h:Dw p S):∃t S',Gz [.ref p] S=Gc (Tr.d t,S')/\Pn p S S'/\Hn t/\((t.ho.length=t.p/\t.ho.sum=1)/\rF t)/\∃G,0<G/\G<=32/\∀r∈t.ho,Ok G G r:=by
 obtain⟨r1,S1,e1,a1,b1,p1⟩:=Am h (n:=4) (by decide) (by decide)
 obtain⟨r2,S2,e2,a2,b2,p2⟩:=Am p1.pen (n:=5) (by decide) (by decide)
 obtain⟨r3,S3,e3,a3,b3,p3⟩:=Am p2.pen (n:=3) (by decide) (by decide)
 obtain⟨r4,S4,e4,a4,b4,p4⟩:=Am p3.pen (n:=20) (by decide) (by decide)
 obtain⟨r5,S5,e5,a5,b5,p5⟩:=Am p4.pen (n:=2) (by decide) (by decide)
 obtain⟨m1,rfl⟩:=Hf a1
 obtain⟨m2,rfl⟩:=Hf a2
 obtain⟨b,eb,hb1,hb2⟩:∃b:Nat,atI [D.int (1+r3),.int (1+r4)] r5=Gc (.int b)/\1<=b/\b<=20:=by
  obtain⟨x,ex,hx⟩:=pick (xs:=[D.int (1+r3),.int (1+r4)]) (r:=r5) a5 (by simpa using b5)
  obtain⟨m3,rfl⟩:=Hf a3
  obtain⟨m4,rfl⟩:=Hf a4
  simp only[uY,uu,ve]at hx
  rcases hx with rfl|rfl
  .exact⟨1+m3,by rw[ex];simp,by lia,by lia⟩
  .exact⟨1+m4,by rw[ex];simp,by lia,by lia⟩
 obtain⟨rs,S6,e6,p6,l6,G,g0,g1,g2⟩:=Rw p5.pen (n:=1+m1) (by lia) (by lia)
 obtain⟨r7,S7,e7,a7,b7,p7⟩:=Am p6.pen (n:=10) (by decide) (by decide)
 obtain⟨r8,S8,e8,a8,b8,p8⟩:=Am p7.pen (n:=10) (by decide) (by decide)
 rw[show((1+m1:Nat):Int)=1+(m1:Int) by lia]at e6
 refine⟨⟨1+m1,1+m2,b,rs,r7,r8⟩,S8,?_,((((((p1.trans p2).trans p3).trans p4).trans p5).trans p6).trans p7).trans p8,⟨by simp,by simp;lia,by simp,by simp;lia,hb1,hb2⟩,⟨l6,a7,by show r7<=9;lia,a8,by show r8<=9;lia⟩,G,g0,g1,g2⟩
 simp[Gz,MT,e1,e2,e3,e4,e5,eb,e6,e7,e8,Tr.d]
inductive Shr(p:Nat)(S:Sto):Prop
 |mk (x:Rat) (S':Sto) (e:FY [.ref p] S=Gc (aD x,S')) (g:Pn p S S') (a:0<x.num) (b:x.num<=x.den) (c:x.den<=12)
def XA(h:Dw p S):Shr p S:=by
 obtain⟨r1,S1,e1,a1,b1,p1⟩:=Am h (n:=12) (by decide) (by decide)
 obtain⟨r2,S2,e2,a2,b2,p2⟩:=Am p1.pen (n:=1+r1) (by lia) (by lia)
 have m:=Xh (S:=S2) (t:=1+r2) (b:=1+r1) (by lia) (EW (by lia) (by lia))
 obtain⟨m1,rfl⟩:=Hf a1
 obtain⟨m2,rfl⟩:=Hf a2
 have rp:=MC (1+(m2:Int)) (1+m1) (by lia)
 have eb:(((1+(m1:Int):Int)):Rat)=(((1+m1:Nat)):Rat):=by
  have:(1+(m1:Int))=((1+m1:Nat):Int):=by lia
  rw[this];rfl
 have en:(1+(m2:Int)).natAbs=1+m2:=by lia
 have gp:0<AAB (1+m2) (1+m1):=Nat.gcd_pos_of_pos_left _ (by lia)
 obtain⟨q,hq⟩:=Nat.gcd_dvd_left (1+m2) (1+m1)
 obtain⟨q',hq'⟩:=Nat.gcd_dvd_right (1+m2) (1+m1)
 refine⟨((1+(m2:Int):Int):Rat) / ((1+(m1:Int):Int):Rat),S2,?_,p1.trans p2,?_,?_,?_⟩
 .simp[FY,ME,e1,e2,m]
 .rw[eb,rp.1,en]
  generalize AAB (1+m2) (1+m1)=g at*
  have:(1+(m2:Int))=((g*q:Nat):Int):=by lia
  rw[this,ABM,AAp _ (by lia)]
  have:q≠0:=λz=>by subst z;lia
  lia
 .rw[eb,rp.1,rp.2,en]
  generalize AAB (1+m2) (1+m1)=g at*
  have t1:(1+(m2:Int))=((g*q:Nat):Int):=by lia
  rw[t1,ABM,AAp _ (by lia),hq',Nat.mul_div_cancel_left _ gp]
  have:q<=q':=by
   have:g*q<=g*q':=by lia
   exact Nat.le_of_mul_le_mul_left this gp
  lia
 .rw[eb,rp.2]
  exact uZ (Nat.div_le_self _ _) (by lia)
inductive Wts(p n:Nat)(S:Sto):Prop
 |mk (ws:Wp Int) (S':Sto) (e:Di [.ref p,.int n] S=Gc (.tup (ws.map .int),S')) (g:Pn p S S') (a:ws.length=n) (b:∀w∈ws,1<=w/\w<=99)
def V5 (h:Dw p S)(hn:n ≤ 6):Wts p n S:=by
  obtain⟨ys,S',e,hI,l,r⟩:=OZ (gs:=[]) (t:=tNm 1) (f:=(eOp (o2 CN) [(eC (.int 1)),(eOp (o2 wIx) [(Ja [(AF AG [(eV 0),(eC (.int 3))]),(AF AG [(eV 0),(eC (.int 99))])]),(AF AG [(eV 0),(eC (.int 2))])])])) (C:=[Gc (.ref p)]) (m:=1) (I:=Pn p S) (R:=λ_ y=>∃i:Int,y = .int i/\1 ≤ i/\i ≤ 99)
    (λ_ _=>AW) (ds:=NK 0 n) (acc:=[]) (os:=[none]) rfl (Pn.refl h) (by rw[IP];simp;exact AJ (by lia)) λd _ os S0 ho I0=>by
      obtain⟨o,rfl⟩:=NJ ho
      obtain⟨r1,S1,e1,a1,b1,p1⟩:=Am I0.pen (n:=3) (by decide) (by decide)
      obtain⟨r2,S2,e2,a2,b2,p2⟩:=Am p1.pen (n:=99) (by decide) (by decide)
      obtain⟨r3,S3,e3,a3,b3,p3⟩:=Am p2.pen (n:=2) (by decide) (by decide)
      obtain⟨x,ex,hx⟩:=pick (xs:=[.int r1,.int r2]) (r:=r3) a3 (by simpa using b3)
      simp only [uY, uu, ve] at hx
      rcases hx with rfl | rfl
      · exact ⟨[Gc d], .int (1 + r1), S3, rfl, by simp, by simp [e1, e2, e3, ex], ((I0.trans p1).trans p2).trans p3, _, rfl, by lia, by lia⟩
      · exact ⟨[Gc d], .int (1 + r2), S3, rfl, by simp, by simp [e1, e2, e3, ex], ((I0.trans p1).trans p2).trans p3, _, rfl, by lia, by lia⟩
  obtain⟨ns,rfl,hns⟩:=QU (KC r)
  have r1:J6 (n:Int)=true:=ER (by lia) (by lia)
  have e':BZ [] (tNm 1) BI (eOp (o2 CN) [(eC (.int 1)),(eOp (o2 wIx) [(Ja [(AF AG [(eV 0),(eC (.int 3))]),(AF AG [(eV 0),(eC (.int 99))])]),(AF AG [(eV 0),(eC (.int 2))])])]) (NK 0 n) [] [Gc (.ref p),none] S=Gc (ns.map D.int,S'):=by simpa using e
  exact ⟨ns, S', by simp [Di, K3, r1, e'], hI, by simpa [IP] using l, hns⟩
def GB(t:Tr)(ls:Wp Ld):Prop:=(∀l∈ls,l.k<t.k/\1<=l.n/\l.n<2^131/\l.ow.length=t.p/\l.ow.sum=1)/\∃G:Nat,0<G/\G<=32^ls.length/\∀l∈ls,∀r∈l.ow,Ok G G r
def GB.snoc(h:GB t ls)(h1:l.k<t.k/\1<=l.n/\l.n<2^131/\l.ow.length=t.p/\l.ow.sum=1)(g0:0<g)(g1:g<=32)(g2:∀r∈l.ow,Ok g g r):GB t (ls++[l]):=by
 obtain⟨ha,G,G0,G1,G2⟩:=h
 refine⟨λx hx=>?_,G*g,AAj G0 g0,?_,λx hx r hr=>?_⟩
 .rcases vD.mp hx with hx|hx
  .exact ha x hx
  .rw[vQ.mp hx];exact h1
 .rw[vp,ABS,ABE]
  exact AAZ G1 g1
 .rcases vD.mp hx with hx|hx
  .exact(G2 x hx r hr).up (uc _)
  .rw[vQ.mp hx]at hr
   have:=(g2 r hr).up (t:=G) (B':=G*g) (by rw[yF];exact uc _)
   rwa [yF g G]at this
def GB.nil:GB t []:=⟨λl hl=>(nomatch hl),1,by decide,by simp,λl hl=>(nomatch hl)⟩
def Yd(h:Dw p S)(ht:Hn t):∃ls S',Gu [.ref p,t.d] S=Gc (.tup (ls.map Ld.d),S')/\Pn p S S'/\GB t ls/\ls.length<=4:=by
 obtain⟨t1,t2,t3,t4,t5,t6⟩:=ht
 have hlt:=h.lt
 have hq:(S++[Cl.lst []])[S.length]?=Gc (.lst []):=uy
 obtain⟨r1,S1,e1,a1,b1,p1⟩:=Am (h.app [Cl.lst []]) (n:=5) (by decide) (by decide)
 obtain⟨r2,S2,e2,a2,b2,p2⟩:=Am p1.pen (n:=3) (by decide) (by decide)
 obtain⟨n,en,hn⟩:∃n:Nat,atI [D.int 0,.int 1,.int r1] r2=Gc (.int n)/\n<=4:=by
  obtain⟨x,ex,hx⟩:=pick (xs:=[D.int 0,.int 1,.int r1]) (r:=r2) a2 (by simpa using b2)
  simp only[uY,uu,ve]at hx
  rcases hx with rfl|rfl|rfl
  .exact⟨0,ex,by decide⟩
  .exact⟨1,ex,by decide⟩
  .exact⟨r1.toNat,by rw[ex,vd a1],by lia⟩
 have q2:S2[S.length]?=Gc (.lst []):=(p1.trans p2).get hq (by lia)
 have rn:J6 (n:Int)=true:=ER (by lia) (by lia)
 obtain⟨E',S',ef,ls,o,rfl,f1,f2,f3,f4,f5⟩:=Gn (gs:=[]) (t:=tNm 3) (b:=Bo (NC Nt (eV 2) [A9 [AF AG [eV 0,eOp (o2 wIx) [eV 1,eC (.int 1)]],AF A8 [eV 0],AF DP [eV 0,eOp (o2 wIx) [eV 1,eC (.int 0)]]]]))
  (I:=λds E S'=>∃(ls:Wp Ld) (o:uR D),E=[Gc (.ref p),Gc t.d,Gc (.ref S.length),o]/\S'[S.length]?=Gc (.lst (ls.map Ld.d))/\Dw p S'/\Bq [p] S S'/\GB t ls/\ls.length+ds.length<=4)
  (λ_ _ _ _=>AW) (ds:=NK 0 n) (E:=[Gc (.ref p),Gc t.d,Gc (.ref S.length),none]) (S:=S2)
  ⟨[],none,rfl,q2,p2.pen,Bq.app.trans (p1.trans p2).same,GB.nil,by simp[IP];exact hn⟩ (by
    rintro d ds E S0 ⟨ls,o,rfl,i1,i2,i3,i4,i5⟩
    obtain⟨x1,T1,g1,c1,d1,k1⟩:=Am i2 (n:=t.k) (by lia) (by lia)
    obtain⟨x2,T2,g2,k2,c2,d2⟩:=Lv k1.pen
    obtain⟨rs,T3,g3,k3,l3,G,G0,G1,G2⟩:=Rw k2.pen (n:=t.p) t1 t2
    obtain⟨m1,rfl⟩:=Hf c1
    have kk:=(k1.trans k2).trans k3
    have j1:T3[S.length]?=Gc (.lst (ls.map Ld.d)):=kk.get i1 (by lia)
    have hz:ls.length<sizeLine:=uU (show ls.length<5 by lia) (AJ (by decide))
    refine⟨[Gc (.ref p),Gc t.d,Gc (.ref S.length),Gc d],[Gc (.ref p),Gc t.d,Gc (.ref S.length),Gc d],T3.set S.length (.lst ((ls++[Ld.mk m1 x2 rs]).map Ld.d)),by simp,?_,ls++[Ld.mk m1 x2 rs],Gc d,rfl,uh (Ai j1),?_,?_,i4.snoc (l:=Ld.mk m1 x2 rs) ⟨show m1<t.k by lia,c2,d2,l3⟩ G0 G1 G2,by simp at i5 ⊢; lia⟩
    .have e3:atI [D.int t.p,.int t.k,.int t.b,shD t.ho,.int t.h,.int t.l] 1=Gc (.int t.k):=by simp
     simp[Tr.d,g1,g2,g3,AQ i1,AQ j1,hz,Ld.d]
    .obtain⟨ds',ed,hd⟩:=kk.pen
     exact⟨ds',by rw[uV (by lia)];exact ed,hd⟩
    .refine⟨uZ (i3.trans kk.same).len (by simp),λm hm hmp=>?_⟩
     rw[uV (by lia)]
     exact(i3.trans kk.same).keep m hm hmp)
 refine⟨ls,S',?_,⟨f3,f2⟩,f4,by simpa using f5⟩
 simp[Gu,MA,e1,e2,en,rn,ef,An f1]
noncomputable def Bw(x:Ld):Cl:=.lst [.int x.k,.int x.n,shD x.ow]
structure SAt(S:Sto)(s l m:Nat)(as:Wp Nat)(st:Stt):Prop where
 root:S[s]?=Gc (.lst [.ref l,shD st.hold,.ref m])
 lo:S[l]?=Gc (.lst (as.map .ref))
 nu:S[m]?=Gc (.lst (st.nums.map .int))
 ld:∀(i a:Nat) (x:Ld),as[i]?=Gc a->st.AA[i]?=Gc x->S[a]?=Gc (Bw x)
 len:as.length=st.AA.length
 nd:(s::l::m::as).Nodup
theorem ZQ:∀{ls:Wp Ld} {acc} {o} {S},acc.length+ls.length<=100->BZ [] (tNm 0) BI (fC (o1 Pt) [eV 0]) (ls.map Ld.d) acc [o] S=Gc (acc++(List.range' S.length ls.length).map D.ref,S++ls.map Bw)
 | [],acc,o,S,h=>by rw[wF,DA AW];simp
 |x::ls,acc,o,S,h=>by
  rw[uw,FN (E1:=[Gc x.d]) AW (uU (show acc.length<101 by simp at h;lia) (AJ (by decide))) (by simp) D0]
  have:fC (o1 Pt) [eV 0] [Gc x.d] S=Gc (.ref S.length,S++[Bw x]):=by simp[Ld.d,Bw]
  rw[this,A1,ZQ (by simp at h ⊢; lia)]
  simp[List.range'_succ]
def getElem?_at{α:Type}{xs:Wp α}{x:α}(h:n=xs.length):(xs++[x])[n]?=Gc x:=by subst h;exact uy
def OO{t:Tr}(hl:ls.length<=20):∃s l m as S',CC [.tup [t.d,.tup (ls.map Ld.d),x]] S=Gc (.ref s,S')/\SAt S' s l m as ⟨ls,t.ho,[]⟩/\Bq [] S S'/\(∀n∈s::l::m::as,S.length<=n):=by
 have e:=ZQ (ls:=ls) (acc:=[]) (o:=none) (S:=S) (by simp;lia)
 refine⟨S.length+ls.length+2,S.length+ls.length,S.length+ls.length+1,List.range' S.length ls.length,S++ls.map Bw++[.lst ((List.range' S.length ls.length).map D.ref)]++[.lst []]++[.lst [.ref (S.length+ls.length),shD t.ho,.ref (S.length+ls.length+1)]],?_,⟨?_,?_,?_,?_,?_,?_⟩,?_,?_⟩
 .simp[CC,MP,Tr.d,e,shD]
  lia
 .exact getElem?_at (by simp;lia)
 .rw[uT (by simp),uT (by simp)]
  exact getElem?_at (by simp)
 .rw[uT (by simp;lia)]
  exact getElem?_at (by simp;lia)
 .intro i a y ha hy
  have hi:i<ls.length:=(ua.mp hy).1
  have:a=S.length+i:=by
   rw[List.getElem?_range' hi]at ha
   simp at ha;lia
  subst this
  rw[uT (by simp;lia),uT (by simp;lia),uT (by simp;lia),vI (by lia)]
  have hy':ls[i]?=Gc y:=hy
  simp[hy']
 .simp
 .rw[xD,xD,xD]
  refine⟨?_,?_,?_,List.nodup_range'⟩
  .simp only[uY,zQ];lia
  .simp only[uY,zQ];lia
  .simp only[zQ];lia
 .rw[zJ,zJ,zJ]
  exact .app
 .intro n hn
  simp only[uY,zQ]at hn
  lia
section
variable{S:Sto}{p:Nat}
@[simp] def sL:sqD S (shD rs)=some (rs.map aD,[]):=rfl
@[simp] def tE:dr S (shD rs)=.val (shD rs):=rfl
@[simp] def qY:asS (.val (shD rs))=some (rs.map aD):=rfl
@[simp] def pv:dr (S++[.lst r]) (.ref S.length)=.own r:=An List.getElem?_concat_length
@[simp] def eU:Ek (S++[.lst r]) S.length=some r:=AQ List.getElem?_concat_length
def set_same(h:S[q]?=Gc c):S.set q c=S:=by
 apply AAk
 intro i
 by_cases e:q=i
 .subst e;rw[uh (Ai h),h]
 .rw[uV e]
theorem Qs{gs:Gd}{t:Tf}{b:Ex}{I:Sto->Prop}(hg:∀S,I S->gOk gs S)(hI:∀S c,I S->I (S.set q c)):∀{ds acc} {os} {S},os.length=m->I S->S[q]?=Gc (.lst acc)->acc.length+ds.length<=1000->(∀d∈ds,∀os S acc,os.length=m->I S->S[q]?=Gc (.lst acc)->acc.length<sizeLine->∃us us',t d (C++os) S=Gc (C++us)/\b (C++us) S=Gc (.nx,C++us',S.set q (.lst (acc++[h d])))/\us'.length=m)->∃os',os'.length=m/\Md gs t b ds (C++os) S=Gc (.nx,C++os',S.set q (.lst (acc++ds.map h)))
 | [],acc,os,S,ho,hS,hq,hz,H=>⟨os,ho,by
     rw[Jy (hg S hS)]
     have:S.set q (.lst (acc++List.map h []))=S:=by
      rw[wF,vt]
      exact set_same hq
     rw[this]⟩
 |d::ds,acc,os,S,ho,hS,hq,hz,H=>by
  have hl:=Ai hq
  obtain⟨us,us',e1,e2,hu⟩:=H d uk os S acc ho hS hq (uU (show acc.length<1001 by simp at hz;lia) (uZ (by decide) (show 1001<=sizeLine by decide)))
  obtain⟨os',ho',e3⟩:=Qs hg hI (ds:=ds) (acc:=acc++[h d]) (os:=us') (S:=S.set q (.lst (acc++[h d]))) hu (hI S _ hS) (uh hl) (by simp at hz ⊢; lia) λd' hd=>H d' (uW _ hd)
  refine⟨os',ho',?_⟩
  rw[EC (hg S hS),e1,A1,e2,A1,bP,e3,List.set_set]
  simp
noncomputable def un:D->Rat
 | .tup [.int n,.int d]=>(n:Rat) / (d:Rat)
 |_=>0
def dN r:un (aD r)=r:=DJ r
noncomputable def QT(f:Rat->Rat->Rat):D->D
 | .tup [a,b]=>aD (f (un a) (un b))
 |d=>d
theorem OW:∀{ss os},(NM (ss.map aD) (os.map aD)).map (QT f)=(AAC f ss os).map aD
 | [],os=>by simp[NM]
 |s::ss,[]=>by simp[NM]
 |s::ss,o::os=>by
  have ih:=OW (f:=f) (ss:=ss) (os:=os)
  unfold NM at ih⊢
  simp only[uw,List.zip_cons_cons,List.zipWith_cons_cons]at ih⊢
  rw[ih]
  simp[QT,dN]
def UO{ss os:Wp Rat}(h:d∈NM (ss.map aD) (os.map aD)):∃s∈ss,∃o∈os,d=.tup [aD s,aD o]:=by
 unfold NM at h
 obtain⟨⟨a,b⟩,h1,rfl⟩:=vS.mp h
 have h2:=wc h1
 obtain⟨s,hs,rfl⟩:=vS.mp h2.1
 obtain⟨o,ho,rfl⟩:=vS.mp h2.2
 exact⟨s,hs,o,ho,rfl⟩
theorem Y7:aD 1=.tup [.int 1,.int 1]:=rfl
def Vb(n:Int):aD (n:Rat)=.tup [.int n,.int 1]:=by
 unfold aD
 simp
def Zk{n:Int}(h:n.natAbs<2^k)(hk:1<=k):Sz k (n:Rat):=by
 unfold Sz
 have:1<2^k:=AAa (by lia)
 simp[h,this]
def ZI(hk:1<=k):Sz k (1:Rat):=by
 have:1<2^k:=AAa (by lia)
 exact⟨by simpa using this,by simpa using this⟩
def SD{ss os:Wp Rat}(hs:∀r∈ss,Sz j r)(ho:∀r∈os,Sz j r)(hx:Sz i x)(hj:2*j+2*i<=7900)(hl:ss.length<=10):∃S',EH [shD ss,aD x,shD os] S=Gc (shD (HI x os ss),S')/\Bq [] S S':=by
 have hq:(S++[Cl.lst []])[S.length]?=Gc (.lst []):=uy
 obtain⟨os',ho',e⟩:=Qs (gs:=[]) (t:=tTp [tNm 4,tNm 5]) (b:=Bo (NC Nt (eV 3) [AF BX [AF Af [eV 4,AF Dh [A9 [eC (.int 1),eC (.int 1)],eV 1]],AF Af [eV 5,eV 1]]])) (C:=[Gc (shD ss),Gc (aD x),Gc (shD os),Gc (.ref S.length)]) (m:=2) (q:=S.length) (h:=QT λs o=>s*(1-x)+o*x) (I:=λ_=>AAI) (λ_ _=>AW) (λ_ _ _=>trivial)
  (ds:=NM (ss.map aD) (os.map aD)) (acc:=[]) (os:=[none,none]) (S:=S++[Cl.lst []]) rfl trivial hq (by simp[LW];lia) (by
    intro d hd os0 S0 acc h0 _ hq0 hz
    obtain⟨o1,o2,rfl⟩:=jh h0
    obtain⟨s,hs',o,ho',rfl⟩:=UO hd
    have l1:=Yx (S:=S0) (ZI (k:=1) (by decide)) hx (by lia)
    have s1:=(fK (ZI (k:=1) (by decide)) hx)
    have l2:=Iu (S:=S0) (hs s hs') s1 (by lia)
    have l3:=Iu (S:=S0) (ho o ho') hx (by lia)
    have l4:=Pp (S:=S0) (NZ (hs s hs') s1) (NZ (ho o ho') hx) (by lia)
    rw[Y7]at l1
    refine⟨[Gc (aD s),Gc (aD o)],[Gc (aD s),Gc (aD o)],by simp,?_,rfl⟩
    simp[l1,l2,l3,l4,AQ hq0,hz,QT,dN])
 rw[OW]at e
 refine⟨(S++[Cl.lst []]).set S.length (.lst ((HI x os ss).map aD)),?_,?_⟩
 .have e':Md [] (tTp [tNm 4,tNm 5]) (Bo (NC Nt (eV 3) [AF BX [AF Af [eV 4,AF Dh [A9 [eC (.int 1),eC (.int 1)],eV 1]],AF Af [eV 5,eV 1]]])) (NM (ss.map aD) (os.map aD)) [Gc (shD ss),Gc (aD x),Gc (shD os),Gc (.ref S.length),none,none] (S++[Cl.lst []])=Gc (.nx,[Gc (shD ss),Gc (aD x),Gc (shD os),Gc (.ref S.length)]++os',(S++[Cl.lst []]).set S.length (.lst ((HI x os ss).map aD))):=by simpa[HI]using e
  simp[EH,Lg,e']
  rfl
 .refine⟨by simp,λn hn _=>?_⟩
  rw[uV (by lia),uT hn]
end
def getD_get{α:Type}{xs:Wp α}{d:α}(h:n<xs.length):xs[n]?=Gc (xs.getD n d):=by
 rw[uz,uS h]
 rfl
def getD_mem{α:Type}{xs:Wp α}{d:α}(h:n<xs.length):xs.getD n d∈xs:=uv (getD_get h)
def Vl{ss:Wp Rat}(h:n<ss.length):atI (ss.map aD) (n:Int)=Gc (aD (ss.getD n 0)):=B3 (by rw[um,getD_get h];rfl)
def Zo{ss:Wp Rat}(h:n<ss.length):ixN (ss.map aD).length (n:Int)=Gc n:=Lf (by simpa using h)
def WA(hs:∀r∈ss,Sz j r)(hx:Sz i x)(hj:2*j+i<=7900)(hp:p<ss.length)(hq:q<ss.length)(hpq:p≠q):∃S',E8 [shD ss,(AR.Fe p q x).d] S=Gc (shD (Gp p q x ss),S')/\Bq [] S S':=by
 have sp:=hs _ (getD_mem (d:=0) hp)
 have sq:=hs _ (getD_mem (d:=0) hq)
 have l1:∀S,Af [aD (ss.getD p 0),aD x] S=Gc (aD (ss.getD p 0*x),S):=λS=>Iu sp hx (by lia)
 have s1:=NZ sp hx
 have l2:∀S,Dh [aD (ss.getD p 0),aD (ss.getD p 0*x)] S=Gc (aD (ss.getD p 0-ss.getD p 0*x),S):=λS=>Yx sp s1 (by lia)
 have l3:∀S,BX [aD (ss.getD q 0),aD (ss.getD p 0*x)] S=Gc (aD (ss.getD q 0+ss.getD p 0*x),S):=λS=>Pp sq s1 (by lia)
 have a1:=Vl hp
 have i1:=Zo hp
 have i2:ixN (((ss.map aD).set p (aD (ss.getD p 0-ss.getD p 0*x))).length) (q:Int)=Gc q:=Lf (by simpa using hq)
 have a2:atI ((ss.map aD).set p (aD (ss.getD p 0-ss.getD p 0*x))) (q:Int)=Gc (aD (ss.getD q 0)):=B3 (by
  rw[uV hpq,um,getD_get hq];rfl)
 refine⟨S++[.lst ((Gp p q x ss).map aD)],?_,.app⟩
 simp only[wU,vN]at i1 i2
 have em:(Gp p q x ss).map aD=((ss.map aD).set p (aD (ss.getD p 0-ss.getD p 0*x))).set q (aD (ss.getD q 0+ss.getD p 0*x)):=by rw[Gp,yH,yH]
 unfold shD
 rw[em]
 generalize aD (ss.getD p 0-ss.getD p 0*x)=d1 at*
 generalize aD (ss.getD q 0+ss.getD p 0*x)=d2 at*
 generalize aD (ss.getD p 0*x)=d3 at*
 generalize aD (ss.getD p 0)=d4 at*
 generalize aD (ss.getD q 0)=d5 at*
 simp[E8,Nr,AR.d,a1,l1,l2,l3,i1,i2,a2]
def Ux(ha:S[a]?=Gc (Bw x))(hb:S[b]?=Gc (Bw y))(hs:∀r∈x.ow,Sz j r)(ho:∀r∈y.ow,Sz j r)(hx:x.n.natAbs<2^i)(hy:y.n.natAbs<2^i)(h0:0<x.n+y.n)(h1:1<=i)(hj:2*j+4*i<=7900)(hl:x.ow.length<=10):∃S',Ft [.ref a,.ref b] S=Gc (shD (CD x.n y.n x.ow y.ow),S')/\Bq [] S S':=by
 have la:=Ai ha
 have lb:=Ai hb
 have hq:(S++[Cl.lst []])[S.length]?=Gc (.lst []):=uy
 have ha':(S++[Cl.lst []])[a]?=Gc (Bw x):=by rw[uT la];exact ha
 have hb':(S++[Cl.lst []])[b]?=Gc (Bw y):=by rw[uT lb];exact hb
 obtain⟨os',ho',e⟩:=Qs (gs:=[]) (t:=tTp [tNm 3,tNm 4]) (b:=AN (Ay 5 (AF BX [AF Af [A9 [eOp (o2 wIx) [eV 0,eC (.int 1)],eC (.int 1)],eV 3],AF Af [A9 [eOp (o2 wIx) [eV 1,eC (.int 1)],eC (.int 1)],eV 4]]))
  (Bo (NC Nt (eV 2) [AF Af [eV 5,AF BY [eC (.int 1),eOp (o2 CN) [eOp (o2 wIx) [eV 0,eC (.int 1)],eOp (o2 wIx) [eV 1,eC (.int 1)]]]]]))) (C:=[Gc (.ref a),Gc (.ref b),Gc (.ref S.length)]) (m:=3) (q:=S.length) (h:=QT λs o=>(s*x.n+o*y.n) / (x.n+y.n:Int)) (I:=λS'=>S'[a]?=Gc (Bw x)/\S'[b]?=Gc (Bw y)) (λ_ _=>AW) (λS' c h=>⟨by rw[uV (by lia)];exact h.1,by rw[uV (by lia)];exact h.2⟩)
  (ds:=NM (x.ow.map aD) (y.ow.map aD)) (acc:=[]) (os:=[none,none,none]) (S:=S++[Cl.lst []]) rfl ⟨ha',hb'⟩ hq (by simp[LW];lia) (by
    intro d hd os0 S0 acc h0' hI hq0 hz
    obtain⟨o1,o2,o3,rfl⟩:=rC h0'
    obtain⟨s,hs',o,ho',rfl⟩:=UO hd
    have d1:=An hI.1
    have d2:=An hI.2
    have z1:=Zk hx h1
    have z2:=Zk hy h1
    have l1:=Iu (S:=S0) z1 (hs s hs') (by lia)
    have l2:=Iu (S:=S0) z2 (ho o ho') (by lia)
    have s1:=NZ z1 (hs s hs')
    have s2:=NZ z2 (ho o ho')
    have l3:=Pp (S:=S0) s1 s2 (by lia)
    have b1:=IM hx hy
    have l4:=Xh (S:=S0) (t:=1) h0 (C9 b1 (by lia))
    have s4:Sz (i+1) (((1:Int):Rat) / ((x.n+y.n:Int):Rat)):=Nk h0 (show(1:Int).natAbs<2^(i+1)from AAa (by lia)) b1
    have l5:=Iu (S:=S0) (jQ s1 s2) s4 (by lia)
    rw[Vb]at l1 l2
    refine⟨[Gc (aD s),Gc (aD o),o3],[Gc (aD s),Gc (aD o),Gc (aD (x.n*s+y.n*o))],by simp,?_,rfl⟩
    have ev:(((x.n:Rat)*s+(y.n:Rat)*o)*(((1:Int):Rat) / ((x.n+y.n:Int):Rat)))=(s*x.n+o*y.n) / (x.n+y.n:Int):=by
     push_cast
     grind
    rw[ev]at l5
    have lf:(QT λs o=>(s*x.n+o*y.n) / (x.n+y.n:Int)) (.tup [aD s,aD o])=aD ((s*x.n+o*y.n) / (x.n+y.n:Int)):=by simp only[QT,dN]
    rw[lf]
    generalize aD ((s*x.n+o*y.n) / (x.n+y.n:Int))=e5 at*
    generalize aD (((1:Int):Rat) / ((x.n+y.n:Int):Rat))=e4 at*
    generalize aD (x.n*s+y.n*o)=e3 at*
    simp[d1,d2,Bw,l1,l2,l3,l4,l5,AQ hq0,hz])
 rw[OW]at e
 refine⟨(S++[Cl.lst []]).set S.length (.lst ((CD x.n y.n x.ow y.ow).map aD)),?_,?_⟩
 .have e':=e
  simp only[vU,vK]at e'
  have d1:=An ha'
  have d2:=An hb'
  change Md _ _ _ _ _ _=Gc (_,_,List.set _ _ (Cl.lst (List.map aD (CD x.n y.n x.ow y.ow))))at e'
  generalize CD x.n y.n x.ow y.ow=rs at*
  simp[Ft,K4,d1,d2,e',shD]
 .refine⟨by simp,λn hn _=>?_⟩
  rw[uV (by lia),uT hn]
theorem EN{α:Type}{gs:Gd}{t:Tf}{f:Ev}{C:En}{m:Nat}{e g:α->D}(hg:gOk gs S):∀{xs:Wp α} {acc} {os},os.length=m->acc.length+xs.length<=sizeLine->(∀x∈xs,∀os,os.length=m->∃us,us.length=m/\t (e x) (C++os) S=Gc (C++us)/\f (C++us) S=Gc (g x,S))->BZ gs t BI f (xs.map e) acc (C++os) S=Gc (acc++xs.map g,S)
 | [],acc,os,ho,hz,h=>by rw[wF,DA hg];simp
 |x::xs,acc,os,ho,hz,h=>by
  obtain⟨us,hu,e1,e2⟩:=h x uk os ho
  rw[uw,FN hg (by simp at hz;lia) e1 D0,e2,A1]
  rw[EN hg hu (by simp at hz ⊢; lia) λx' hx=>h x' (uW _ hx)]
  simp
theorem EY{α:Type}{gs:Gd}{t:Tf}{c f:Ev}{C:En}{m:Nat}{e g:α->D}{b:α->vZ}{S:Sto}(hg:gOk gs S):∀{xs:Wp α} {acc} {os},os.length=m->acc.length+xs.length<=sizeLine->(∀x∈xs,∀os,os.length=m->∃us,us.length=m/\t (e x) (C++os) S=Gc (C++us)/\c (C++us) S=Gc (.bl (b x),S)/\f (C++us) S=Gc (g x,S))->BZ gs t c f (xs.map e) acc (C++os) S=Gc (acc++(xs.filter b).map g,S)
 | [],acc,os,ho,hz,h=>by rw[wF,DA hg];simp
 |x::xs,acc,os,ho,hz,h=>by
  obtain⟨us,hu,e1,e2,e3⟩:=h x uk os ho
  cases hb:b x with
  |true=>
   rw[hb]at e2
   rw[uw,FN hg (by simp at hz;lia) e1 e2,e3,A1,EY hg hu (by simp at hz ⊢; lia) λd' hd=>h d' (uW _ hd)]
   simp[hb]
  |false=>
   rw[hb]at e2
   rw[uw,JL hg (by simp at hz;lia) e1 e2,EY hg hu (by simp at hz ⊢; lia) λd' hd=>h d' (uW _ hd)]
   simp[hb]
def R1{as:Wp Nat}{ls:Wp Ld}(h:as.length=ls.length):as.map D.ref=(as.zip ls).map λz=>D.ref z.1:=by
 have:as=(as.zip ls).map Prod.fst:=(List.map_fst_zip (by lia)).symm
 conv=>lhs;rw[this]
 rw[wC];rfl
def Uy{β:Type}{as:Wp Nat}(h:as.length=ls.length)(g:Ld->β):ls.map g=(as.zip ls).map λz=>g z.2:=by
 have:ls=(as.zip ls).map Prod.snd:=(List.map_snd_zip (by lia)).symm
 conv=>lhs;rw[this]
 rw[wC];rfl
section
variable{st:Stt}
def SAt.qS(h:SAt S s l m as st)(hz:z∈as.zip st.AA):S[z.1]?=Gc (Bw z.2):=by
 obtain⟨i,hi⟩:=xV.mp hz
 have:=yk.mp hi
 exact h.ld i z.1 z.2 this.1 this.2
def SAt.at(h:SAt S s l m as st)(hi:i<st.AA.length):∃a,as[i]?=Gc a/\S[a]?=Gc (Bw (AL st.AA i))/\atI (as.map D.ref) (i:Int)=Gc (.ref a):=by
 have h1:i<as.length:=by rw[h.len];exact hi
 refine⟨as[i],uS h1,h.ld i _ _ (uS h1) (EL hi),B3 (by rw[um,uS h1];rfl)⟩
def SAt.guard(h:SAt S s l m as st):gOk [(l,as.map D.ref)] S:=by
 intro g hg
 simp only[uY,uu,ve]at hg
 subst hg
 exact AQ h.lo
end
theorem WZ(hM:0<=M):∀{xs:Wp Int},(∀x∈xs,0<=x/\x<=M)->0<=xs.sum/\xs.sum<=xs.length*M
 | [],_=>by simp
 |x::xs,h=>by
  have h1:=h x uk
  have h2:=WZ hM λy hy=>h y (uW _ hy)
  simp only[wu,vG]
  refine⟨by lia,?_⟩
  have:((xs.length+1:Nat):Int)*M=xs.length*M+M:=by push_cast;grind
  lia
theorem NP:∀{xs:Wp Int} {y},(∀x∈xs,0<=x)->y∈xs->y<=xs.sum
 |x::xs,y,h,hy=>by
  have h1:=h x uk
  have h2:0<=xs.sum:=by
   clear hy
   induction xs with
   |nil=>simp
   |cons z zs ih=>
    have:=h z (by simp)
    have:=ih λw hw=>h w (by simp at hw ⊢; rcases hw with hw|hw<;>simp[hw])
    simp only[wu];lia
  simp only[wu]
  rcases uY.mp hy with e|e
  .lia
  .have:=NP (λz hz=>h z (uW _ hz)) e
   lia
section
variable{k:Nat}{st:Stt}{ws:Wp Int}
def MX(hw:∀w∈ws,1<=w/\w<=99)(hi:i<ws.length):1<=ws.getD i 0/\ws.getD i 0<=99:=hw _ (getD_mem hi)
def RZ(hi:i<ws.length):atI (ws.map D.int) (i:Int)=Gc (.int (ws.getD i 0)):=B3 (by rw[um,getD_get hi];rfl)
def OX(hi:ws.length=k+1):atI (ws.map D.int) (-1:Int)=Gc (.int (ws.getD k 0)):=by
 have ix:ixN (ws.map D.int).length (-1)=Gc k:=by
  rw[vN,hi]
  unfold ixN
  simp
  lia
 unfold atI
 rw[ix]
 show(ws.map D.int)[k]?=_
 rw[um,getD_get (d:=(0:Int)) (by lia)]
 rfl
def Jd(ht:Hn t)(h:FC t k st)(hk:k<=24)(hl:ws.length=t.k+1)(hw:∀w∈ws,1<=w/\w<=99):0<Ef t st.AA ws/\Ef t st.AA ws<2^(145+k):=by
 obtain⟨t1,t2,t3,t4,t5,t6⟩:=ht
 have hP:(0:Int)<=2^(131+k):=zH (Int.pow_pos (by decide))
 have hs:=WZ (M:=2^(131+k)*99) (by lia) (xs:=st.AA.map λl=>l.n*ws.getD l.k 0) (by
  intro x hx
  obtain⟨y,hy,rfl⟩:=vS.mp hx
  have h1:=h.pcs y hy
  have h2:=MX hw (i:=y.k) (by have:=h.kind y hy;lia)
  refine⟨Int.mul_nonneg h1.1 (by lia),Int.mul_le_mul (by lia) h2.2 (by lia) hP⟩)
 have hb:=MX hw (i:=t.k) (by lia)
 have hlen:=h.len
 rw[vN]at hs
 have h3:(st.AA.length:Int)*(2^(131+k)*99)<=30*(2^(131+k)*99):=zd (by lia) (by lia)
 have h4:(1:Int)<=t.b*ws.getD t.k 0:=by
  have:0<(t.b:Int)*ws.getD t.k 0:=vy (by lia) (by lia)
  lia
 have h5:t.b*ws.getD t.k 0<=20*99:=Int.mul_le_mul (by lia) hb.2 (by lia) (by decide)
 have h6:(2:Int)^(145+k)=2^(131+k)*16384:=by rw[show 145+k=(131+k)+14 by lia,Int.pow_add];rfl
 have h7:(1:Int)<=2^(131+k):=by have:(0:Int)<2^(131+k):=Int.pow_pos (by decide);lia
 have h7':(2:Int)^11<=2^(131+k):=by
  have:(2^11:Nat)<=2^(131+k):=vM (by decide) (by lia)
  exact_mod_cast this
 unfold Ef
 rw[h6]
 generalize (2:Int)^(131+k)=P at*
 exact⟨Int.add_pos_of_nonneg_of_pos hs.1 (yI (by decide) h4),AAb (Int.add_le_add (Int.le_trans hs.2 h3) h5) (by clear h3 hs h4 h5 h6;lia)⟩
def V8(ht:Hn t)(h:FC t k st)(hl:ws.length=t.k+1)(hw:∀w∈ws,1<=w/\w<=99)(hi:l<st.AA.length)(h1:1<=n)(h2:n<=(AL st.AA l).n):0<n*ws.getD (AL st.AA l).k 0/\n*ws.getD (AL st.AA l).k 0<Ef t st.AA ws:=by
 obtain⟨t1,t2,t3,t4,t5,t6⟩:=ht
 have hw1:=MX hw (i:=(AL st.AA l).k) (by have:=h.kind _ (Ao hi);lia)
 have hb:=MX hw (i:=t.k) (by lia)
 have h4:(1:Int)<=t.b*ws.getD t.k 0:=by
  have:0<(t.b:Int)*ws.getD t.k 0:=vy (by lia) (by lia)
  lia
 have h5:=NP (xs:=st.AA.map λl=>l.n*ws.getD l.k 0) (y:=(AL st.AA l).n*ws.getD (AL st.AA l).k 0) (by
  intro x hx
  obtain⟨y,hy,rfl⟩:=vS.mp hx
  have h1:=h.pcs y hy
  have h2:=MX hw (i:=y.k) (by have:=h.kind y hy;lia)
  exact Int.mul_nonneg h1.1 (by lia)) (vS.mpr ⟨_,Ao hi,rfl⟩)
 have h6:n*ws.getD (AL st.AA l).k 0<=(AL st.AA l).n*ws.getD (AL st.AA l).k 0:=zd h2 (by lia)
 refine⟨vy (by lia) (by lia),?_⟩
 exact AAb (Int.le_trans h6 h5) (Int.lt_add_of_pos_right _ (yI Int.zero_lt_one h4))
def LQ(hi:l<st.AA.length):Iv t st.AA l n ws=((n*ws.getD (AL st.AA l).k 0:Int):Rat) / (Ef t st.AA ws:Rat):=by
 unfold Iv
 rw[EL hi]
 rfl
def F1{x:Int}(h0:0<=x)(h1:x<2^j):x.natAbs<2^j:=by
 have:((x.natAbs:Nat):Int)<((2^j:Nat):Int):=by
  rw[Int.natAbs_of_nonneg h0];push_cast;exact h1
 exact_mod_cast this
def Ud(ht:Hn t)(h:FC t k st)(hk:k<=24)(hl:ws.length=t.k+1)(hw:∀w∈ws,1<=w/\w<=99)(hi:l<st.AA.length)(h1:1<=n)(h2:n<=(AL st.AA l).n):Sz (145+k) (Iv t st.AA l n ws):=by
 have a:=Jd ht h (by lia) hl hw
 have b:=V8 ht h hl hw hi h1 h2
 rw[LQ hi]
 exact Nk a.1 (F1 (by lia) (by lia)) (F1 (by lia) a.2)
def bO(hS:SAt S s r m as st)(ht:Hn t)(h:FC t k st)(hk:k<=20)(hl:ws.length=t.k+1)(hw:∀w∈ws,1<=w/\w<=99)(hi:l<st.AA.length)(h1:1<=n)(h2:n<=(AL st.AA l).n):IG [t.d,.ref r,(AR.thr l n ws).d] S=Gc (aD (Iv t st.AA l n ws),S):=by
 have a:=Jd ht h (by lia) hl hw
 obtain⟨x,x1,x2,x3⟩:=hS.at hi
 have hlen:=h.len
 have e:=EN (gs:=[(r,as.map D.ref)]) (t:=tTp [tNm 1,tNm 2,tNm 3]) (f:=eOp (o2 B5) [eV 2,eOp (o2 wIx) [eV 0,eV 1]]) (C:=[Gc (.tup (ws.map D.int))]) (m:=3) (e:=λz:Nat×Ld=>D.ref z.1) (g:=λz=>D.int (z.2.n*ws.getD z.2.k 0)) hS.guard (xs:=as.zip st.AA) (acc:=[]) (os:=[none,none,none]) rfl (uZ (show _<=50 by simp;lia) (AJ (by decide))) (by
  intro z hz os ho
  obtain⟨q1,q2,q3,rfl⟩:=rC ho
  have c1:=hS.qS hz
  have hm:z.2∈st.AA:=(wc (a:=z.1) (b:=z.2) hz).2
  have hk:=h.kind _ hm
  have w1:=RZ (ws:=ws) (i:=z.2.k) (by lia)
  have w2:=MX hw (i:=z.2.k) (by lia)
  have m1:Dj z.2.n (ws.getD z.2.k 0)=true:=mulR (by lia) (by lia)
  generalize ws.getD z.2.k 0=wz at*
  refine⟨[Gc (.int z.2.k),Gc (.int z.2.n),Gc (shD z.2.ow)],rfl,?_,?_⟩
  .simp[AQ c1,Bw]
  .simp[w1,m1])
 rw[<-R1 hS.len,<-Uy hS.len (λx=>D.int (x.n*ws.getD x.k 0))]at e
 have e':=e
 simp only[vU,vK]at e'
 rw[LQ hi]
 have es:LF (st.AA.map λx=>D.int (x.n*ws.getD x.k 0))=Gc (st.AA.map λx=>x.n*ws.getD x.k 0):=by
  have:=GQ (st.AA.map λx=>x.n*ws.getD x.k 0)
  rwa [wC]at this
 have w1:=RZ (ws:=ws) (i:=(AL st.AA l).k) (by have:=h.kind _ (Ao hi);lia)
 have w3:=MX hw (i:=(AL st.AA l).k) (by have:=h.kind _ (Ao hi);lia)
 have w2:=OX hl
 have w4:=MX hw (i:=t.k) (by lia)
 have m1:Dj n (ws.getD (AL st.AA l).k 0)=true:=mulR (by lia) (by lia)
 have m2:Dj (t.b:Int) (ws.getD t.k 0)=true:=mulR (by lia) (by lia)
 have l1:=Xh (S:=S) (t:=n*ws.getD (AL st.AA l).k 0) a.1 (C9 (F1 (by lia) a.2) (by lia))
 have e2:Ef t st.AA ws=(st.AA.map λx=>x.n*ws.getD x.k 0).sum+t.b*ws.getD t.k 0:=rfl
 rw[e2]at l1⊢
 generalize aD (((n*ws.getD (AL st.AA l).k 0:Int):Rat) / (((st.AA.map λx=>x.n*ws.getD x.k 0).sum+t.b*ws.getD t.k 0:Int):Rat))=R at*
 generalize (st.AA.map λx=>x.n*ws.getD x.k 0)=es' at*
 generalize (st.AA.map λx=>D.int (x.n*ws.getD x.k 0))=es2 at*
 generalize ws.getD (AL st.AA l).k 0=wa at*
 generalize ws.getD t.k 0=wb at*
 have dx:=An x2
 have dl:=An hS.lo
 simp[IG,Np,AR.d,Tr.d,JT hS.lo,e',es,w2,m2,dl,x3,dx,Bw,w1,m1,l1]
def VX(ht:Hn t)(h:FC t k st)(hk:k<=24)(hl:ws.length=t.k+1)(hw:∀w∈ws,1<=w/\w<=99)(hi:l<st.AA.length)(h1:1<=n)(h2:n<=(AL st.AA l).n){os ss:Wp Rat}(ho:∀r∈os,Ok G B r)(hs:∀r∈ss,Ok G B r):∀r∈HI (Iv t st.AA l n ws) os ss,Ok (G*(Ef t st.AA ws).toNat) (B*(Ef t st.AA ws).toNat) r:=by
 have a:=Jd ht h (by lia) hl hw
 have b:=V8 ht h hl hw hi h1 h2
 intro r hr
 unfold HI at hr
 rw[xV]at hr
 obtain⟨i,hi'⟩:=hr
 rw[zp]at hi'
 obtain⟨x,y,hx,hy,rfl⟩:=hi'
 rw[LQ hi]
 generalize n*ws.getD (AL st.AA l).k 0=c at*
 generalize Ef t st.AA ws=W at*
 have:=Ok.mix (a:=(W-c).toNat) (b:=c.toNat) (t:=W.toNat) (hs x (uv hx)) (ho y (uv hy)) (by rw[<-Int.toNat_add (Int.sub_nonneg_of_le (zH b.2)) (zH b.1),Int.sub_add_cancel]) (Int.pos_iff_toNat_pos.mp a.1)
 have e1:(((W-c).toNat:Nat):Rat)=(W:Rat)-(c:Rat):=by
  have:(((W-c).toNat:Nat):Int)=W-c:=vd (by lia)
  have:((((W-c).toNat:Nat):Int):Rat)=((W-c:Int):Rat):=by rw[this]
  push_cast at this
  exact this
 have e2:((c.toNat:Nat):Rat)=(c:Rat):=by
  have:((c.toNat:Nat):Int)=c:=vd (by lia)
  have:(((c.toNat:Nat):Int):Rat)=(c:Rat):=by rw[this]
  exact this
 have e3:((W.toNat:Nat):Rat)=(W:Rat):=by
  have:((W.toNat:Nat):Int)=W:=vd (by lia)
  have:(((W.toNat:Nat):Int):Rat)=(W:Rat):=by rw[this]
  exact this
 rw[e1,e2,e3]at this
 have ne:(W:Rat)≠0:=by
  intro z
  have:=yC.mp z
  lia
 have ev:(x*((W:Rat)-(c:Rat))+y*(c:Rat)) / (W:Rat)=x*(1-(c:Rat) / (W:Rat))+y*((c:Rat) / (W:Rat)):=by grind
 rw[ev]at this
 exact this
end
def aB(h:yR x=true)(g:yR y=true):OP (.str x) (.str y)=true:=by
 unfold OP
 show(yR x && yR y && _)=true
 rw[h,g]
 rfl
def eG(c:Char):c.toNat<1114112:=by
 have h:c.toNat.isValidChar:=c.valid
 rcases h with h|h
 .exact Nat.lt_trans h (by decide)
 .exact h.2
def N0:yR (u7 x)=true:=by
 unfold yR u7
 simp
 intro c hc
 rw[cpsOfBytes_string]at hc
 obtain⟨ch,_,rfl⟩:=vS.mp hc
 exact eG ch
theorem PD:∀{a b:Wp Char},a.map Char.toNat=b.map Char.toNat->a=b
 | [],[],_=>rfl
 |x::a,y::b,h=>by
  rw[uw,uw]at h
  injection h with h1 h2
  rw[Char.toNat_inj.mp h1,PD h2]
 | [],_::_,h=>nomatch h
 |_::_,[],h=>nomatch h
def dy(h:u7 x=u7 y):x=y:=by
 rw[ABF,ABF]at h
 injection h with h
 exact String.toList_inj.mp (PD (by simpa using h))
@[simp] def uM(x y:String):OP (.str (Str.ofString x)) (.str (Str.ofString y))=true:=aB N0 N0
@[simp] def t9(x y:String):deq (.str (Str.ofString x)) (.str (Str.ofString y))=decide (x=y):=by
  show(u7 x==u7 y)=_
  rw[we,wI,vV]
  exact⟨dy,λz=>by rw[z]⟩
@[simp] def Y4:wIn false (.val (.str "bring")) (.val (.tup [.str "swap",.str "trade"]))=some (.val (.bl false)):=rfl
@[simp] def XI:wIn false (.val (.str "bring")) (.val (.tup [.str "spoil",.str "throw"]))=some (.val (.bl false)):=rfl
@[simp] def qd:wIn false (.val (.str "pool")) (.val BS)=some (.val (.bl true)):=rfl
@[simp] def cE:wIn false (.val (.str "swap")) (.val (.tup [.str "swap",.str "trade"]))=some (.val (.bl true)):=rfl
@[simp] def qe:wIn false (.val (.str "swap")) (.val BS)=some (.val (.bl true)):=rfl
@[simp] def Zf:wIn false (.val (.str "trade")) (.val (.tup [.str "swap",.str "trade"]))=some (.val (.bl true)):=rfl
@[simp] def mv:wIn false (.val (.str "trade")) (.val BS)=some (.val (.bl true)):=rfl
@[simp] def ZS:wIn false (.val (.str "spoil")) (.val (.tup [.str "swap",.str "trade"]))=some (.val (.bl false)):=rfl
@[simp] def YH:wIn false (.val (.str "spoil")) (.val (.tup [.str "spoil",.str "throw"]))=some (.val (.bl true)):=rfl
@[simp] def qC:wIn false (.val (.str "spoil")) (.val BS)=some (.val (.bl false)):=rfl
@[simp] def Zm:wIn false (.val (.str "throw")) (.val (.tup [.str "swap",.str "trade"]))=some (.val (.bl false)):=rfl
@[simp] def Xl:wIn false (.val (.str "throw")) (.val (.tup [.str "spoil",.str "throw"]))=some (.val (.bl true)):=rfl
@[simp] def nj:wIn false (.val (.str "throw")) (.val BS)=some (.val (.bl false)):=rfl
@[simp] def cA:wIn false (.val (.str "sell")) (.val (.tup [.str "swap",.str "trade"]))=some (.val (.bl false)):=rfl
@[simp] def ZK:wIn false (.val (.str "sell")) (.val (.tup [.str "spoil",.str "throw"]))=some (.val (.bl false)):=rfl
@[simp] def rG:wIn false (.val (.str "sell")) (.val BS)=some (.val (.bl false)):=rfl
@[simp] def kG:dr S BS=.val BS:=rfl
section
variable{a b c d e f:D}
@[simp] def mC:IU [a,b,c,d,e] (some (-4)) none=[b,c,d,e]:=rfl
@[simp] def ku:IU [a,b,c,d,e,f] (some (-4)) none=[c,d,e,f]:=rfl
@[simp] def pw:IU [a,b,c,d] (some 1) none=[b,c,d]:=rfl
@[simp] def lH:IU [a,b,c,d,e] (some 1) (some 2)=[b]:=rfl
@[simp] def kc:IU [a,b,c,d,e,f] (some 1) (some 2)=[b]:=rfl
@[simp] def mK:lh S ds [.tup zs]=if ds.length+zs.length<=sizeLine then some (.non,ds++zs)else none:=rfl
end
theorem SAt.same(h:SAt S s l m as st)(g:Bq A S S')(hA:∀n∈A,n∉s::l::m::as):SAt S' s l m as st where
 root:=g.get h.root λz=>hA _ z (by simp)
 lo:=g.get h.lo λz=>hA _ z (by simp)
 nu:=g.get h.nu λz=>hA _ z (by simp)
 ld:=λi a x ha hx=>g.get (h.ld i a x ha hx) λz=>hA _ z (by simp[uv ha])
 len:=h.len
 nd:=h.nd
def SAt.Vi(h:SAt S s l m as st)(g:Bq [] S S'):SAt S' s l m as st:=h.same g λ_ z=>(nomatch z)
def SAt.ne(h:SAt S s l m as st):s≠l/\s≠m/\l≠m/\s∉as/\l∉as/\m∉as/\as.Nodup:=by
 have:=h.nd
 simp only[xD,uY,AAo]at this
 obtain⟨⟨a,b,c⟩,⟨d,e⟩,f,g⟩:=this
 exact⟨a,b,d,c,e,f,g⟩
def SAt.Qp(h:SAt S s l m as st)(ha:as[i]?=Gc a):SAt (S.set a (Bw y)) s l m as {st with AA:=st.AA.set i y}:=by
 obtain⟨n1,n2,n3,n4,n5,n6,n7⟩:=h.ne
 have ma:=uv ha
 have q1:a≠s:=λe=>n4 (e▸ma)
 have q2:a≠l:=λe=>n5 (e▸ma)
 have q3:a≠m:=λe=>n6 (e▸ma)
 have hi:i<as.length:=(ua.mp ha).1
 have hi':i<st.AA.length:=by rw[<-h.len];exact hi
 refine⟨by rw[uV q1];exact h.root,by rw[uV q2];exact h.lo,by rw[uV q3];exact h.nu,?_,by simp[h.len],h.nd⟩
 intro j b x hb hx
 by_cases e:i=j
 .subst e
  rw[ha]at hb
  cases hb
  have hx':(st.AA.set i y)[i]?=Gc x:=hx
  rw[uh hi']at hx'
  cases hx'
  have hl:a<S.length:=Ai (h.ld i a _ ha (uS hi'))
  exact uh hl
 .have hx':(st.AA.set i y)[j]?=Gc x:=hx
  rw[uV e]at hx'
  have:a≠b:=by
   intro z
   subst z
   exact e ((yW hi n7).mp (ha.trans hb.symm))
  rw[uV this]
  exact h.ld j b x hb hx'
def SAt.lts(h:SAt S s l m as st):∀n∈s::l::m::as,n<S.length:=by
 intro n hn
 simp only[uY]at hn
 rcases hn with rfl|rfl|rfl|hn
 .exact Ai h.root
 .exact Ai h.lo
 .exact Ai h.nu
 .obtain⟨i,hi⟩:=xV.mp hn
  have:i<st.AA.length:=by rw[<-h.len];exact(ua.mp hi).1
  exact Ai (h.ld i n _ hi (uS this))
def SAt.app(h:SAt S s l m as st) y:SAt ((S++[Bw y]).set l (.lst (as.map D.ref++[.ref S.length]))) s l m (as++[S.length]) {st with AA:=st.AA++[y]}:=by
 obtain⟨n1,n2,n3,n4,n5,n6,n7⟩:=h.ne
 have lt:=h.lts
 have ls:=lt s (by simp);have ll:=lt l (by simp);have lm:=lt m (by simp)
 have la:∀a∈as,a<S.length:=λa ha=>lt a (by simp[ha])
 refine⟨?_,?_,?_,?_,by simp[h.len],?_⟩
 .rw[uV (vh n1),uT ls];exact h.root
 .rw[uh (by simp;lia)];simp
 .rw[uV n3,uT lm];exact h.nu
 .intro i a x ha hx
  by_cases e:i<as.length
  .rw[uT e]at ha
   have hx':(st.AA++[y])[i]?=Gc x:=hx
   rw[uT (by rw[<-h.len];exact e)]at hx'
   have ma:=uv ha
   rw[uV (show l≠a by rintro rfl;exact n5 ma),uT (la a ma)]
   exact h.ld i a x ha hx'
  .have hx':(st.AA++[y])[i]?=Gc x:=hx
   have:i=as.length:=by
    have:=(ua.mp ha).1
    simp at this;lia
   subst this
   rw[uy]at ha
   cases ha
   rw[h.len,uy]at hx'
   cases hx'
   rw[uV (by lia),uy]
 .have:(s::l::m::(as++[S.length]))=(s::l::m::as)++[S.length]:=by simp
  rw[this,yX]
  refine⟨h.nd,by simp,?_⟩
  intro a ha b hb e
  simp only[uY,uu,ve]at hb
  have:=lt a ha
  lia
def SAt.hold(h:SAt S s l m as st) rs:SAt (S.set s (.lst [.ref l,shD rs,.ref m])) s l m as {st with hold:=rs}:=by
 obtain⟨n1,n2,n3,n4,n5,n6,n7⟩:=h.ne
 refine⟨uh (h.lts s (by simp)),by rw[uV n1];exact h.lo,by rw[uV n2];exact h.nu,?_,h.len,h.nd⟩
 intro i a x ha hx
 rw[uV (show s≠a by rintro rfl;exact n4 (uv ha))]
 exact h.ld i a x ha hx
def SAt.nums(h:SAt S s l m as st) us:SAt (S.set m (.lst (us.map D.int))) s l m as {st with nums:=us}:=by
 obtain⟨n1,n2,n3,n4,n5,n6,n7⟩:=h.ne
 refine⟨by rw[uV (vh n2)];exact h.root,by rw[uV (vh n3)];exact h.lo,uh (h.lts m (by simp)),?_,h.len,h.nd⟩
 intro i a x ha hx
 rw[uV (show m≠a by rintro rfl;exact n6 (uv ha))]
 exact h.ld i a x ha hx
def O6{C:En}(h:SAt S s l m as st)(hi:C.length=i8)(hb:∀S' a x,x∈st.AA->S'[a]?=Gc (Bw x)->∃S2,body (C++[Gc (.ref a)]) S'=Gc (.nx,C++[Gc (.ref a)],S2.set a (Bw (f x)))/\Bq [] S' S2):∃o S',Md [(l,as.map D.ref)] (tNm i8) body (as.map D.ref) (C++[o0]) S=Gc (.nx,C++[o],S')/\SAt S' s l m as {st with AA:=st.AA.map f}/\Bq as S S':=by
 obtain⟨E',S',e,i,o,i1,i2,rfl,i3,i4⟩:=Gn (gs:=[(l,as.map D.ref)]) (t:=tNm i8) (b:=body)
  (I:=λds E S'=>∃(i:Nat) (o:uR D),ds=(as.drop i).map D.ref/\i<=as.length/\E=C++[o]/\SAt S' s l m as {st with AA:=(st.AA.take i).map f++st.AA.drop i}/\Bq as S S')
  (λds E S' hI=>by obtain⟨i,o,_,_,_,h1,_⟩:=hI;exact h1.guard) (ds:=as.map D.ref) (E:=C++[o0]) (S:=S)
  ⟨0,o0,by simp,wL _,rfl,by simpa using h,.refl⟩ (by
    rintro d ds E S1 ⟨i,o,i1,i2,rfl,i3,i4⟩
    have hlt:i<as.length:=by
     rcases xo i as.length with w|w
     .exact w
     .rw[vz w]at i1;cases i1
    rw[vP hlt,uw]at i1
    injection i1 with e1 e2
    subst e1 e2
    have hl2:i<st.AA.length:=by rw[<-h.len];exact hlt
    have ha:=uS hlt
    have hx:((st.AA.take i).map f++st.AA.drop i)[i]?=Gc st.AA[i]:=by
     rw[vI (by simp;lia)]
     simp[yL (yd hl2)]
    obtain⟨S2,e3,g3⟩:=hb S1 as[i] st.AA[i] (yD hl2) (i3.ld i _ _ ha hx)
    have k:=(i3.Vi g3).Qp (y:=f st.AA[i]) ha
    refine⟨C++[Gc (.ref as[i])],C++[Gc (.ref as[i])],S2.set as[i] (Bw (f st.AA[i])),?_,e3,i+1,Gc (.ref as[i]),rfl,hlt,rfl,?_,?_⟩
    .rw[dg]
     congr 1
     subst hi
     rw[ABU _ _ (uc _)]
     simp
    .have:((st.AA.take i).map f++st.AA.drop i).set i (f st.AA[i])=(st.AA.take (i+1)).map f++st.AA.drop (i+1):=by
      rw[ABU _ _ (by simp;lia)]
      have e0:i-((st.AA.take i).map f).length=0:=by simp;lia
      rw[e0,vP hl2,List.set_cons_zero,List.take_succ_eq_append_getElem hl2,wV]
      simp
     rw[<-this]
     exact k
    .exact(i4.trans (g3.mono λ_ z=>(nomatch z))).trans (.set (yD hlt)))
 refine⟨o,S',e,?_,i4⟩
 have hz:i=as.length:=by
  have:=congrArg ya i1
  simp at this
  lia
 have:(st.AA.take i).map f++st.AA.drop i=st.AA.map f:=by
  rw[hz,h.len];simp
 rw[this]at i3
 exact i3
section
variable{st:Stt}
def bM(hi:i<st.AA.length)(h:∀x∈st.AA,∀r∈x.ow,Sz j r):∀x∈less st.AA i n,∀r∈x.ow,Sz j r:=by
 intro x hx
 rcases Od hx hi with h1|h1
 .exact h x h1
 .rw[h1];exact h (AL st.AA i) (Ao hi)
def Uw(hi:i<st.AA.length)(h:∀x∈st.AA,x.ow.length=j):∀x∈less st.AA i n,x.ow.length=j:=by
 intro x hx
 rcases Od hx hi with h1|h1
 .exact h x h1
 .rw[h1];exact h (AL st.AA i) (Ao hi)
def YY(hS:SAt S s l m as st)(ht:Hn t)(h:FC t k st)(hk:k<=20)(hc:Can t st (.thr i n ws)):∃S',FA [t.d,.ref s,(AR.thr i n ws).d] S=Gc (.non,S')/\SAt S' s l m as (step t st (.thr i n ws))/\Bq (s::l::m::as) S S':=by
 obtain⟨hi,h1,h2,hl,hw⟩:=hc
 have cO:=bO hS ht h (by lia) hl hw hi h1 h2
 have cz:=Ud ht h (by lia) hl hw hi h1 h2
 have sz:=h.sz
 obtain⟨a,a1,a2,a3⟩:=hS.at hi
 have hS1:=hS.Qp (y:=⟨(AL st.AA i).k,(AL st.AA i).n-n,(AL st.AA i).ow⟩) a1
 have o1:=sz.1 _ (Ao hi)
 have tp:=ht.2.1
 have hdef:step t st (.thr i n ws)={st with AA:=(less st.AA i n).map λx=>{x with ow:=HI (Iv t st.AA i n ws) (AL st.AA i).ow x.ow},hold:=HI (Iv t st.AA i n ws) (AL st.AA i).ow st.hold}:=rfl
 rw[hdef]
 generalize hX:Iv t st.AA i n ws=X at*
 obtain⟨o,S2,f1,f2,f3⟩:=O6 (f:=λx=>{x with ow:=HI X (AL st.AA i).ow x.ow}) (body:=Mq (AF EH [eOp (o2 wIx) [eV 8,eC (.int 2)],eV 6,eV 7]) (eV 8) (eC (.int 2))) (C:=[Gc t.d,Gc (.ref s),Gc (AR.thr i n ws).d,Gc (.ref l),Gc (shD st.hold),Gc (.ref m),Gc (aD X),Gc (shD (AL st.AA i).ow)]) (i8:=8) (o0:=none) hS1 rfl (by
  intro S' b x hx hb
  obtain⟨S2,e2,g2⟩:=SD (S:=S') (x:=X) (ss:=x.ow) (os:=(AL st.AA i).ow) (j:=30+170*k) (i:=145+k) (bM (n:=n) hi sz.1 x hx) o1 cz (by lia) (by rw[Uw (n:=n) hi h.own x hx];lia)
  have hb2:=g2.get hb (by simp)
  refine⟨S2,?_,g2⟩
  simp[An hb,Bw,e2,AQ hb2])
 obtain⟨S3,e3,g3⟩:=SD (S:=S2) (x:=X) (ss:=st.hold) (os:=(AL st.AA i).ow) (j:=30+170*k) (i:=145+k) sz.2 o1 cz (by lia) (by rw[h.hold];lia)
 have f4:=(f2.Vi g3)
 have rt:=f4.root
 refine⟨S3.set s (.lst [.ref l,shD (HI X (AL st.AA i).ow st.hold),.ref m]),?_,f4.hold _,?_⟩
 .have f1':=f1
  simp only[vU,vK]at f1'
  have rt':Ek S3 s=Gc [.ref l,shD st.hold,.ref m]:=AQ rt
  have r0:=AQ hS.root
  have lo:=An hS.lo
  have xx:=An a2
  have c2:=AQ a2
  have sq1:=JT hS1.lo
  simp only[Bw]at f1' sq1 c2 xx
  simp only[AR.d]at f1' cO⊢
  simp[FA,Kj,r0,cO,lo,a3,xx,c2,sq1,f1',e3,rt']
 .have q1:Bq (s::l::m::as) S (S.set a (Bw ⟨(AL st.AA i).k,(AL st.AA i).n-n,(AL st.AA i).ow⟩)):=.set (by simp[uv a1])
  exact((q1.trans (f3.mono λn hn=>by simp[hn])).trans (g3.mono λ_ z=>(nomatch z))).trans (.set (by simp))
def Vd(hS:SAt S s l m as st)(ht:Hn t)(h:FC t k st)(hk:k<=20)(hc:Can t st (.Fe p q x)):∃S',FA [t.d,.ref s,(AR.Fe p q x).d] S=Gc (.non,S')/\SAt S' s l m as (step t st (.Fe p q x))/\Bq (s::l::m::as) S S':=by
 obtain⟨hpq,hp,hq,x1,x2,x3⟩:=hc
 have sz:=h.sz
 have hx:Sz 4 x:=by
  refine⟨?_,by lia⟩
  show x.num.natAbs<16
  lia
 have hdef:step t st (.Fe p q x)={st with AA:=st.AA.map λy=>{y with ow:=Gp p q x y.ow},hold:=Gp p q x st.hold}:=rfl
 rw[hdef]
 obtain⟨o,S2,f1,f2,f3⟩:=O6 (f:=λy=>{y with ow:=Gp p q x y.ow}) (body:=Mq (AF E8 [eOp (o2 wIx) [eV 8,eC (.int 2)],eV 2]) (eV 8) (eC (.int 2))) (C:=[Gc t.d,Gc (.ref s),Gc (AR.Fe p q x).d,Gc (.ref l),Gc (shD st.hold),Gc (.ref m),none,none]) (i8:=8) (o0:=none) hS rfl (by
  intro S' b y hy hb
  obtain⟨S2,e2,g2⟩:=WA (S:=S') (p:=p) (q:=q) (x:=x) (ss:=y.ow) (j:=30+170*k) (i:=4) (sz.1 y hy) hx (by lia) (by rw[h.own y hy];exact hp) (by rw[h.own y hy];exact hq) hpq
  have hb2:=g2.get hb (by simp)
  refine⟨S2,?_,g2⟩
  simp[An hb,Bw,e2,AQ hb2])
 obtain⟨S3,e3,g3⟩:=WA (S:=S2) (p:=p) (q:=q) (x:=x) (ss:=st.hold) (j:=30+170*k) (i:=4) sz.2 hx (by lia) (by rw[h.hold];exact hp) (by rw[h.hold];exact hq) hpq
 have f4:=(f2.Vi g3)
 have rt:=f4.root
 refine⟨S3.set s (.lst [.ref l,shD (Gp p q x st.hold),.ref m]),?_,f4.hold _,?_⟩
 .have f1':=f1
  simp only[vU,vK]at f1'
  have rt':Ek S3 s=Gc [.ref l,shD st.hold,.ref m]:=AQ rt
  have r0:=AQ hS.root
  have sq1:=JT hS.lo
  simp only[AR.d]at f1' e3⊢
  simp[FA,Kj,r0,sq1,f1',e3,rt']
 .exact((f3.mono λn hn=>by simp[hn]).trans (g3.mono λ_ z=>(nomatch z))).trans (.set (by simp))
end
theorem Qi:less ls l n=ls.set l ⟨(AL ls l).k,(AL ls l).n-n,(AL ls l).ow⟩:=rfl
def Rb{P p:Nat}{cond:Int}{C:En}(hP:P<=50)(hf:∀(i:Nat),f [Gc dd,Gc (.int i)] S=Gc (aD (if i=p then 1 else 0),S)):BZ [] (tNm 1) BI f (NK 0 P) [] [Gc dd,none] S=Gc ((Vj P p).map aD,S):=by
 have:=EN (gs:=[]) (t:=tNm 1) (f:=f) (C:=[Gc dd]) (m:=1) (e:=λi:Nat=>D.int (0+(i:Int))) (g:=λi=>aD (if i=p then 1 else 0)) (S:=S) AW (xs:=u6 P) (acc:=[]) (os:=[none]) rfl (uZ (show _<=50 by simp;lia) (AJ (by decide))) (by
  intro i _ os ho
  obtain⟨o,rfl⟩:=NJ ho
  refine⟨[Gc (.int i)],rfl,by simp,hf i⟩)
 simp only[vU,vK]at this
 rw[Vj,wC]
 exact this
inductive DoB(t:Tr)(S:Sto)(s l m:Nat)(as:Wp Nat)(st:Stt)(d:AR):Prop
 |mk (S':Sto) (as':Wp Nat) (e:Bl [t.d,.ref s,d.d] S=Gc (.non,S')) (h:SAt S' s l m as' (step t st d)) (g:Bq (s::l::m::as) S S') (f:∀n∈as',n∈as\/S.length<=n)
def Xt(hS:SAt S s l m as st)(ht:Hn t)(h:FC t k st)(hk:k<=20)(hc:Can t st (.CU p kd n)):DoB t S s l m as st (.CU p kd n):=by
 have tp:=ht.2.1
 have e:=Rb (S:=S) (P:=t.p) (p:=p) (cond:=0) (C:=[]) (dd:=(AR.CU p kd n).d) (f:=A9 [eOp (o1 Wl) [eOp (o2 wEq) [eV 1,eOp (o2 wIx) [eV 0,eC (.int 1)]]],eC (.int 1)]) (by lia) (by
  intro i
  by_cases hi:i=p
  .subst hi;simp[AR.d];rfl
  .have:((i:Int)==(p:Int))=false:=by simp;lia
   simp[AR.d,this,hi];rfl)
 have rn:J6 (t.p:Int)=true:=ER (by lia) (by lia)
 have hz:as.length<sizeLine:=uU (show as.length<50 by rw[hS.len];have:=h.len;lia) (AJ (by decide))
 refine⟨_,_,?_,hS.app ⟨kd,n,Vj t.p p⟩,?_,?_⟩
 .have r0:=AQ hS.root
  have c0:=AQ hS.lo
  have c1:Ek (S++[Bw ⟨kd,n,Vj t.p p⟩]) l=Gc (as.map D.ref):=AQ (by rw[uT (Ai hS.lo)];exact hS.lo)
  simp only[Bw]at c1⊢
  simp only[AR.d]at e⊢
  simp[Bl,Fq,r0,Tr.d,rn,e,c0,shD]at c1⊢
  simp[c1,hz]
 .exact Bq.app.trans (.set (by simp))
 .intro n hn
  rcases vD.mp hn with w|w
  .exact .inl w
  .simp at w;exact .inr (by lia)
def YG(hS:SAt S s l m as st)(ht:Hn t)(h:FC t k st)(hk:k<=20)(hc:Can t st (.Ci i n)):DoB t S s l m as st (.Ci i n):=by
 obtain⟨hi,h1,h2⟩:=hc
 obtain⟨a,a1,a2,a3⟩:=hS.at hi
 refine⟨_,as,?_,hS.Qp (y:=⟨(AL st.AA i).k,(AL st.AA i).n-n,(AL st.AA i).ow⟩) a1,.set (by simp[uv a1]),λn hn=>.inl hn⟩
 have r0:=AQ hS.root
 have lo:=An hS.lo
 have xx:=An a2
 have c2:=AQ a2
 simp only[Bw]at c2 xx⊢
 simp[Bl,Fq,AR.d,r0,lo,a3,xx,c2]
def fH(hS:SAt S s l m as st)(ht:Hn t)(h:FC t k st)(hk:k<=20)(hc:Can t st (.thr i n ws)):DoB t S s l m as st (.thr i n ws):=by
 obtain⟨S',e,g1,g2⟩:=YY hS ht h hk hc
 refine⟨S',as,?_,g1,g2,λn hn=>.inl hn⟩
 have r0:=AQ hS.root
 simp only[AR.d]at e⊢
 simp[Bl,Fq,r0,e]
def cZ(hS:SAt S s l m as st)(ht:Hn t)(h:FC t k st)(hk:k<=20)(hc:Can t st (.Fe p q x)):DoB t S s l m as st (.Fe p q x):=by
 obtain⟨S',e,g1,g2⟩:=Vd hS ht h hk hc
 refine⟨S',as,?_,g1,g2,λn hn=>.inl hn⟩
 have r0:=AQ hS.root
 simp only[AR.d]at e⊢
 simp[Bl,Fq,r0,e]
def dP(hS:SAt S s l m as st)(ht:Hn t)(h:FC t k st)(hk:k<=20)(hc:Can t st (.swap i g kd n)):DoB t S s l m as st (.swap i g kd n):=by
 obtain⟨hi,h1,h2,h3,h4,h5,h6⟩:=hc
 obtain⟨a,a1,a2,a3⟩:=hS.at hi
 have hS1:=hS.Qp (y:=⟨(AL st.AA i).k,(AL st.AA i).n-g,(AL st.AA i).ow⟩) a1
 have hS2:=hS1.app ⟨kd,n,(AL st.AA i).ow⟩
 have hz:as.length<sizeLine:=uU (show as.length<50 by rw[hS.len];have:=h.len;lia) (AJ (by decide))
 have hz2:st.nums.length<=sizeLine:=uZ (show _<=50 by have:=h.nm;lia) (AJ (by decide))
 refine⟨_,_,?_,hS2,?_,?_⟩
 .have r0:=AQ hS.root
  have lo:=An hS.lo
  have xx:=An a2
  have c2:=AQ a2
  have lo1:=An hS1.lo
  have co1:=AQ hS1.lo
  have x1:=An (uh (a:=Bw ⟨(AL st.AA i).k,(AL st.AA i).n-g,(AL st.AA i).ow⟩) (Ai a2))
  have c4:Ek ((S.set a (Bw ⟨(AL st.AA i).k,(AL st.AA i).n-g,(AL st.AA i).ow⟩))++[Bw ⟨kd,n,(AL st.AA i).ow⟩]) l=Gc (as.map D.ref):=AQ (by rw[uT (Ai hS1.lo)];exact hS1.lo)
  have nu:=hS2.nu
  have c5:=AQ nu
  have st5:∀{T:Sto},T[m]?=Gc (.lst (st.nums.map D.int))->T.set m (.lst (st.nums.map D.int))=T:=λh=>set_same h
  have st6:=st5 nu
  simp only[Bw]at c2 xx lo1 co1 x1 c4 c5 st6⊢
  have hz':(as.map D.ref).length<sizeLine:=by simpa using hz
  generalize (as.map D.ref)=refs at*
  simp[Bl,Fq,AR.d,r0,lo,a3,xx,c2,lo1,x1,co1]at c4 c5 st6⊢
  simp[c4,hz',c5,hz2,st6]
 .exact((Bq.set (by simp[uv a1])).trans .app).trans (.set (by simp))
 .intro n hn
  rcases vD.mp hn with w|w
  .exact .inl w
  .simp at w;exact .inr (by lia)
def Yn(hS:SAt S s l m as st)(ht:Hn t)(h:FC t k st)(hk:k<=20)(hc:Can t st (.Bv u i g kd n)):DoB t S s l m as st (.Bv u i g kd n):=by
 obtain⟨hi,h1,h2,h3,h4,h5,h6,h7,h8⟩:=hc
 obtain⟨a,a1,a2,a3⟩:=hS.at hi
 have hS1:=hS.Qp (y:=⟨(AL st.AA i).k,(AL st.AA i).n-g,(AL st.AA i).ow⟩) a1
 have hS2:=hS1.app ⟨kd,n,(AL st.AA i).ow⟩
 have hz:as.length<sizeLine:=uU (show as.length<50 by rw[hS.len];have:=h.len;lia) (AJ (by decide))
 have hz2:st.nums.length+1<=sizeLine:=uZ (show _<=50 by have:=h.nm;lia) (AJ (by decide))
 refine⟨_,_,?_,hS2.nums (st.nums++[u]),?_,?_⟩
 .have r0:=AQ hS.root
  have lo:=An hS.lo
  have xx:=An a2
  have c2:=AQ a2
  have lo1:=An hS1.lo
  have co1:=AQ hS1.lo
  have x1:=An (uh (a:=Bw ⟨(AL st.AA i).k,(AL st.AA i).n-g,(AL st.AA i).ow⟩) (Ai a2))
  have c4:Ek ((S.set a (Bw ⟨(AL st.AA i).k,(AL st.AA i).n-g,(AL st.AA i).ow⟩))++[Bw ⟨kd,n,(AL st.AA i).ow⟩]) l=Gc (as.map D.ref):=AQ (by rw[uT (Ai hS1.lo)];exact hS1.lo)
  have nu:=hS2.nu
  have c5:=AQ nu
  simp only[Bw]at c2 xx lo1 co1 x1 c4 c5⊢
  have hz':(as.map D.ref).length<sizeLine:=by simpa using hz
  generalize (as.map D.ref)=refs at*
  simp[Bl,Fq,AR.d,r0,lo,a3,xx,c2,lo1,x1,co1]at c4 c5⊢
  simp[c4,hz',c5,hz2]
 .exact(((Bq.set (by simp[uv a1])).trans .app).trans (.set (by simp))).trans (.set (by simp))
 .intro n hn
  rcases vD.mp hn with w|w
  .exact .inl w
  .simp at w;exact .inr (by lia)
def d8(hS:SAt S s l m as st)(ht:Hn t)(h:FC t k st)(hk:k<=20)(hc:Can t st (.GJ i j)):DoB t S s l m as st (.GJ i j):=by
 obtain⟨hij,hi,hj,h1,h2,h3⟩:=hc
 obtain⟨a,a1,a2,a3⟩:=hS.at hi
 obtain⟨b,b1,b2,b3⟩:=hS.at hj
 have sz:=h.sz
 have pi:=h.pcs _ (Ao hi)
 have pj:=h.pcs _ (Ao hj)
 obtain⟨S1,e1,g1⟩:=Ux (S:=S) (x:=AL st.AA i) (y:=AL st.AA j) (j:=30+170*k) (i:=131+k) a2 b2 (sz.1 _ (Ao hi)) (sz.1 _ (Ao hj)) (F1 pi.1 pi.2) (F1 pj.1 pj.2) (by lia) (by lia) (by lia) (by rw[h.own _ (Ao hi)];have:=ht.2.1;lia)
 have hS1:=hS.Vi g1
 have hab:a≠b:=by
  rintro rfl
  exact hij ((yW (ua.mp a1).1 hS.ne.2.2.2.2.2.2).mp (a1.trans b1.symm))
 have hS2:=hS1.app ⟨(AL st.AA i).k,(AL st.AA i).n+(AL st.AA j).n,CD (AL st.AA i).n (AL st.AA j).n (AL st.AA i).ow (AL st.AA j).ow⟩
 have ai:i<as.length:=(ua.mp a1).1
 have bj:j<as.length:=(ua.mp b1).1
 have a1':(as++[S1.length])[i]?=Gc a:=by rw[uT ai];exact a1
 have b1':(as++[S1.length])[j]?=Gc b:=by rw[uT bj];exact b1
 have hS3:=hS2.Qp (y:=⟨(AL st.AA i).k,0,(AL st.AA i).ow⟩) a1'
 have hS4:=hS3.Qp (y:=⟨(AL st.AA j).k,0,(AL st.AA j).ow⟩) b1'
 have hz:as.length<sizeLine:=uU (show as.length<50 by rw[hS.len];have:=h.len;lia) (AJ (by decide))
 have est:step t st (.GJ i j)={st with AA:=((st.AA++[Ld.mk (AL st.AA i).k ((AL st.AA i).n+(AL st.AA j).n) (CD (AL st.AA i).n (AL st.AA j).n (AL st.AA i).ow (AL st.AA j).ow)]).set i ⟨(AL st.AA i).k,0,(AL st.AA i).ow⟩).set j ⟨(AL st.AA j).k,0,(AL st.AA j).ow⟩}:=by
  have e0:AL (less st.AA i (AL st.AA i).n) j=AL st.AA j:=by
   unfold AL less
   rw[uz,uV hij,<-uz]
  have e1:less st.AA i (AL st.AA i).n=st.AA.set i ⟨(AL st.AA i).k,0,(AL st.AA i).ow⟩:=by
   unfold less
   rw[AA7]
  have e2:less (less st.AA i (AL st.AA i).n) j (AL st.AA j).n=(st.AA.set i ⟨(AL st.AA i).k,0,(AL st.AA i).ow⟩).set j ⟨(AL st.AA j).k,0,(AL st.AA j).ow⟩:=by
   rw[Qi (ls:=less st.AA i (AL st.AA i).n),e0,AA7,e1]
  show{st with AA:=less (less st.AA i (AL st.AA i).n) j (AL st.AA j).n++_}=_
  rw[e2,ABm _ _ hi,ABm _ _ (by simpa using hj)]
 refine⟨_,_,?_,est▸hS4,?_,?_⟩
 .have r0:=AQ hS.root
  have lo:=An hS.lo
  have c0:=AQ hS.lo
  have xa:=An a2
  have xb:=An b2
  have c1:=AQ hS1.lo
  have c4:Ek (S1++[Bw ⟨(AL st.AA i).k,(AL st.AA i).n+(AL st.AA j).n,CD (AL st.AA i).n (AL st.AA j).n (AL st.AA i).ow (AL st.AA j).ow⟩]) l=Gc (as.map D.ref):=AQ (by rw[uT (Ai hS1.lo)];exact hS1.lo)
  have c5:=AQ (hS2.ld i a (AL st.AA i) a1' (by show(st.AA++_)[i]?=_;rw[uT hi];exact EL hi))
  have c6:=AQ (hS3.ld j b (AL st.AA j) b1' (by show((st.AA++_).set i _)[j]?=_;rw[uV hij,uT hj];exact EL hj))
  simp only[Bw]at xa xb c4 c5 c6⊢
  have hz':(as.map D.ref).length<sizeLine:=by simpa using hz
  generalize (as.map D.ref)=refs at*
  generalize CD (AL st.AA i).n (AL st.AA j).n (AL st.AA i).ow (AL st.AA j).ow=pr at*
  simp[Bl,Fq,AR.d,r0,lo,a3,b3,xa,xb,c0,e1]at c4 c5 c6⊢
  simp[c4,hz',c5,c6]
 .exact(((g1.mono λ_ z=>(nomatch z)).trans .app).trans (.set (by simp))).trans ((Bq.set (by simp[uv a1])).trans (.set (by simp[uv b1])))
 .intro n hn
  rcases vD.mp hn with w|w
  .exact .inl w
  .simp at w;subst w;exact .inr g1.len
def iT(hS:SAt S s l m as st)(ht:Hn t)(h:FC t k st)(hk:k<=20)(hc:Can t st d):DoB t S s l m as st d:=by
 cases d with
 |CU=>exact Xt hS ht h hk hc
 |GJ=>exact d8 hS ht h hk hc
 |swap=>exact dP hS ht h hk hc
 |Bv=>exact Yn hS ht h hk hc
 |Ci=>exact YG hS ht h hk hc
 |thr=>exact fH hS ht h hk hc
 |Fe=>exact cZ hS ht h hk hc
section
variable{st:Stt}
def MN(h:a<=b):2^a<=2^b:=vM (by decide) h
def Lq(h:a<=b):(2:Int)^a<=2^b:=by
 have:=MN h
 exact_mod_cast this
def He{c:Int}(h:0<=c):((c.toNat:Nat):Rat)=(c:Rat):=by
 have:((c.toNat:Nat):Int)=c:=vd h
 have:(((c.toNat:Nat):Int):Rat)=(c:Rat):=by rw[this]
 exact this
def Ve(hB:B<2^(30+170*k))(hT:T<2^j)(hj:j<=170):B*T<2^(30+170*(k+1)):=by
 have:=DR hB hT
 exact uU this (MN (by lia))
def ia(h:G<=B):∀r∈Vj P p,Ok G B r:=by
 intro r hr
 obtain⟨i,_,rfl⟩:=vS.mp hr
 split
 .exact Ok.one h
 .exact Ok.zero
def Ur{ss os:Wp Rat}(hn:0<n)(hm:0<m)(hs:∀r∈ss,Ok G B r)(ho:∀r∈os,Ok G B r):∀r∈CD n m ss os,Ok (G*(n+m).toNat) (B*(n+m).toNat) r:=by
 intro r hr
 unfold CD at hr
 rw[xV]at hr
 obtain⟨i,hi'⟩:=hr
 rw[zp]at hi'
 obtain⟨x,y,hx,hy,rfl⟩:=hi'
 have:=Ok.mix (a:=n.toNat) (b:=m.toNat) (t:=(n+m).toNat) (hs x (uv hx)) (ho y (uv hy)) (by lia) (by lia)
 rwa [He (by lia),He (by lia),He (by lia)]at this
def Ue(hp:p<ss.length)(hq:q<ss.length)(x1:0<x.num)(x2:x.num<=x.den)(hs:∀r∈ss,Ok G B r):∀r∈Gp p q x ss,Ok (G*x.den) (2*B*x.den) r:=by
 have dp:=x.den_pos
 have hsp:=hs _ (getD_mem (d:=0) hp)
 have hsq:=hs _ (getD_mem (d:=0) hq)
 have xs:=DJ x
 have ex:(x.num:Rat)=((x.num.toNat:Nat):Rat):=(He (by lia)).symm
 have nz:=Hl x
 intro r hr
 unfold Gp at hr
 rcases xX hr with hr|hr
 .rcases xX hr with hr|hr
  .exact(hs r hr).up (by rw[AAq];lia)
  .rw[hr]
   obtain⟨z,e,hz⟩:=Ok.mix (a:=x.den-x.num.toNat) (b:=x.num.toNat) (t:=x.den) hsp (Ok.zero (G:=G) (B:=B)) (by lia) dp
   refine⟨z,?_,uZ hz (by rw[AAq];lia)⟩
   rw[<-e]
   have e2:((x.den-x.num.toNat:Nat):Rat)=(x.den:Rat)-(x.num:Rat):=by
    have:(((x.den-x.num.toNat:Nat):Int):Rat)=((x.den-x.num:Int):Rat):=by
     congr 1;rw[Int.natCast_sub (Int.toNat_le.mpr x2),vd (zH x1)]
    push_cast at this
    exact this
   rw[e2]
   generalize ss.getD p 0=sp at*
   congr 1
   grind
 .rw[hr]
  obtain⟨z,e1,hz⟩:=hsp
  obtain⟨y,e2,hy⟩:=hsq
  refine⟨y*x.den+z*x.num.toNat,?_,?_⟩
  .generalize ss.getD p 0=sp at*
   generalize ss.getD q 0=sq at*
   push_cast
   rw[<-ex,<-e1,<-e2]
   grind
  .have h1:y*x.den<=B*x.den:=vf _ hy
   have h2:z*x.num.toNat<=B*x.den:=AAZ hz (by lia)
   rw[AAq];lia
def JW{f:Rat->Rat->Rat}(h:a.length=n)(g:b.length=n):(AAC f a b).length=n:=by rw[List.length_zipWith,h,g];lia
def IS{P:Ld->Prop}(hi:i<st.AA.length)(h:∀x∈st.AA,P x)(g:P ⟨(AL st.AA i).k,(AL st.AA i).n-n,(AL st.AA i).ow⟩):∀x∈less st.AA i n,P x:=by
 intro x hx
 rcases Od hx hi with h1|h1
 .exact h x h1
 .rw[h1];exact g
def Oh{P:Ld->Prop}(h:∀x∈ls,P x)(g:P y):∀x∈ls++[y],P x:=by
 intro x hx
 rcases vD.mp hx with w|w
 .exact h x w
 .simp at w;rw[w];exact g
structure LOk(t:Tr)(k G B:Nat)(x:Ld):Prop where
 kd:x.k<t.k
 n0:0<=x.n
 n1:x.n<2^(131+k)
 own:x.ow.length=t.p
 ok:∀r∈x.ow,Ok G B r
def LOk.up(h:LOk t k G B x)(hT:B*T<=B'):LOk t (k+1) (G*T) B' x:=⟨h.kd,h.n0,yI h.n1 (Lq (by lia)),h.own,λr hr=>(h.ok r hr).up hT⟩
def LOk.up1(h:LOk t k G B x):LOk t (k+1) G B x:=⟨h.kd,h.n0,yI h.n1 (Lq (by lia)),h.own,h.ok⟩
def LOk.less(h:LOk t k G B x)(h0:0<=n)(h1:n<=x.n):LOk t k G B ⟨x.k,x.n-n,x.ow⟩:=⟨h.kd,show 0<=x.n-n by lia,show x.n-n<_ by have:=h.n1;lia,h.own,h.ok⟩
def FC.of(h1:st.AA.length<=4+k)(h2:∀x∈st.AA,LOk t k G B x)(h3:st.hold.length=t.p)(h4:st.nums.length<=k)(g0:0<G)(g1:G<=B)(g2:B<2^(30+170*k))(h5:∀r∈st.hold,Ok G B r):FC t k st:=⟨h1,λx hx=>(h2 x hx).kd,λx hx=>⟨(h2 x hx).n0,(h2 x hx).n1⟩,λx hx=>(h2 x hx).own,h3,h4,G,B,g0,g1,g2,λx hx=>(h2 x hx).ok,h5⟩
def lU{n:Int}(h:n<2^131):n<2^(131+k):=yI h (Lq (by lia))
def RX(ht:Hn t)(h:FC t k st)(hk:k<=20)(hc:Can t st d):FC t (k+1) (step t st d):=by
 obtain⟨G,B,g0,g1,g2,hl,hh⟩:=h.gb
 have L:∀x∈st.AA,LOk t k G B x:=λx hx=>⟨h.kind x hx,(h.pcs x hx).1,(h.pcs x hx).2,h.own x hx,hl x hx⟩
 have g2':B<2^(30+170*(k+1)):=uU g2 (MN (by lia))
 have hlen:=h.len
 have hnm:=h.nm
 cases d with
 |CU p kd n=>
  obtain⟨h1,h2,h3,h4⟩:=hc
  refine FC.of (G:=G) (B:=B) (by simp[step];lia) (Oh (λx hx=>(L x hx).up1) ⟨h2,by show 0<=n;lia,lU h4,by simp[Vj],ia g1⟩) h.hold (xB hnm) g0 g1 g2' hh
 |GJ i j=>
  obtain⟨hij,hi,hj,h1,h2,h3⟩:=hc
  have li:=L _ (Ao hi)
  have lj:=L _ (Ao hj)
  have tl:((AL st.AA i).n+(AL st.AA j).n).toNat<2^(132+k):=by
   have a:=li.n1;have b:=lj.n1
   have e:(2:Int)^(132+k)=2^(131+k)*2:=by rw[show 132+k=(131+k)+1 by lia,Int.pow_succ]
   have:(((AL st.AA i).n+(AL st.AA j).n).toNat:Int)<((2^(132+k):Nat):Int):=by
    rw[vd (by lia)]
    push_cast
    rw[e];lia
   exact_mod_cast this
  have t0:0<((AL st.AA i).n+(AL st.AA j).n).toNat:=by lia
  refine FC.of (G:=G*((AL st.AA i).n+(AL st.AA j).n).toNat) (B:=B*((AL st.AA i).n+(AL st.AA j).n).toNat) (by simp[step,Dk];lia) (Oh ?_ ⟨li.kd,by show 0<=(AL st.AA i).n+(AL st.AA j).n;lia,?_,?_,Ur h1 h2 li.ok lj.ok⟩) h.hold (xB hnm) (AAj g0 t0) (vf _ g1) (Ve g2 tl (by lia)) (λr hr=>(hh r hr).up (uc _))
  .have e0:AL (less st.AA i (AL st.AA i).n) j=AL st.AA j:=by
    unfold AL less
    rw[uz,uV hij,<-uz]
   have A:=IS (P:=LOk t (k+1) (G*((AL st.AA i).n+(AL st.AA j).n).toNat) (B*((AL st.AA i).n+(AL st.AA j).n).toNat)) (n:=(AL st.AA i).n) hi (λx hx=>(L x hx).up (uc _)) ((li.up (uc _)).less (by lia) (Int.le_refl _))
   have A2:=IS (st:={st with AA:=less st.AA i (AL st.AA i).n}) (i:=j) (n:=(AL st.AA j).n) (by simpa[Dk]using hj) A (by
    show LOk _ _ _ _ ⟨(AL (less st.AA i (AL st.AA i).n) j).k,(AL (less st.AA i (AL st.AA i).n) j).n-_,(AL (less st.AA i (AL st.AA i).n) j).ow⟩
    rw[e0]
    exact(lj.up (uc _)).less (by lia) (Int.le_refl _))
   exact A2
  .show(AL st.AA i).n+(AL st.AA j).n<2^(131+(k+1))
   have a:=li.n1;have b:=lj.n1
   rw[show 131+(k+1)=(131+k)+1 by lia,Int.pow_succ];lia
  .exact JW li.own lj.own
 |swap i g kd n=>
  obtain⟨hi,h1,h2,h3,h4,h5,h6⟩:=hc
  have li:=L _ (Ao hi)
  refine FC.of (G:=G) (B:=B) (by simp[step,Dk];lia) (Oh (IS hi (λx hx=>(L x hx).up1) (li.up1.less (by lia) h2)) ⟨h3,by show 0<=n;lia,lU h6,li.own,li.ok⟩) h.hold (xB hnm) g0 g1 g2' hh
 |Bv u i g kd n=>
  obtain⟨hi,h1,h2,h3,h4,h5,h6,h7⟩:=hc
  have li:=L _ (Ao hi)
  refine FC.of (G:=G) (B:=B) (by simp[step,Dk];lia) (Oh (IS hi (λx hx=>(L x hx).up1) (li.up1.less (by lia) h2)) ⟨h3,by show 0<=n;lia,lU h6,li.own,li.ok⟩) h.hold (by simp[step];lia) g0 g1 g2' hh
 |Ci i n=>
  obtain⟨hi,h1,h2⟩:=hc
  have li:=L _ (Ao hi)
  refine FC.of (G:=G) (B:=B) (by simp[step,Dk];lia) (IS hi (λx hx=>(L x hx).up1) (li.up1.less (by lia) h2)) h.hold (xB hnm) g0 g1 g2' hh
 |thr i n ws=>
  obtain⟨hi,h1,h2,h3,h4⟩:=hc
  have li:=L _ (Ao hi)
  have W:=Jd ht h (by lia) h3 h4
  have wl:(Ef t st.AA ws).toNat<2^(145+k):=by
   have:((Ef t st.AA ws).toNat:Int)<((2^(145+k):Nat):Int):=by
    rw[vd (by lia)];push_cast;exact W.2
   exact_mod_cast this
  have bo:=λ{ss:Wp Rat} (hs:∀r∈ss,Ok G B r)=>VX ht h (by lia) h3 h4 hi h1 h2 li.ok hs
  refine FC.of (G:=G*(Ef t st.AA ws).toNat) (B:=B*(Ef t st.AA ws).toNat) (by simp[step,Dk];lia) ?_ (JW h.hold li.own) (xB hnm) (AAj g0 (by lia)) (vf _ g1) (Ve g2 wl (by lia)) (bo hh)
  intro x hx
  obtain⟨y,hy,rfl⟩:=vS.mp hx
  have ly:=IS (P:=LOk t k G B) hi L (li.less (n:=n) (by lia) h2) y hy
  exact⟨ly.kd,ly.n0,ly.up1.n1,JW ly.own li.own,bo ly.ok⟩
 |Fe p q x=>
  obtain⟨h1,h2,h3,h4,h5,h6⟩:=hc
  have dp:=x.den_pos
  refine FC.of (G:=G*x.den) (B:=2*B*x.den) (by simp[step];lia) ?_ (by simp[step,Gp,h.hold]) (xB hnm) (AAj g0 dp) (vf _ (by lia)) ?_ (Ue (by rw[h.hold];exact h2) (by rw[h.hold];exact h3) h4 h5 hh)
  .intro y hy
   obtain⟨z,hz,rfl⟩:=vS.mp hy
   have lz:=L z hz
   exact⟨lz.kd,lz.n0,lz.up1.n1,by simp[Gp,lz.own],Ue (by rw[lz.own];exact h2) (by rw[lz.own];exact h3) h4 h5 lz.ok⟩
  .have:=Ve (B:=B) (T:=2*x.den) (j:=5) g2 (by lia) (by lia)
   rw[show 2*B*x.den=B*(2*x.den) by rw[<-AAq,yF 2 B]]
   exact this
end
theorem Fw{α:Type}{f:α->D}:∀{xs:Wp α},(∀x∈xs,(f x).lay=true)->D.Ox (xs.map f)=true
 | [],_=>rfl
 |x::xs,h=>by
  show((f x).lay && D.Ox (xs.map f))=true
  rw[h x uk,Fw λy hy=>h y (uW _ hy)]
  rfl
def XJ(h:D.Ox ds=true):OP (.lst ds) (.lst [])=true:=by
 unfold OP
 show(D.Ox ds && true && _)=true
 rw[h]
 simp only[Bool.true_and,vV]
 exact uZ (zW _ _) (by decide)
noncomputable def GL(is:Wp Nat):Wp D:=is.map λ(i:Nat)=>D.int i
def MF:OP (.lst (GL is)) (.lst [])=true:=XJ (Fw λ_ _=>rfl)
theorem Ya:deq (.lst (d::ds)) (.lst [])=false:=rfl
theorem dB:deq (.lst []) (.lst [])=true:=rfl
def N7:deq (.lst (GL is)) (.lst [])=is.isEmpty:=by
 cases is with
 |nil=>exact dB
 |cons i is=>exact Ya
def MJ:Mr 0 ds=(u6 ds.length).map λ(i:Nat)=>D.tup [.int i,ds.getD i .non]:=by
 apply AAk
 intro i
 rw[Jj,um]
 by_cases h:i<ds.length
 .rw[uS h,yn h]
  simp[uS h]
 .rw[ABV (by lia),ABV (by simp;lia)]
  rfl
def Jn:(GL is).length=is.length:=by simp[GL]
def Le(h0:0<=r)(h1:r<is.length):∃i∈is,atI (GL is) r=Gc (.int (i:Nat)):=by
 have h2:r.toNat<is.length:=by lia
 refine⟨is[r.toNat],yD h2,?_⟩
 have:=ZC (xs:=GL is) h0 (by rw[Jn];exact h1)
 rw[this]
 simp[GL]
def WY{x K:Int}(h0:0<=x)(h1:x<2*K):x % K=if x<K then x else x-K:=by
 split
 .exact Int.emod_eq_of_lt h0 (by assumption)
 .have:x % K=(x-K) % K:=by rw[Int.sub_emod_right]
  rw[this]
  exact Int.emod_eq_of_lt (by lia) (by lia)
noncomputable def B8(st:Stt):Wp Nat:=(u6 st.AA.length).filter λi=>decide (0<(AL st.AA i).n)
def eJ(hS:SAt S s l m as st)(hl:st.AA.length<=50):BZ [(l,as.map D.ref)] (tTp [tNm 0,tNm 1]) (eOp (o2 wGt) [eOp (o2 wIx) [eV 1,eC (.int 1)],eC (.int 0)]) (eV 0) (Mr 0 (as.map D.ref)) [] [none,none] S=Gc (GL (B8 st),S):=by
 have:=EY (gs:=[(l,as.map D.ref)]) (t:=tTp [tNm 0,tNm 1]) (c:=eOp (o2 wGt) [eOp (o2 wIx) [eV 1,eC (.int 1)],eC (.int 0)]) (f:=eV 0) (C:=[]) (m:=2) (e:=λi:Nat=>D.tup [.int i,(as.map D.ref).getD i .non]) (g:=λi:Nat=>D.int i) (b:=λi=>decide (0<(AL st.AA i).n)) (S:=S) hS.guard (xs:=u6 st.AA.length) (acc:=[]) (os:=[none,none]) rfl (uZ (show _<=50 by simp;lia) (AJ (by decide))) (by
  intro i hi os ho
  obtain⟨o1,o2,rfl⟩:=jh ho
  obtain⟨a,a1,a2,a3⟩:=hS.at (AAJ.mp hi)
  have e:(as.map D.ref).getD i .non=.ref a:=by simp[a1]
  rw[e]
  refine⟨[Gc (.int i),Gc (.ref a)],rfl,by simp,?_,by simp⟩
  simp[An a2,Bw])
 rw[MJ,vN,hS.len]
 exact this
def LG(h:i∈B8 st):i<st.AA.length/\0<(AL st.AA i).n:=by
 unfold B8 at h
 rw[yK]at h
 exact⟨AAJ.mp h.1,by simpa using h.2⟩
noncomputable def Ep(st:Stt)(j:Nat):Wp Nat:=(B8 st).filter λi=> !(i==j) && ((AL st.AA i).k==(AL st.AA j).k)
def Nz:(B8 st).length<=st.AA.length:=by
 unfold B8
 exact uZ (yS _ _) (by simp)
def YL{a b:Nat}:((a:Int)==(b:Int))=(a==b):=by
 by_cases h:a=b
 .subst h;simp
 .have:((a:Int)==(b:Int))=false:=by simp;lia
  rw[this];simp[h]
def bU(hS:SAt S s l m as st)(hl:st.AA.length<=50)(hj:j∈B8 st):BZ [] (tNm 2) (D6 (eOp (o2 wNe) [eV 2,eV 1]) (eOp (o2 wEq) [eOp (o2 wIx) [eOp (o2 wIx) [eV 0,eV 2],eC (.int 0)],eOp (o2 wIx) [eOp (o2 wIx) [eV 0,eV 1],eC (.int 0)]])) (eV 2) (GL (B8 st)) [] [Gc (.ref l),Gc (.int j),none] S=Gc (GL (Ep st j),S):=by
 have fl:=Nz (st:=st)
 exact EY (gs:=[]) (t:=tNm 2) (f:=eV 2) (C:=[Gc (.ref l),Gc (.int j)]) (m:=1) (e:=λi:Nat=>D.int i) (g:=λi:Nat=>D.int i) (b:=λi=> !(i==j) && ((AL st.AA i).k==(AL st.AA j).k)) (S:=S) AW (xs:=B8 st) (acc:=[]) (os:=[none]) rfl (uZ (show _<=50 by simp;lia) (AJ (by decide))) (by
  intro i hi os ho
  obtain⟨o1,rfl⟩:=NJ ho
  obtain⟨a,a1,a2,a3⟩:=hS.at (LG hi).1
  obtain⟨b,b1,b2,b3⟩:=hS.at (LG hj).1
  refine⟨[Gc (.int i)],rfl,by simp,?_,by simp⟩
  by_cases e:i=j
  .subst e
   simp
  .have e':((i:Int)==(j:Int))=false:=by simp;lia
   have e2:(i==j)=false:=by simp[e]
   simp[e',e2,An hS.lo,a3,b3,An a2,An b2,Bw,YL])
def Xw(h:i∈Ep st j):i∈B8 st/\i≠j/\(AL st.AA i).k=(AL st.AA j).k:=by
 unfold Ep at h
 rw[yK]at h
 simp at h
 exact⟨h.1,h.2.1,h.2.2⟩
noncomputable def FU(st:Stt):Wp Nat:=(u6 10).filter λi=> !(st.nums.any λu=>u==(i:Int))
def Ou{us:Wp Int}:inD (.int i) (us.map D.int)=us.any λu=>u==i:=by
 unfold inD
 rw[List.any_map]
 rfl
@[simp] def oG:wIn b w (.own r)=if(Hz (fz w) && r.all Hz)=true then some (.val (.bl (if b then !inD (fz w) r else inD (fz w) r)))else none:=rfl
@[simp] def pZ:wIn b w (.val (.lst r))=if(Hz (fz w) && r.all Hz)=true then some (.val (.bl (if b then !inD (fz w) r else inD (fz w) r)))else none:=rfl
def MW{us:Wp Int}:(us.map D.int).all Hz=true:=by
 rw[List.all_map,List.all_eq_true]
 intro x _;rfl
@[simp] def qX:Hz (.int i)=true:=rfl
def cN(hS:SAt S s l m as st):BZ [] (tNm 1) (eOp (o2 (wIn true)) [eV 1,eV 0]) (eV 1) (NK 0 10) [] [Gc (.ref m),none] S=Gc (GL (FU st),S):=by
 exact EY (gs:=[]) (t:=tNm 1) (f:=eV 1) (C:=[Gc (.ref m)]) (m:=1) (e:=λi:Nat=>D.int (0+(i:Int))) (g:=λi:Nat=>D.int i) (b:=λi=> !(st.nums.any λu=>u==(i:Int))) (S:=S) AW (xs:=u6 10) (acc:=[]) (os:=[none]) rfl (uZ (show _<=50 by simp) (AJ (by decide))) (by
  intro i hi os ho
  obtain⟨o1,rfl⟩:=NJ ho
  refine⟨[Gc (.int i)],rfl,by simp,?_,by simp⟩
  have nu:=An hS.nu
  have fi:=MW (us:=st.nums)
  have ii:=Ou (us:=st.nums) (i:=(i:Int))
  generalize st.nums.map D.int=ud at*
  generalize (st.nums.any λu=>u==(i:Int))=bb at*
  simp[nu,fi,ii])
def X1(h:i∈FU st):(i:Int)∉st.nums/\i<=9:=by
 unfold FU at h
 rw[yK]at h
 have h1:=AAJ.mp h.1
 refine⟨?_,by lia⟩
 intro z
 have h2:=h.2
 have:(st.nums.any λu=>u==(i:Int))=true:=List.any_eq_true.mpr ⟨_,z,by simp⟩
 rw[this]at h2
 cases h2
def Wx:(FU st).length<=10:=by
 unfold FU
 exact uZ (yS _ _) (by simp)
def XX:(Ep st j).length<=st.AA.length:=by
 unfold Ep
 exact uZ (yS _ _) Nz
section
variable{S:Sto}{p s l m:Nat}{as:Wp Nat}{st:Stt}{t:Tr}{k:Nat}
def Uj:=AN (xIf (D6 (eOp (o2 wEq) [eV 7,eC (.int 7)]) (eOp (o2 wNe) [eV 12,Ja []])) (AZ (A9 [eC (.str "trade"),eOp (o2 wIx) [eV 12,AF AG [eV 0,eOp (o1 Eu) [eV 12]]],eV 8,eV 9,eV 11,AF A8 [eV 0]])) BO) (AZ (A9 [eC (.str "swap"),eV 8,eV 9,eV 11,AF A8 [eV 0]]))
def Wh:=AN (xIf (eOp (o2 wEq) [eV 7,eC (.int 8)]) (AZ (A9 [eC (.str "spoil"),eV 8,eV 9])) BO) (AN (xIf (D6 (eOp (o2 wEq) [eV 7,eC (.int 9)]) (eOp (o2 wGt) [eOp (o2 wIx) [eV 1,eC (.int 0)],eC (.int 1)])) (AN (Ay 13 (AF AG [eV 0,eOp (o2 wIx) [eV 1,eC (.int 0)]])) (AZ (A9 [eC (.str "sell"),eV 13,eOp (o2 Oz) [eOp (o2 CN) [eOp (o2 CN) [eV 13,eC (.int 1)],AF AG [eV 0,eOp (o2 QJ) [eOp (o2 wIx) [eV 1,eC (.int 0)],eC (.int 1)]]],eOp (o2 wIx) [eV 1,eC (.int 0)]],AF FY [eV 0]]))) BO) (AZ (A9 [eC (.str "throw"),eV 8,eV 9,AF Di [eV 0,eOp (o2 CN) [eOp (o2 wIx) [eV 1,eC (.int 1)],eC (.int 1)]]])))
def P1:Ex:=(AN (xIf (D6 (eOp (o2 wLt) [eV 7,eC (.int 8)]) (eOp (o2 wGt) [eOp (o2 wIx) [eV 1,eC (.int 1)],eC (.int 1)])) (AN (Ay 11 (eOp (o2 Oz) [eOp (o2 CN) [eOp (o2 CN) [eOp (o2 wIx) [eOp (o2 wIx) [eV 3,eV 8],eC (.int 0)],eC (.int 1)],AF AG [eV 0,eOp (o2 QJ) [eOp (o2 wIx) [eV 1,eC (.int 1)],eC (.int 1)]]],eOp (o2 wIx) [eV 1,eC (.int 1)]])) (AN (Ay 12 (Bk [5] 1 (Oy [eC (.int 10)]) (tNm 1) (eOp (o2 (wIn true)) [eV 1,eV 0]) (eV 1)))
    Uj)) BO) Wh)
def VU:=xIf (eOp (o2 wLt) [eV 7,eC (.int 5)]) (AN (Ay 10 (Bk [3,8] 1 (F7 (eV 6)) (tNm 2) (D6 (eOp (o2 wNe) [eV 2,eV 1]) (eOp (o2 wEq) [eOp (o2 wIx) [eOp (o2 wIx) [eV 0,eV 2],eC (.int 0)],eOp (o2 wIx) [eOp (o2 wIx) [eV 0,eV 1],eC (.int 0)]])) (eV 2))) (xIf (eOp (o2 wNe) [eV 10,Ja []]) (AZ (A9 [eC (.str "pool"),eV 8,eOp (o2 wIx) [eV 10,AF AG [eV 0,eOp (o1 Eu) [eV 10]]]])) BO)) BO
def Sm:AR->Prop
 | .Bv _ _ g _ n=>g<=2000/\n<2^130
 |_=>AAI
def Xa:=AN (xIf (eOr (eOp (o2 wLt) [eV 7,eC (.int 2)]) (eOp (o2 wEq) [eV 6,Ja []])) (AZ (A9 [eC (.str "bring"),AF AG [eV 0,eOp (o2 wIx) [eV 1,eC (.int 0)]],AF AG [eV 0,eOp (o2 wIx) [eV 1,eC (.int 1)]],AF A8 [eV 0]])) BO) (AN (Ay 8 (eOp (o2 wIx) [eV 6,AF AG [eV 0,eOp (o1 Eu) [eV 6]]])) (AN (Ay 9 (eOp (o2 CN) [eC (.int 1),AF AG [eV 0,eOp (o2 lF) [eOp (o2 wIx) [eOp (o2 wIx) [eV 3,eV 8],eC (.int 1)],eC (.int 2000)]]])) (AN VU P1)))
theorem Yb:Nm=(AN (II (tTp [tNm 3,tNm 4,tNm 5]) (eV 2)) (AN (Ay 6 (Bk [] 2 (bf (eV 3)) (tTp [tNm 0,tNm 1]) (eOp (o2 wGt) [eOp (o2 wIx) [eV 1,eC (.int 1)],eC (.int 0)]) (eV 0))) (AN (Ay 7 (AF AG [eV 0,eC (.int 12)])) Xa))):=rfl
def Yq(hp:Dw p S)(hS:SAt S s l m as st)(hps:p∉s::l::m::as)(ht:Hn t)(h:FC t k st)(hk:k<=20):∃d S',DY [.ref p,t.d,.ref s] S=Gc (AR.d d,S')/\Pn p S S'/\Can t st d/\Sm d:=by
 obtain⟨t1,t2,t3,t4,t5,t6⟩:=ht
 have hlen:=h.len
 have st':∀{S':Sto},Pn p S S'->SAt S' s l m as st:=λg=>hS.same g.same (by simpa using hps)
 have r0:=AQ hS.root
 have cf:=eJ hS (by lia)
 have fl:=Nz (st:=st)
 have sq:=JT hS.lo
 obtain⟨way,S1,e1,a1,b1,p1⟩:=Am hp (n:=12) (by decide) (by decide)
 have okF:=MF (is:=B8 st)
 have dqF:=N7 (is:=B8 st)
 have pr0:DY [.ref p,t.d,.ref s] S=(Xa [Gc (.ref p),Gc t.d,Gc (.ref s),Gc (.ref l),Gc (shD st.hold),Gc (.ref m),Gc (.lst (GL (B8 st))),Gc (.int way),none,none,none,none,none,none] S1).map λr=>(flD r.1,r.2.2):=by
  simp[DY,Yb,r0,sq,cf,e1]
 by_cases hb:way<2\/(B8 st).isEmpty=true
 .obtain⟨x2,S2,e2,a2,b2,p2⟩:=Am p1.pen (n:=t.p) (by lia) (by lia)
  obtain⟨x3,S3,e3,a3,b3,p3⟩:=Am p2.pen (n:=t.k) (by lia) (by lia)
  obtain⟨x4,S4,e4,p4,a4,b4⟩:=Lv p3.pen
  obtain⟨x2,rfl⟩:=Hf a2
  obtain⟨x3,rfl⟩:=Hf a3
  refine⟨.CU x2 x3 x4,S4,?_,((p1.trans p2).trans p3).trans p4,⟨by lia,by lia,a4,b4⟩,trivial⟩
  rw[pr0]
  have ho:∀(x y:Ex),xIf (eOr (eOp (o2 wLt) [eV 7,eC (.int 2)]) (eOp (o2 wEq) [eV 6,Ja []])) x y [Gc (.ref p),Gc t.d,Gc (.ref s),Gc (.ref l),Gc (shD st.hold),Gc (.ref m),Gc (.lst (GL (B8 st))),Gc (.int way),none,none,none,none,none,none] S1=x [Gc (.ref p),Gc t.d,Gc (.ref s),Gc (.ref l),Gc (shD st.hold),Gc (.ref m),Gc (.lst (GL (B8 st))),Gc (.int way),none,none,none,none,none,none] S1:=by
   intro x y
   by_cases hw:way<2
   .simp[hw]
   .simp[hw,okF,dqF,hb.resolve_left hw]
  simp[Xa,-T9,ho]
  simp[Tr.d,e2,e3,e4,AR.d]
 .have hw2:¬way<2:=λz=>hb (.inl z)
  have hf:(B8 st).isEmpty=false:=by
   cases z:(B8 st).isEmpty with
   |true=>exact absurd (.inr z) hb
   |false=>rfl
  have hfl:0<(B8 st).length:=by
   cases z:B8 st with
   |nil=>rw[z]at hf;cases hf
   |cons a b=>simp
  obtain⟨rl,S2,e2,a2,b2,p2⟩:=Am p1.pen (n:=(B8 st).length) (by lia) (by lia)
  obtain⟨i,mi,ei⟩:=Le a2 b2
  have fi:=LG mi
  have hS1:=st' p1
  have hS2:=st' (p1.trans p2)
  obtain⟨a,x1,x2,x3⟩:=hS2.at fi.1
  have n1:=fi.2
  obtain⟨rs,S3,e3,a3,b3,p3⟩:=Am p2.pen (n:=if 2000<(AL st.AA i).n then 2000 else(AL st.AA i).n) (by split<;>lia) (by split<;>lia)
  have hsome:1<=1+rs/\1+rs<=(AL st.AA i).n:=by split at b3<;>lia
  have p23:=(p1.trans p2).trans p3
  have hS3:=st' p23
  have lo2:=An hS2.lo
  have lo3:=An hS3.lo
  have x2':=An x2
  have x4:S3[a]?=Gc (Bw (AL st.AA i)):=hS3.ld i a _ x1 (EL fi.1)
  have x4':=An x4
  have kd:=h.kind _ (Ao fi.1)
  have nl:=Jn (is:=B8 st)
  have cs:=bU hS3 (by lia) mi
  have okS:=MF (is:=Ep st i)
  have dqS:=N7 (is:=Ep st i)
  have sl:=XX (st:=st) (j:=i)
  have nls:=Jn (is:=Ep st i)
  have pre:DY [.ref p,t.d,.ref s] S=((VU [Gc (.ref p),Gc t.d,Gc (.ref s),Gc (.ref l),Gc (shD st.hold),Gc (.ref m),Gc (.lst (GL (B8 st))),Gc (.int way),Gc (.int i),Gc (.int (1+rs)),none,none,none,none] S3).bind (bB P1)).map λr=>(flD r.1,r.2.2):=by
   rw[pr0]
   simp[Xa,hw2,okF,dqF,hf,nl,e2,ei,lo2,x3,x2',e3]
  have tail:∀o10,(way<5->(Ep st i).isEmpty=true)->∃d S',(P1 [Gc (.ref p),Gc t.d,Gc (.ref s),Gc (.ref l),Gc (shD st.hold),Gc (.ref m),Gc (.lst (GL (B8 st))),Gc (.int way),Gc (.int i),Gc (.int (1+rs)),o10,none,none,none] S3).map (λr=>(flD r.1,r.2.2))=Gc (AR.d d,S')/\Pn p S S'/\Can t st d/\Sm d:=by
   intro o10 _
   generalize hE:([Gc (.ref p),Gc t.d,Gc (.ref s),Gc (.ref l),Gc (shD st.hold),Gc (.ref m),Gc (.lst (GL (B8 st))),Gc (.int way),Gc (.int i),Gc (.int (1+rs)),o10,none,none,none]:En)=E
   clear pre cs okS dqS
   by_cases hsw:way<8/\1<t.k
   .obtain⟨hw8,hk1⟩:=hsw
    have hk1':(1:Int)<t.k:=by lia
    obtain⟨rk,S4,e4,a4,b4,p4⟩:=Am p3.pen (n:=(t.k:Int)-1) (by lia) (by lia)
    have hS4:=st' (p23.trans p4)
    have hmod:=WY (x:=((AL st.AA i).k:Int)+1+rk) (K:=t.k) (by lia) (by lia)
    obtain⟨kd2,ekd⟩:∃q:Nat,((AL st.AA i).k+1+rk) % (t.k:Int)=(q:Int):=⟨_,(vd (xg _ (by lia))).symm⟩
    have hkd:kd2<t.k/\kd2≠(AL st.AA i).k:=by
     rw[ekd]at hmod
     split at hmod<;>lia
    have kp:0<t.k:=by lia
    have cl:=cN hS4
    have okL:=MF (is:=FU st)
    have dqL:=N7 (is:=FU st)
    have ll:=Wx (st:=st)
    have nll:=Jn (is:=FU st)
    have rt:J6 10=true:=ER (by decide) (by decide)
    have mid:P1 E S3=(Uj [Gc (.ref p),Gc t.d,Gc (.ref s),Gc (.ref l),Gc (shD st.hold),Gc (.ref m),Gc (.lst (GL (B8 st))),Gc (.int way),Gc (.int i),Gc (.int (1+rs)),o10,Gc (.int kd2),Gc (.lst (GL (FU st))),none] S4).bind (bB Wh):=by
     subst hE
     simp[P1,Tr.d,x3,hw8,hk1',lo3,x4',e4,kp,ekd,rt,cl]
    rw[mid]
    clear mid hE
    by_cases htr:way=7/\(FU st).isEmpty=false
    .obtain⟨hw7,hle⟩:=htr
     have hll:0<(FU st).length:=by
      cases z:FU st with
      |nil=>rw[z]at hle;cases hle
      |cons a b=>simp
     obtain⟨ru,S5,e5,a5,b5,p5⟩:=Am p4.pen (n:=(FU st).length) (by lia) (by lia)
     obtain⟨u,mu,eu⟩:=Le a5 b5
     obtain⟨x6,S6,e6,p6,a6,b6⟩:=Ni p5.pen
     have fu:=X1 mu
     refine⟨.Bv u i (1+rs) kd2 x6,S6,?_,((p23.trans p4).trans p5).trans p6,⟨fi.1,hsome.1,hsome.2,hkd.1,hkd.2,a6,Int.lt_trans b6 (by decide),fu.1,by lia,by lia⟩,by split at b3<;>lia,b6⟩
     subst hw7
     simp[Uj,okL,dqL,hle,nll,e5,eu,e6,AR.d]
    .obtain⟨x6,S6,e6,p6,a6,b6⟩:=Lv p4.pen
     refine⟨.swap i (1+rs) kd2 x6,S6,?_,(p23.trans p4).trans p6,⟨fi.1,hsome.1,hsome.2,hkd.1,hkd.2,a6,b6⟩,trivial⟩
     by_cases h7:way=7
     .subst h7
      have hle:(FU st).isEmpty=true:=by
       cases z:(FU st).isEmpty with
       |true=>rfl
       |false=>exact absurd ⟨rfl,z⟩ htr
      simp[Uj,okL,dqL,hle,e6,AR.d]
     .have h7':(way==7)=false:=by simpa using h7
      simp[Uj,h7',e6,AR.d]
   .have sw:P1 E S3=Wh E S3:=by
     subst hE
     by_cases w8:way<8
     .have hk1:¬(1:Int)<t.k:=by lia
      simp[P1,Tr.d,w8,hk1]
     .simp[P1,w8]
    rw[sw]
    clear sw
    by_cases h8:way=8
    .subst h8
     refine⟨.Ci i (1+rs),S3,?_,p23,⟨fi.1,hsome.1,hsome.2⟩,trivial⟩
     subst hE
     rfl
    .have h8':(way==8)=false:=by simpa using h8
     by_cases h9:way=9/\1<t.p
     .obtain⟨h9,hP⟩:=h9
      subst h9
      have hP':(1:Int)<t.p:=by lia
      obtain⟨rp,S4,e4,a4,b4,p4⟩:=Am p3.pen (n:=t.p) (by lia) (by lia)
      obtain⟨rq,S5,e5,a5,b5,p5⟩:=Am p4.pen (n:=(t.p:Int)-1) (by lia) (by lia)
      obtain⟨sh,S6,e6,p6,a6,b6,c6⟩:=XA p5.pen
      have hmod:=WY (x:=rp+1+rq) (K:=t.p) (by lia) (by lia)
      obtain⟨q,eq⟩:∃q:Nat,(rp+1+rq) % (t.p:Int)=(q:Int):=⟨_,(vd (xg _ (by lia))).symm⟩
      obtain⟨rp,rfl⟩:=Hf a4
      have hq:q<t.p/\q≠rp:=by
       rw[eq]at hmod
       split at hmod<;>lia
      have pp:0<t.p:=by lia
      refine⟨.Fe rp q sh,S6,?_,((p23.trans p4).trans p5).trans p6,⟨λz=>hq.2 z.symm,by lia,hq.1,a6,b6,c6⟩,trivial⟩
      subst hE
      simp[Wh,Tr.d,hP',e4,e5,pp,eq,e6,AR.d]
     .have s9:∀(x y:Ex) (T:Sto),xIf (D6 (eOp (o2 wEq) [eV 7,eC (.int 9)]) (eOp (o2 wGt) [eOp (o2 wIx) [eV 1,eC (.int 0)],eC (.int 1)])) x y E T=y E T:=by
       intro x y T
       subst hE
       by_cases z:way=9
       .have hP:¬(1:Int)<t.p:=by have:¬1<t.p:=λw=>h9 ⟨z,w⟩;lia
        subst z
        simp[Tr.d,hP]
       .have z':(way==9)=false:=by simpa using z
        simp[z']
      obtain⟨ws,S4,e4,p4,a4,b4⟩:=V5 p3.pen (n:=t.k+1) (by lia)
      have e4':Di [.ref p,.int ((t.k:Int)+1)] S3=Gc (.tup (ws.map .int),S4):=e4
      refine⟨.thr i (1+rs) ws,S4,?_,p23.trans p4,⟨fi.1,hsome.1,hsome.2,a4,b4⟩,trivial⟩
      have s8:∀(x y:Ex) (T:Sto),xIf (eOp (o2 wEq) [eV 7,eC (.int 8)]) x y E T=y E T:=by
       intro x y T
       subst hE
       simp[h8']
      simp[Wh,-T9,s8,s9]
      subst hE
      simp[Tr.d,e4',AR.d]
  by_cases hpool:way<5/\(Ep st i).isEmpty=false
  .obtain⟨hw5,hse⟩:=hpool
   have hsl:0<(Ep st i).length:=by
    cases z:Ep st i with
    |nil=>rw[z]at hse;cases hse
    |cons a b=>simp
   obtain⟨rj,S4,e4,a4,b4,p4⟩:=Am p3.pen (n:=(Ep st i).length) (by lia) (by lia)
   obtain⟨j,mj,ej⟩:=Le a4 b4
   have fj:=Xw mj
   have fj':=LG fj.1
   refine⟨.GJ i j,S4,?_,p23.trans p4,⟨λz=>fj.2.1 z.symm,fi.1,fj'.1,n1,fj'.2,fj.2.2.symm⟩,trivial⟩
   rw[pre]
   simp[VU,hw5,cs,okS,dqS,hse,nls,e4,ej,AR.d]
  .by_cases w5:way<5
   .have hse:(Ep st i).isEmpty=true:=by
     cases z:(Ep st i).isEmpty with
     |true=>rfl
     |false=>exact absurd ⟨w5,z⟩ hpool
    obtain⟨d,S',e,pn,hc⟩:=tail (Gc (.lst (GL (Ep st i)))) (λ_=>hse)
    refine⟨d,S',?_,pn,hc⟩
    rw[pre,<-e]
    simp[VU,w5,cs,okS,dqS,hse]
   .obtain⟨d,S',e,pn,hc⟩:=tail none (λz=>absurd z w5)
    refine⟨d,S',?_,pn,hc⟩
    rw[pre,<-e]
    simp[VU,w5]
def bh(hp:Dw p S)(hS:SAt S s l m as st)(hps:p∉s::l::m::as)(ht:Hn t)(h:FC t k st)(hk:k<=20):∃d S',DY [.ref p,t.d,.ref s] S=Gc (AR.d d,S')/\Pn p S S'/\Can t st d:=by
 obtain⟨d,S',a,b,c,_⟩:=Yq hp hS hps ht h hk
 exact⟨d,S',a,b,c⟩
end
noncomputable def runs(t:Tr)(st:Stt)(ds:Wp AR):Stt:=ds.foldl (step t) st
def MZ(t:Tr):Stt->Wp AR->Prop
 |_,[]=>AAI
 |st,d::ds=>Can t st d/\MZ t (step t st d) ds
theorem Kb:∀{ds} {st:Stt},MZ t st ds->Can t (runs t st ds) d->MZ t st (ds++[d])
 | [],st,_,h=>⟨h,trivial⟩
 |x::ds,st,h,g=>⟨h.1,Kb h.2 g⟩
def LM(h:MZ t st ds)(g:ds[i]?=Gc d):Can t (runs t st (ds.take i)) d:=by
 induction ds generalizing st i with
 |nil=>simp at g
 |cons x ds ih=>
  cases i with
  |zero=>simp at g;subst g;exact h.1
  |succ i=>simp at g;exact ih h.2 g
def Vo:runs t st (ds++[d])=step t (runs t st ds) d:=by simp[runs]
def Jw{ds:Wp AR}(h:ds[i]?=Gc d):runs t st (ds.take (i+1))=step t (runs t st (ds.take i)) d:=by
 rw[ABc,h]
 exact Vo
theorem OU(ht:Hn t):∀{ds} {st:Stt} {k},FC t k st->MZ t st ds->k+ds.length<=21->FC t (k+ds.length) (runs t st ds)
 | [],st,k,h,_,_=>h
 |d::ds,st,k,h,g,hl=>by
  have:=OU ht (ds:=ds) (RX ht h (by simp at hl;lia) g.1) g.2 (by simp at hl;lia)
  rw[show k+(d::ds).length=k+1+ds.length by simp;lia]
  exact this
theorem KJ:∀{ds} {st:Stt} {i},MZ t st ds->MZ t st (ds.take i)
 | [],st,i,h=>by simp;exact trivial
 |d::ds,st,0,h=>trivial
 |d::ds,st,i+1,h=>⟨h.1,KJ h.2⟩
noncomputable def st0(t:Tr)(ls:Wp Ld):Stt:=⟨ls,t.ho,[]⟩
structure CJ(t:Tr)(ls:Wp Ld)(ds:Wp AR):Prop where
 tr:Hn t
 inv:FC t 0 (st0 t ls)
 good:MZ t (st0 t ls) ds
 len:ds.length<=20
def CJ.at(h:CJ t ls ds) i:FC t (ds.take i).length (runs t (st0 t ls) (ds.take i)):=by
 have:=OU h.tr (ds:=ds.take i) h.inv (KJ h.good) (by have:=h.len;simp;lia)
 rwa [Nat.zero_add]at this
noncomputable def AK(t:Tr)(ls:Wp Ld)(ds:Wp AR):D:=.tup [t.d,.tup (ls.map Ld.d),.tup (ds.map AR.d)]
def U6(h:GB t ls)(hl:ls.length<=4)(h1:t.ho.length=t.p)(g0:0<g)(g1:g<=32)(g2:∀r∈t.ho,Ok g g r):FC t 0 (st0 t ls):=by
 obtain⟨ha,G,G0,G1,G2⟩:=h
 have hG:G<=32^4:=uZ G1 (vM (by decide) hl)
 have hB:G*g<2^30:=by
  have:=AAZ hG g1
  lia
 refine FC.of (G:=G*g) (B:=G*g) (by simpa[st0]using hl) ?_ h1 (uc _) (AAj G0 g0) (uc _) hB ?_
 .intro x hx
  have:=ha x hx
  exact⟨this.1,by lia,lU this.2.2.1,this.2.2.2.1,λr hr=>(G2 x hx r hr).up (uc _)⟩
 .intro r hr
  have:=(g2 r hr).up (t:=G) (B':=G*g) (by rw[yF];exact uc _)
  rwa [yF g G]at this
noncomputable def Pm:AR->vZ
 | .thr .. =>true
 |_=>false
def YZ d(E:En)(h:E=[Gc d.d]):eOp (o2 wEq) [eOp (o2 wIx) [eV 0,eC (.int 0)],eC (.str "throw")] E S=Gc (.bl (Pm d),S):=by
 subst h
 cases d<;>simp[AR.d,Pm]
noncomputable def stD(st:Stt):D:=.tup [.lst (st.AA.map Ld.d),shD st.hold]
def ao(hS:SAt S s l m as st)(hl:st.AA.length<=50):BZ [(l,as.map D.ref)] (tNm 0) BI (eOp (o1 B7) [eV 0]) (as.map D.ref) [] [none] S=Gc (st.AA.map Ld.d,S):=by
 have e:=EN (gs:=[(l,as.map D.ref)]) (t:=tNm 0) (f:=eOp (o1 B7) [eV 0]) (C:=[]) (m:=1) (e:=λz:Nat×Ld=>D.ref z.1) (g:=λz=>Ld.d z.2) hS.guard (xs:=as.zip st.AA) (acc:=[]) (os:=[none]) rfl (uZ (show _<=50 by simp;lia) (AJ (by decide))) (by
  intro z hz os ho
  obtain⟨q1,rfl⟩:=NJ ho
  refine⟨[Gc (.ref z.1)],rfl,by simp,?_⟩
  simp[An (hS.qS hz),Ld.d])
 rw[<-R1 hS.len,<-Uy hS.len Ld.d]at e
 exact e
theorem QX:D.tup (rs.map aD)=shD rs:=rfl
def VN:=A9 [Bk [] 1 (F7 (eOp (o2 wIx) [eV 1,eC (.int 0)])) (tNm 0) BI (eOp (o1 B7) [eV 0]),eOp (o1 B7) [eOp (o2 wIx) [eV 1,eC (.int 1)]]]
def RV(hS:SAt S s l m as st)(hl:st.AA.length<=50)(hE:at? E 1=Gc (.ref s)):VN E S=Gc (stD st,S):=by
 have r:=An hS.root
 have sq:=JT hS.lo
 have e:=ao hS hl
 simp[VN,hE,r,sq,e,QX,stD]
def TH(h:CJ t ls ds):∃q S',EV [AK t ls ds] S=Gc (.ref q,S')/\S'[q]?=Gc (.lst ((u6 (ds.length+1)).map λj=>stD (runs t (st0 t ls) (ds.take j))))/\Bq [] S S':=by
 have hl0:=h.inv.len
 have hl1:ls.length<=4:=hl0
 obtain⟨s,l,m,as,S1,e1,hS,sm,hn⟩:=OO (S:=S) (t:=t) (ls:=ls) (x:=.tup (ds.map AR.d)) (by lia)
 have hS:SAt S1 s l m as (st0 t ls):=hS
 have lt:=hS.lts
 have hS1:SAt (S1++[Cl.lst [stD (st0 t ls)]]) s l m as (st0 t ls):=hS.Vi .app
 have hq:(S1++[Cl.lst [stD (st0 t ls)]])[S1.length]?=Gc (.lst [stD (st0 t ls)]):=uy
 have qn:S1.length∉s::l::m::as:=λz=>by have:=lt _ z;lia
 have sn0:=λ{E:En} (hE:at? E 1=Gc (.ref s))=>RV (E:=E) hS (show ls.length<=50 by lia) hE
 have lSq:=sm.len
 generalize hQ:S1.length=q at*
 obtain⟨E',S',ef,i,as',o,f1,f2,rfl,f3,f4,f5,f6,f7⟩:=Gn (gs:=[]) (t:=tNm 3) (b:=AN (Bo (AF Bl [eOp (o2 wIx) [eV 0,eC (.int 0)],eV 1,eV 3]))
  (Bo (NC Nt (eV 2) [VN])))
  (I:=λrs E S'=>∃(i:Nat) (as':Wp Nat) (o:uR D),rs=(ds.drop i).map AR.d/\i<=ds.length/\E=[Gc (AK t ls ds),Gc (.ref s),Gc (.ref q),o]/\S'[q]?=Gc (.lst ((u6 (i+1)).map λj=>stD (runs t (st0 t ls) (ds.take j))))/\SAt S' s l m as' (runs t (st0 t ls) (ds.take i))/\q∉s::l::m::as'/\(∀n∈s::l::m::as',S.length<=n)/\Bq [] S S')
  (λ_ _ _ _=>AW) (ds:=ds.map AR.d) (E:=[Gc (AK t ls ds),Gc (.ref s),Gc (.ref q),none]) (S:=S1++[Cl.lst [stD (st0 t ls)]])
  ⟨0,as,none,by simp,wL _,rfl,by rw[hq];rfl,hS1,qn,hn,sm.trans .app⟩ (by
    rintro dd rs E T ⟨i,as',o,i1,i2,rfl,i3,i4,i5,i6,i7⟩
    have hlt:i<ds.length:=by
     rcases xo i ds.length with w|w
     .exact w
     .rw[vz w]at i1;cases i1
    rw[vP hlt,uw]at i1
    injection i1 with z1 z2
    subst z1 z2
    have inv:=h.at i
    have il:(ds.take i).length<=20:=by have:=h.len;simp;lia
    have can:=LM h.good (uS hlt)
    obtain⟨T2,as2,k1,k2,k3,k4⟩:=iT i4 h.tr inv il can
    have q2:=k3.get i3 i5
    rw[<-Jw (uS hlt)]at k2
    have inv2:=(h.at (i+1)).len
    have il2:(ds.take (i+1)).length<=20:=by have:=h.len;simp;lia
    have sn:=RV (E:=[Gc (AK t ls ds),Gc (.ref s),Gc (.ref q),Gc ds[i].d]) k2 (by lia) rfl
    have kk:=AQ q2
    have q5:q∉s::l::m::as2:=by
     intro z
     simp only[uY]at z i5
     rcases z with z|z|z|z
     .exact i5 (.inl z)
     .exact i5 (.inr (.inl z))
     .exact i5 (.inr (.inr (.inl z)))
     .rcases k4 _ z with w|w
      .exact i5 (.inr (.inr (.inr w)))
      .have:=Ai i3;lia
    have q6:∀n∈s::l::m::as2,S.length<=n:=by
     intro n hz
     simp only[uY]at hz i6
     rcases hz with z|z|z|z
     .exact i6 n (.inl z)
     .exact i6 n (.inr (.inl z))
     .exact i6 n (.inr (.inr (.inl z)))
     .rcases k4 _ z with w|w
      .exact i6 n (.inr (.inr (.inr w)))
      .exact uZ i7.len w
    have q7:Bq [] S T2:=Bq.new (A:=[]) i7 k3 i6
    refine⟨_,[Gc (AK t ls ds),Gc (.ref s),Gc (.ref q),Gc ds[i].d],T2.set q (.lst ((u6 (i+1+1)).map λj=>stD (runs t (st0 t ls) (ds.take j)))),by simp;rfl,?_,i+1,as2,Gc ds[i].d,rfl,hlt,rfl,uh (Ai q2),k2.same (A:=[q]) (.set (by simp)) (by simpa using q5),q5,q6,Bq.new (A:=[]) (B:=[q]) q7 (.set (by simp)) (by intro n hn';simp at hn';lia)⟩
    have hz:((u6 (i+1)).map λj=>stD (runs t (st0 t ls) (ds.take j))).length<sizeLine:=uU (show _<50 by have:=h.len;simp;lia) (AJ (by decide))
    have hfin:((u6 (i+1+1)).map λj=>stD (runs t (st0 t ls) (ds.take j)))=((u6 (i+1)).map λj=>stD (runs t (st0 t ls) (ds.take j)))++[stD (runs t (st0 t ls) (ds.take (i+1)))]:=by
     rw[List.range_succ,wV];rfl
    rw[hfin]
    generalize ((u6 (i+1)).map λj=>stD (runs t (st0 t ls) (ds.take j)))=DD at*
    generalize stD (runs t (st0 t ls) (ds.take (i+1)))=d2 at*
    simp only[AK]at sn⊢
    simp[k1,kk,sn,hz])
 have hz:i=ds.length:=by
  have:=congrArg ya f1
  simp at this
  lia
 subst hz
 refine⟨q,S',?_,f3,f7⟩
 have eb:K1=(AN (Ay 1 (AF CC [eV 0]))
  (AN (Ay 2 (JV [VN]))
  (AN (NH (F7 (eOp (o2 wIx) [eV 0,eC (.int 2)])) (tNm 3) (AN (Bo (AF Bl [eOp (o2 wIx) [eV 0,eC (.int 0)],eV 1,eV 3]))
  (Bo (NC Nt (eV 2) [VN]))))
  (AZ (eV 2))))):=rfl
 have s1:=sn0 (E:=[Gc (AK t ls ds),Gc (.ref s),none,none]) rfl
 unfold EV
 rw[eb]
 simp only[AK]at s1 ef⊢
 simp[e1,s1,hQ,ef]
def Qn(h:n<=m):HT.sIx m d (Gc (n:Int))=n:=by
 unfold HT.sIx
 have:¬((n:Int)<0):=by lia
 simp[this]
 lia
def Jf{ds:Wp α}(h:n<=ds.length):IU ds none (Gc (n:Int))=ds.take n:=by
 unfold IU
 rw[Qn h]
 simp[HT.sIx]
def XY{ds:Wp α}(h:n<=ds.length):IU ds (Gc (n:Int)) none=ds.drop n:=by
 unfold IU
 rw[Qn h]
 simp[HT.sIx]
 exact zL (by simp)
noncomputable def hD(x:Ld):D:=.tup [.int x.k,.int x.n]
noncomputable def Au(ls:Wp Ld):D:=.lst (ls.map hD)
noncomputable def Ko(ls:Wp Ld):D:=.lst (ls.map λx=>shD x.ow)
section
variable{ls:Wp Ld}{i j:Nat}{n:Int}
@[simp] def nB:dr S (Au ls)=.val (Au ls):=rfl
@[simp] def qL:dr S (Ko ls)=.val (Ko ls):=rfl
@[simp] def lL:asS (.val (Au ls))=some (ls.map hD):=rfl
@[simp] def lO:asS (.val (Ko ls))=some (ls.map λx=>shD x.ow):=rfl
def IF(hi:i<ls.length):atI (ls.map hD) (i:Int)=Gc (hD (AL ls i)):=B3 (by rw[um,EL hi];rfl)
def Lh(hi:i<ls.length):atI (ls.map λx=>shD x.ow) (i:Int)=Gc (shD (AL ls i).ow):=B3 (by rw[um,EL hi];rfl)
@[simp] def tF:dr S (hD x)=.val (.tup [.int x.k,.int x.n]):=rfl
@[simp] def qp:tTp ts (hD x) E S=tMs ts [.int x.k,.int x.n] E S:=rfl
def Xp:wSl lo hi (.val (Au ls))=Gc (.own (IU (ls.map hD) lo hi)):=rfl
def FD(hi:i<ls.length)(hl:ls.length<=60):BN [Au ls,.int i,.int n] S=Gc (Au (less ls i n),S):=by
 have c1:=Jf (ds:=ls.map hD) (n:=i) (by simp;lia)
 have c2:IU (ls.map hD) (Gc ((i:Int)+1)) none=(ls.map hD).drop (i+1):=by
  have:=XY (ds:=ls.map hD) (n:=i+1) (by simp;lia)
  simpa using this
 have ef:Au (less ls i n)=.lst ((ls.map hD).take i++[.tup [.int (AL ls i).k,.int ((AL ls i).n-n)]]++(ls.map hD).drop (i+1)):=by
  rw[Qi,Au,yH,List.set_eq_take_append_cons_drop,vC (by simpa using hi)]
  simp[hD]
 have z1:(List.take i (ls.map hD)).length+1<=sizeLine:=uZ (show _<=100 by simp;lia) (AJ (by decide))
 have z2:(List.take i (ls.map hD)++[D.tup [.int (AL ls i).k,.int ((AL ls i).n-n)]]).length+(List.drop (i+1) (ls.map hD)).length<=sizeLine:=uZ (show _<=100 by simp;rw[yL (yd hi)];exact uZ (Nat.le_of_eq (Nat.add_sub_cancel' hi)) (uZ hl (by decide))) (AJ (by decide))
 rw[ef]
 have ah:=IF hi
 have ws:=λ{lo hi:uR Int}=>Xp (ls:=ls) (lo:=lo) (hi:=hi)
 generalize List.take i (ls.map hD)=A at*
 generalize List.drop (i+1) (ls.map hD)=B at*
 simp only[vp,vG,xf]at z2
 simp[BN,G7,ah,ws,c1,c2,z1,z2]
end
section
variable{S:Sto}{st:Stt}{t:Tr}{k:Nat}
@[simp] def Ej:CN (.val (Au ls)) (.val (.lst r))=if(ls.map hD).length+r.length<=sizeLine then some (.own (ls.map hD++r))else none:=rfl
def LJ:D.lst (ls.map hD++[.tup [.int y.k,.int y.n]])=Au (ls++[y]):=by simp[Au,hD]
def Ll(h:FC t k st)(hk:k<=21)(hc:Can t st d):Ad [Au st.AA,d.d] S=Gc (Au (step t st d).AA,S):=by
 have hlen:=h.len
 have hz:(st.AA.map hD).length+1<=sizeLine:=uZ (show _<=100 by simp;lia) (AJ (by decide))
 have hz2:∀{i:Nat} {n:Int},((less st.AA i n).map hD).length+1<=sizeLine:=λ{i n}=>uZ (show _<=100 by simp[Dk];lia) (AJ (by decide))
 cases d with
 |CU p kd n=>
  have e:=LJ (ls:=st.AA) (y:=⟨kd,n,Vj t.p p⟩)
  show _=Gc (Au (st.AA++[⟨kd,n,Vj t.p p⟩]),S)
  rw[<-e]
  have wA:=Ej (ls:=st.AA) (r:=[.tup [.int kd,.int n]])
  rw[vC (by simpa using hz)]at wA
  simp[Ad,BH,AR.d,-Ej,wA]
 |GJ i j=>
  obtain⟨hij,hi,hj,h1,h2,h3⟩:=hc
  have e0:AL (less st.AA i (AL st.AA i).n) j=AL st.AA j:=by
   unfold AL less
   rw[uz,uV hij,<-uz]
  have w1:=FD (S:=S) (n:=(AL st.AA i).n) hi (by lia)
  have w2:=FD (S:=S) (ls:=less st.AA i (AL st.AA i).n) (i:=j) (n:=(AL st.AA j).n) (by rw[Dk];exact hj) (by rw[Dk];lia)
  have z3:((less (less st.AA i (AL st.AA i).n) j (AL st.AA j).n).map hD).length+1<=sizeLine:=uZ (show _<=100 by simp[Dk];lia) (AJ (by decide))
  have e:=LJ (ls:=less (less st.AA i (AL st.AA i).n) j (AL st.AA j).n) (y:=⟨(AL st.AA i).k,(AL st.AA i).n+(AL st.AA j).n,CD (AL st.AA i).n (AL st.AA j).n (AL st.AA i).ow (AL st.AA j).ow⟩)
  show _=Gc (Au (less (less st.AA i (AL st.AA i).n) j (AL st.AA j).n++[_]),S)
  rw[<-e]
  have a1:=IF hi
  have a2:=IF hj
  have wA:=Ej (ls:=less (less st.AA i (AL st.AA i).n) j (AL st.AA j).n) (r:=[.tup [.int (AL st.AA i).k,.int ((AL st.AA i).n+(AL st.AA j).n)]])
  rw[vC (by simpa using z3)]at wA
  generalize (less (less st.AA i (AL st.AA i).n) j (AL st.AA j).n).map hD=A at*
  simp[Ad,BH,AR.d,a1,a2,w1,w2,-Ej,wA]
 |swap i g kd n=>
  obtain⟨hi,h1,h2,h3,h4,h5,h6⟩:=hc
  have w1:=FD (S:=S) (n:=g) hi (by lia)
  have e:=LJ (ls:=less st.AA i g) (y:=⟨kd,n,(AL st.AA i).ow⟩)
  show _=Gc (Au (less st.AA i g++[⟨kd,n,(AL st.AA i).ow⟩]),S)
  rw[<-e]
  have wA:=Ej (ls:=less st.AA i g) (r:=[.tup [.int kd,.int n]])
  rw[vC (by simpa using hz2)]at wA
  simp[Ad,BH,AR.d,w1,-Ej,wA]
 |Bv u i g kd n=>
  obtain⟨hi,h1,h2,h3,h4,h5,h6,h7⟩:=hc
  have w1:=FD (S:=S) (n:=g) hi (by lia)
  have e:=LJ (ls:=less st.AA i g) (y:=⟨kd,n,(AL st.AA i).ow⟩)
  show _=Gc (Au (less st.AA i g++[⟨kd,n,(AL st.AA i).ow⟩]),S)
  rw[<-e]
  have wA:=Ej (ls:=less st.AA i g) (r:=[.tup [.int kd,.int n]])
  rw[vC (by simpa using hz2)]at wA
  simp[Ad,BH,AR.d,w1,-Ej,wA]
 |Ci i n=>
  obtain⟨hi,h1,h2⟩:=hc
  have w1:=FD (S:=S) (n:=n) hi (by lia)
  show _=Gc (Au (less st.AA i n),S)
  simp[Ad,BH,AR.d,w1]
 |thr i n ws=>
  obtain⟨hi,h1,h2,h3,h4⟩:=hc
  have w1:=FD (S:=S) (n:=n) hi (by lia)
  have e:Au (step t st (.thr i n ws)).AA=Au (less st.AA i n):=by
   show D.lst (((less st.AA i n).map _).map hD)=_
   rw[wC];rfl
  rw[e]
  simp[Ad,BH,AR.d,w1]
 |Fe p q x=>
  have e:Au (step t st (.Fe p q x)).AA=Au st.AA:=by
   show D.lst ((st.AA.map _).map hD)=_
   rw[wC];rfl
  rw[e]
  simp[Ad,BH,AR.d]
noncomputable def G6:AR->uR Int
 | .Bv u .. =>Gc u
 |_=>none
def Pz:∀{ds},(runs t (st0 t ls) ds).nums=ds.filterMap G6:=by
 intro ds
 have:∀(ds:Wp AR) (st:Stt),(runs t st ds).nums=st.nums++ds.filterMap G6:=by
  intro ds
  induction ds with
  |nil=>intro st;simp[runs]
  |cons d ds ih=>
   intro st
   show(runs t (step t st d) ds).nums=_
   rw[ih]
   cases d<;>simp[step,G6,vc]
 rw[this];rfl
theorem Kw:∀{ds:Wp AR} {acc} {o},acc.length+ds.length<=100->BZ [] (tNm 0) (eOp (o2 wEq) [eOp (o2 wIx) [eV 0,eC (.int 0)],eC (.str "trade")]) (eOp (o2 wIx) [eV 0,eC (.int 1)]) (ds.map AR.d) acc [o] S=Gc (acc++(ds.filterMap G6).map D.int,S)
 | [],acc,o,h=>by rw[wF,DA AW];simp
 |d::ds,acc,o,h=>by
  have hz:acc.length<sizeLine:=uU (show acc.length<101 by simp at h;lia) (AJ (by decide))
  have ht:tNm 0 d.d [o] S=Gc [Gc d.d]:=by simp
  rw[uw]
  cases d with
  |Bv u i g kd n=>
   rw[FN AW hz ht (S1:=S) (by simp[AR.d])]
   have:eOp (o2 wIx) [eV 0,eC (.int 1)] [Gc (AR.Bv u i g kd n).d] S=Gc (.int u,S):=by simp[AR.d]
   rw[this,A1,Kw (by simp at h ⊢; lia)]
   simp[G6,vc]
  |CU=>rw[JL AW hz ht (S1:=S) (by simp[AR.d]),Kw (by simp at h ⊢; lia)];simp[G6,vc]
  |GJ=>rw[JL AW hz ht (S1:=S) (by simp[AR.d]),Kw (by simp at h ⊢; lia)];simp[G6,vc]
  |swap=>rw[JL AW hz ht (S1:=S) (by simp[AR.d]),Kw (by simp at h ⊢; lia)];simp[G6,vc]
  |Ci=>rw[JL AW hz ht (S1:=S) (by simp[AR.d]),Kw (by simp at h ⊢; lia)];simp[G6,vc]
  |thr=>rw[JL AW hz ht (S1:=S) (by simp[AR.d]),Kw (by simp at h ⊢; lia)];simp[G6,vc]
  |Fe=>rw[JL AW hz ht (S1:=S) (by simp[AR.d]),Kw (by simp at h ⊢; lia)];simp[G6,vc]
end
theorem Zj{gs:Gd}{t:Tf}{I:Wp D->En->Sto->Prop}{R:D->Sto->Prop}(hg:∀ds E S,I ds E S->gOk gs S):∀{ds} {E} {S},I ds E S->(∀d ds E S,I (d::ds) E S->∃E1,t d E S=Gc E1/\((∃E2 S2,b E1 S=Gc (.nx,E2,S2)/\I ds E2 S2)\/∃w E2 S2,b E1 S=Gc (.ret w,E2,S2)/\R w S2))->(∃E' S',Md gs t b ds E S=Gc (.nx,E',S')/\I [] E' S')\/∃w E' S',Md gs t b ds E S=Gc (.ret w,E',S')/\R w S'
 | [],E,S,hI,h=>.inl ⟨E,S,Jy (hg _ _ _ hI),hI⟩
 |d::ds,E,S,hI,h=>by
  obtain⟨E1,e1,⟨E2,S2,e2,I2⟩|⟨w,E2,S2,e2,r⟩⟩:=h d ds E S hI
  .rcases Zj hg I2 h with⟨E',S',e3,I3⟩|⟨w,E',S',e3,r⟩
   .exact .inl ⟨E',S',by rw[EC (hg _ _ _ hI),e1];simp[e2,e3],I3⟩
   .exact .inr ⟨w,E',S',by rw[EC (hg _ _ _ hI),e1];simp[e2,e3],r⟩
  .exact .inr ⟨w,E2,S2,by rw[EC (hg _ _ _ hI),e1];simp[e2],r⟩
def Wf(t:Tr):AR->Prop
 | .CU p k n=>p<t.p/\k<t.k/\1<=n/\n<2^131
 | .GJ a b=>a≠b
 | .swap _ g k n=>1<=g/\k<t.k/\1<=n/\n<2^131
 | .Bv u _ g k n=>1<=g/\k<t.k/\1<=n/\n<2^131/\0<=u/\u<=9
 | .Ci _ n=>1<=n
 | .thr _ n ws=>1<=n/\ws.length=t.k+1/\∀w∈ws,1<=w/\w<=99
 | .Fe p q x=>p≠q/\p<t.p/\q<t.p/\0<x.num/\x.num<=x.den/\x.den<=12
noncomputable def thB(st:Stt)(l:Nat)(n:Int):vZ:=decide (l<st.AA.length) && decide (n<=(AL st.AA l).n)
noncomputable def swB(st:Stt)(l:Nat)(g:Int)(k:Nat):vZ:=thB st l g && !((AL st.AA l).k==k)
noncomputable def HE(st:Stt):AR->vZ
 | .CU .. =>true
 | .GJ a b=>thB st a 1 && (thB st b 1 && ((AL st.AA a).k==(AL st.AA b).k))
 | .swap l g k _=>swB st l g k
 | .Bv u l g k _=> !(st.nums.any λx=>x==u) && swB st l g k
 | .Ci l n=>thB st l n
 | .thr l n _=>thB st l n
 | .Fe .. =>true
section
variable{st:Stt}
def kI{us:Wp Int}:(us.any λx=>x==u)=false↔u∉us:=by
 rw[List.any_eq_false]
 constructor
 .intro h z
  exact h u z (by simp)
 .intro h x hx z
  have:x=u:=by simpa using z
  exact h (this▸hx)
def ZW(hw:Wf t d)(h:HE st d=true):Can t st d:=by
 cases d with
 |CU p k n=>exact hw
 |GJ a b=>
  simp only[HE,thB,ub,vV,wI]at h
  obtain⟨⟨h1,h2⟩,⟨h3,h4⟩,h5⟩:=h
  exact⟨hw,h1,h3,by lia,by lia,h5⟩
 |swap l g k n=>
  simp only[HE,swB,thB,ub,vV,xn,vb,ne_eq]at h
  obtain⟨w1,w2,w3,w4⟩:=hw
  exact⟨h.1.1,w1,h.1.2,w2,λz=>h.2 z.symm,w3,w4⟩
 |Bv u l g k n=>
  simp only[HE,swB,thB,ub,vV,xn,vb,ne_eq]at h
  obtain⟨w1,w2,w3,w4,w5,w6⟩:=hw
  exact⟨h.2.1.1,w1,h.2.1.2,w2,λz=>h.2.2 z.symm,w3,w4,kI.mp h.1,w5,w6⟩
 |Ci l n=>
  simp only[HE,thB,ub,vV]at h
  exact⟨h.1,hw,h.2⟩
 |thr l n ws=>
  simp only[HE,thB,ub,vV]at h
  exact⟨h.1,hw.1,h.2,hw.2⟩
 |Fe p q x=>exact hw
def VC(h:Can t st d):Wf t d/\HE st d=true:=by
 cases d with
 |CU p k n=>exact⟨h,rfl⟩
 |GJ a b=>
  obtain⟨h1,h2,h3,h4,h5,h6⟩:=h
  refine⟨h1,?_⟩
  simp only[HE,thB,ub,vV,wI]
  exact⟨⟨h2,by lia⟩,⟨h3,by lia⟩,h6⟩
 |swap l g k n=>
  obtain⟨h1,h2,h3,h4,h5,h6,h7⟩:=h
  refine⟨⟨h2,h4,h6,h7⟩,?_⟩
  simp only[HE,swB,thB,ub,vV,xn,vb,ne_eq]
  exact⟨⟨h1,h3⟩,λz=>h5 z.symm⟩
 |Bv u l g k n=>
  obtain⟨h1,h2,h3,h4,h5,h6,h7,h8,h9,h10⟩:=h
  refine⟨⟨h2,h4,h6,h7,h9,h10⟩,?_⟩
  simp only[HE,swB,thB,ub,vV,xn,vb,ne_eq]
  exact⟨kI.mpr h8,⟨h1,h3⟩,λz=>h5 z.symm⟩
 |Ci l n=>
  obtain⟨h1,h2,h3⟩:=h
  refine⟨h2,?_⟩
  simp only[HE,thB,ub,vV]
  exact⟨h1,h3⟩
 |thr l n ws=>
  obtain⟨h1,h2,h3,h4⟩:=h
  refine⟨⟨h2,h4⟩,?_⟩
  simp only[HE,thB,ub,vV]
  exact⟨h1,h3⟩
 |Fe p q x=>exact⟨h,rfl⟩
def Of(h:l<st.AA.length):atI (st.AA.map hD) (l:Int)=Gc (hD (AL st.AA l)):=B3 (by rw[um,EL h];rfl)
def L5{l:Nat}:BU [Au st.AA,.int l,.int n] S=Gc (.bl (thB st l n),S):=by
 by_cases h:l<st.AA.length
 .have a:=Of h
  have h':(l:Int)<(st.AA.length:Int):=by lia
  have e:thB st l n=decide (n<=(AL st.AA l).n):=by simp[thB,h]
  rw[e]
  simp[BU,F9,Au,h',a,hD]
 .have h':¬(l:Int)<(st.AA.length:Int):=by lia
  have e:thB st l n=false:=by simp[thB,h]
  rw[e]
  simp[BU,F9,Au,h']
def Li(h:thB st l n=true):l<st.AA.length:=by
 simp only[thB,ub,vV]at h
 exact h.1
def KQ{a b:Nat}:((a:Int)==(b:Int))=(a==b):=by
 rw[we,wI,wI]
 exact Int.ofNat_inj
def RD{l k:Nat}:DV [Au st.AA,.int l,.int g,.int k] S=Gc (.bl (swB st l g k),S):=by
 have e:=L5 (S:=S) (st:=st) (l:=l) (n:=g)
 unfold swB
 cases h:thB st l g with
 |false=>
  rw[h]at e
  generalize Au st.AA=HD at*
  simp[DV,IC,e]
 |true=>
  rw[h]at e
  have a:=Of (Li h)
  simp only[Au]at e⊢
  have nb:=KQ (a:=(AL st.AA l).k) (b:=k)
  generalize st.AA.map hD=HL at*
  simp[DV,IC,e,a,hD,nb]
def W5{a b:Nat}:Dg [Au st.AA,.int a,.int b] S=Gc (.bl (thB st a 1 && (thB st b 1 && ((AL st.AA a).k==(AL st.AA b).k))),S):=by
 have e1:=L5 (S:=S) (st:=st) (l:=a) (n:=1)
 have e2:=L5 (S:=S) (st:=st) (l:=b) (n:=1)
 cases h:thB st a 1 with
 |false=>
  rw[h]at e1
  generalize Au st.AA=HD at*
  simp[Dg,Ff,e1]
 |true=>
  rw[h]at e1
  cases h2:thB st b 1 with
  |false=>
   rw[h2]at e2
   generalize Au st.AA=HD at*
   simp[Dg,Ff,e1,e2]
  |true=>
   rw[h2]at e2
   have a1:=Of (Li h)
   have a2:=Of (Li h2)
   have nb:=KQ (a:=(AL st.AA a).k) (b:=(AL st.AA b).k)
   simp only[Au]at e1 e2⊢
   generalize st.AA.map hD=HL at*
   simp[Dg,Ff,e1,e2,a1,a2,hD,nb]
def gQ{ds:Wp AR}(hd:ds.length<=50)(hn:st.nums=ds.filterMap G6):Bc [Au st.AA,.tup (ds.map AR.d),d.d] S=Gc (.bl (HE st d),S):=by
 cases d with
 |CU p kd n=>simp[Bc,DU,AR.d,HE]
 |GJ i j=>
  have e:=W5 (S:=S) (st:=st) (a:=i) (b:=j)
  simp[Bc,DU,AR.d,e,HE]
 |swap i g kd n=>
  have e:=RD (S:=S) (st:=st) (l:=i) (g:=g) (k:=kd)
  simp[Bc,DU,AR.d,e,HE]
 |Bv u i g kd n=>
  have e:=RD (S:=S) (st:=st) (l:=i) (g:=g) (k:=kd)
  have tc:=Kw (S:=S) (ds:=ds) (acc:=[]) (o:=none) (by simp;lia)
  rw[<-hn]at tc
  have fi:=MW (us:=st.nums)
  have ii:=Ou (us:=st.nums) (i:=u)
  have cb:HE st (.Bv u i g kd n)=(!(st.nums.any λx=>x==u) && swB st i g kd):=rfl
  rw[cb]
  generalize st.nums.map D.int=ud at*
  generalize (st.nums.any λx=>x==u)=q at*
  rw[vK]at tc
  cases q<;>simp[Bc,DU,AR.d,tc,fi,ii,e]
 |Ci i n=>
  have e:=L5 (S:=S) (st:=st) (l:=i) (n:=n)
  simp[Bc,DU,AR.d,e,HE]
 |thr i n ws=>
  have e:=L5 (S:=S) (st:=st) (l:=i) (n:=n)
  simp[Bc,DU,AR.d,e,HE]
 |Fe p q x=>simp[Bc,DU,AR.d,HE]
end
section
variable{S:Sto}{st:Stt}
def Xx{ss os:Wp Rat}:NM (ss.map aD) (os.map aD)=(ss.zip os).map λz=>D.tup [aD z.1,aD z.2]:=by
 unfold NM
 rw[List.zip_map,wC]
 rfl
noncomputable def aU(w m:Int)(ss os:Wp Rat):Wp Rat:=AAC (λs o=>(s*w+o*m) / (w+m)) ss os
def FJ{ss os:Wp Rat}(hs:∀r∈ss,Sz j r)(ho:∀r∈os,Sz j r)(hw:w.natAbs<2^n)(hm:m.natAbs<2^n)(h:0<w+m)(hj:2*j+n+1<=7990)(hl:ss.length<=50):CL [shD ss,.int w,shD os,.int m] S=Gc (shD (aU w m ss os),S):=by
 have e:=EN (gs:=[]) (t:=tTp [tNm 2,tNm 3]) (f:=AF Hy [eV 2,eV 0,eV 3,eV 1]) (C:=[Gc (.int w),Gc (.int m)]) (m:=2) (e:=λz:Rat×Rat=>D.tup [aD z.1,aD z.2]) (g:=λz=>aD ((z.1*w+z.2*m) / (w+m))) (S:=S) AW (xs:=ss.zip os) (acc:=[]) (os:=[none,none]) rfl (uZ (show _<=50 by simp;lia) (AJ (by decide))) (by
  intro z hz os' ho'
  obtain⟨q1,q2,rfl⟩:=jh ho'
  have hm2:=wc (a:=z.1) (b:=z.2) hz
  have l:=gc (S:=S) (hs _ hm2.1) (ho _ hm2.2) hw hm h (by lia)
  refine⟨[Gc (aD z.1),Gc (aD z.2)],rfl,by simp,?_⟩
  simp[l])
 rw[<-Xx]at e
 have em:(ss.zip os).map (λz=>aD ((z.1*w+z.2*m) / (w+m)))=(aU w m ss os).map aD:=by
  unfold aU
  rw[<-List.map_uncurry_zip_eq_zipWith,wC]
  rfl
 rw[em]at e
 simp only[vU,vK]at e
 simp[CL,HA,e,QX]
def Oj{P p:Nat}(hP:P<=50):ES [.int P,.int p] S=Gc (shD (Vj P p),S):=by
 have e:=Rb (S:=S) (P:=P) (p:=p) (cond:=0) (C:=[]) (dd:=.int p) (f:=eIf (eOp (o2 wEq) [eV 1,eV 0]) (eC N9) (eC Dy)) hP (by
  intro i
  by_cases hi:i=p
  .subst hi;simp;rfl
  .have:((i:Int)==(p:Int))=false:=by simp;lia
   simp[this,hi];rfl)
 have rn:J6 (P:Int)=true:=ER (by lia) (by lia)
 simp[ES,IY,rn,e,QX]
def Ls{ss os:Wp Rat}:aU n m ss os=CD n m ss os:=by
 unfold aU CD
 congr 1
 funext s o
 push_cast
 rfl
def Qy{ss os:Wp Rat}:CD n m ss os=CD m n os ss:=by
 unfold CD
 rw[List.zipWith_comm]
 congr 1
 funext o s
 push_cast
 grind
@[simp] def VJ:NI [a,b]=if a<=b then [a,b]else [b,a]:=by
  unfold NI
  simp[List.mergeSort,ACN,List.merge]
@[simp] def cB:Og (.val (.lst [.int a,.int b]))=some (.own ((if a<=b then [a,b]else [b,a]).map D.int)):=by
  have:Og (.val (.lst [.int a,.int b]))=Gc (.own ((NI [a,b]).map D.int)):=rfl
  rw[this,VJ]
@[simp] def kg{a b c d e:D}:atI [a,b,c,d,e] (-4)=some b:=rfl
@[simp] def lZ{a b c d e f:D}:atI [a,b,c,d,e,f] (-4)=some c:=rfl
def Wc(ht:Hn t)(h:FC t k st)(hk:k<=21)(hc:Can t st (.GJ i j)):A7 [Au st.AA,Ko st.AA,(AR.GJ i j).d] S=Gc (shD (CD (AL st.AA i).n (AL st.AA j).n (AL st.AA i).ow (AL st.AA j).ow),S):=by
 obtain⟨hij,hi,hj,h1,h2,h3⟩:=hc
 have sz:=h.sz
 have pi:=h.pcs _ (Ao hi)
 have pj:=h.pcs _ (Ao hj)
 have ti:=h.own _ (Ao hi)
 have tj:=h.own _ (Ao hj)
 have zi:=sz.1 _ (Ao hi)
 have zj:=sz.1 _ (Ao hj)
 have hp:t.p<=10:=by have:=ht.2.1;lia
 .by_cases hle:i<=j
  .have hle':(i:Int)<=j:=by lia
   have e:=FJ (S:=S) (j:=30+170*k) (n:=131+k) zi zj (F1 pi.1 pi.2) (F1 pj.1 pj.2) (by lia) (by lia) (by lia)
   rw[Ls]at e
   have a1:=IF hi
   have a2:=IF hj
   have b1:=Lh hi
   have b2:=Lh hj
   have mf:Be [(AR.GJ i j).d] S=Gc (.lst [.int i,.int j],S):=by
    simp[Be,Dt,AR.d,hle,hle']
   simp only[AR.d]at mf⊢
   simp[A7,CW,mf,a1,a2,b1,b2,e]
  .have hle':¬(i:Int)<=j:=by lia
   have e:=FJ (S:=S) (j:=30+170*k) (n:=131+k) zj zi (F1 pj.1 pj.2) (F1 pi.1 pi.2) (by lia) (by lia) (by lia)
   rw[Ls,Qy]at e
   have a1:=IF hi
   have a2:=IF hj
   have b1:=Lh hi
   have b2:=Lh hj
   have mf:Be [(AR.GJ i j).d] S=Gc (.lst [.int j,.int i],S):=by
    simp[Be,Dt,AR.d,hle,hle']
   simp only[AR.d]at mf⊢
   simp[A7,CW,mf,a1,a2,b1,b2,e]
def WX(hi:i<st.AA.length):A7 [Au st.AA,Ko st.AA,(AR.swap i g kd n).d] S=Gc (shD (AL st.AA i).ow,S):=by
 have b1:=Lh hi
 simp[A7,CW,Be,Dt,AR.d,b1]
def SN(hi:i<st.AA.length):A7 [Au st.AA,Ko st.AA,(AR.Bv u i g kd n).d] S=Gc (shD (AL st.AA i).ow,S):=by
 have b1:=Lh hi
 simp[A7,CW,Be,Dt,AR.d,b1]
def XG(h:FC t k st)(hk:k<=21)(hl:ws.length=t.k+1)(hw:∀w∈ws,1<=w/\w<=99):DH [t.d,Au st.AA,.tup (ws.map D.int)] S=Gc (.int (Ef t st.AA ws),S):=by
 have hlen:=h.len
 have e:=EN (gs:=[]) (t:=tTp [tNm 1,tNm 2]) (f:=eOp (o2 B5) [eV 2,eOp (o2 wIx) [eV 0,eV 1]]) (C:=[Gc (.tup (ws.map D.int))]) (m:=2) (e:=hD) (g:=λx=>D.int (x.n*ws.getD x.k 0)) (S:=S) AW (xs:=st.AA) (acc:=[]) (os:=[none,none]) rfl (uZ (show _<=50 by simp;lia) (AJ (by decide))) (by
  intro x hx os ho
  obtain⟨q1,q2,rfl⟩:=jh ho
  have hkk:=h.kind _ hx
  have w1:=RZ (ws:=ws) (i:=x.k) (by lia)
  have w2:=MX hw (i:=x.k) (by lia)
  have m1:Dj x.n (ws.getD x.k 0)=true:=mulR (by lia) (by lia)
  generalize ws.getD x.k 0=wz at*
  refine⟨[Gc (.int x.k),Gc (.int x.n)],rfl,by simp,?_⟩
  simp[w1,m1])
 simp only[vU,vK]at e
 have es:LF (st.AA.map λx=>D.int (x.n*ws.getD x.k 0))=Gc (st.AA.map λx=>x.n*ws.getD x.k 0):=by
  have:=GQ (st.AA.map λx=>x.n*ws.getD x.k 0)
  rwa [wC]at this
 have w2:=OX hl
 have w4:=MX hw (i:=t.k) (by lia)
 have m2:Dj (t.b:Int) (ws.getD t.k 0)=true:=mulR (by lia) (by lia)
 have e2:Ef t st.AA ws=(st.AA.map λx=>x.n*ws.getD x.k 0).sum+t.b*ws.getD t.k 0:=rfl
 rw[e2]
 have sq:sqD S (Au st.AA)=Gc (st.AA.map hD,[]):=rfl
 generalize (st.AA.map λx=>x.n*ws.getD x.k 0)=es' at*
 generalize (st.AA.map λx=>D.int (x.n*ws.getD x.k 0))=es2 at*
 generalize ws.getD t.k 0=wb at*
 simp[DH,G5,Tr.d,sq,e,es,w2,m2]
def aS(ht:Hn t)(h:FC t k st)(hk:k<=21)(hc:Can t st (.thr i n ws)):D5 [t.d,Au st.AA,(AR.thr i n ws).d] S=Gc (aD (Iv t st.AA i n ws),S):=by
 obtain⟨hi,h1,h2,hl,hw⟩:=hc
 have a:=Jd ht h (by lia) hl hw
 have w1:=RZ (ws:=ws) (i:=(AL st.AA i).k) (by have:=h.kind _ (Ao hi);lia)
 have w3:=MX hw (i:=(AL st.AA i).k) (by have:=h.kind _ (Ao hi);lia)
 have m1:Dj n (ws.getD (AL st.AA i).k 0)=true:=mulR (by lia) (by lia)
 have l1:=WI (S:=S) (t:=n*ws.getD (AL st.AA i).k 0) a.1 (C9 (F1 (by lia) a.2) (by lia))
 have wo:=XG (S:=S) h hk hl hw
 have ah:=IF hi
 rw[LQ hi]
 generalize aD (((n*ws.getD (AL st.AA i).k 0:Int):Rat) / (Ef t st.AA ws:Rat))=R at*
 generalize ws.getD (AL st.AA i).k 0=wa at*
 simp[D5,Hj,AR.d,ah,w1,m1,wo,l1]
def WD{ss os:Wp Rat}:aU ((X.den:Int)-X.num) X.num ss os=HI X os ss:=by
 unfold aU HI
 congr 1
 funext s o
 have h1:=DJ X
 have h2:=Hl X
 push_cast
 have e:((X.den:Rat)-(X.num:Rat)+(X.num:Rat))=(X.den:Rat):=by grind
 rw[e]
 grind
def V3(ht:Hn t)(h:FC t k st)(hk:k<=21)(hc:Can t st (.thr i n ws))(hs:∀r∈ss,Sz (30+170*k) r)(hl:ss.length<=50):Ct [t.d,Au st.AA,Ko st.AA,(AR.thr i n ws).d,shD ss] S=Gc (shD (HI (Iv t st.AA i n ws) (AL st.AA i).ow ss),S):=by
 have pt:=aS (S:=S) ht h hk hc
 obtain⟨hi,h1,h2,hl',hw⟩:=hc
 have cz:=Ud ht h (by lia) hl' hw hi h1 h2
 have b1:=Lh hi
 generalize Iv t st.AA i n ws=X at*
 have d0:=den_pos X
 have c2:=cz.2
 have e:=FJ (S:=S) (w:=(X.den:Int)-X.num) (m:=X.num) (j:=30+170*k) (n:=146+k) hs (h.sz.1 _ (Ao hi)) (by
  rw[show 146+k=(145+k)+1 by lia,ABE,Nat.mul_two]
  exact vJ (Int.natAbs_sub_le _ _) (Nat.add_lt_add c2 cz.1)) (aO cz.1 (by lia)) (by lia) (by lia) hl
 rw[WD]at e
 generalize HI X (AL st.AA i).ow ss=rs at*
 simp only[aD,AR.d]at pt⊢
 simp[Ct,GP,pt,b1,e]
def U9(hs:∀r∈ss,Sz j r)(hx:Sz i x)(hj:2*j+i<=7900)(hp:p<ss.length)(hq:q<ss.length)(hpq:p≠q):∃S',Du [(AR.Fe p q x).d,shD ss] S=Gc (shD (Gp p q x ss),S')/\Bq [] S S':=by
 have sp:=hs _ (getD_mem (d:=0) hp)
 have sq:=hs _ (getD_mem (d:=0) hq)
 have l1:∀S,FL [aD (ss.getD p 0),aD x] S=Gc (aD (ss.getD p 0*x),S):=λS=>ZL sp hx (by lia)
 have s1:=NZ sp hx
 have l2:∀S,J0 [aD (ss.getD p 0),aD (ss.getD p 0*x)] S=Gc (aD (ss.getD p 0-ss.getD p 0*x),S):=λS=>pQ sp s1 (by lia)
 have l3:∀S,E5 [aD (ss.getD q 0),aD (ss.getD p 0*x)] S=Gc (aD (ss.getD q 0+ss.getD p 0*x),S):=λS=>dj sq s1 (by lia)
 have a1:=Vl hp
 have a2:=Vl hq
 have i1:=Zo hp
 have i2:ixN (((ss.map aD).set p (aD (ss.getD p 0-ss.getD p 0*x))).length) (q:Int)=Gc q:=Lf (by simpa using hq)
 refine⟨S++[.lst ((Gp p q x ss).map aD)],?_,.app⟩
 simp only[wU,vN]at i1 i2
 have em:(Gp p q x ss).map aD=((ss.map aD).set p (aD (ss.getD p 0-ss.getD p 0*x))).set q (aD (ss.getD q 0+ss.getD p 0*x)):=by rw[Gp,yH,yH]
 unfold shD
 rw[em]
 generalize aD (ss.getD p 0-ss.getD p 0*x)=d1 at*
 generalize aD (ss.getD q 0+ss.getD p 0*x)=d2 at*
 generalize aD (ss.getD p 0*x)=d3 at*
 generalize aD (ss.getD p 0)=d4 at*
 generalize aD (ss.getD q 0)=d5 at*
 simp[Du,Hw,AR.d,a1,a2,l1,l2,l3,i1,i2]
end
theorem Py{α:Type}{gs:Gd}{t:Tf}{f:Ev}{C:En}{m:Nat}{e g:α->D}(hg:∀S,gOk gs S):∀{xs:Wp α} {acc} {os} {S},os.length=m->acc.length+xs.length<=sizeLine->(∀x∈xs,∀os S,os.length=m->∃us S',us.length=m/\t (e x) (C++os) S=Gc (C++us)/\f (C++us) S=Gc (g x,S')/\Bq [] S S')->∃S',BZ gs t BI f (xs.map e) acc (C++os) S=Gc (acc++xs.map g,S')/\Bq [] S S'
 | [],acc,os,S,ho,hz,h=>⟨S,by rw[wF,DA (hg S)];simp,.refl⟩
 |x::xs,acc,os,S,ho,hz,h=>by
  obtain⟨us,S1,hu,e1,e2,s1⟩:=h x uk os S ho
  obtain⟨S2,e3,s2⟩:=Py hg (xs:=xs) (acc:=acc++[g x]) (os:=us) (S:=S1) hu (by simp at hz ⊢; lia) λx' hx=>h x' (uW _ hx)
  refine⟨S2,?_,s1.trans s2⟩
  rw[uw,FN (hg S) (by simp at hz;lia) e1 D0,e2,A1,e3]
  simp
section
variable{S:Sto}{st:Stt}{t:Tr}{k:Nat}
noncomputable def shB(t:Tr)(st:Stt):AR->Wp Rat->Wp Rat
 | .thr i n ws,ss=>HI (Iv t st.AA i n ws) (AL st.AA i).ow ss
 | .Fe p q x,ss=>Gp p q x ss
 |_,ss=>ss
def Po(ht:Hn t)(h:FC t k st)(hk:k<=21)(hc:Can t st d)(hs:∀r∈ss,Sz (30+170*k) r)(hl:ss.length=t.p):∃S',AY [t.d,Au st.AA,Ko st.AA,d.d,shD ss] S=Gc (shD (shB t st d ss),S')/\Bq [] S S':=by
 have tp:=ht.2.1
 cases d with
 |thr i n ws=>
  have e:=V3 (S:=S) ht h hk hc hs (by lia)
  refine⟨S,?_,.refl⟩
  simp only[AR.d]at e⊢
  simp[AY,Av,e,shB]
 |Fe p q x=>
  obtain⟨hpq,hp,hq,x1,x2,x3⟩:=hc
  have hx:Sz 4 x:=by
   refine⟨?_,by lia⟩
   show x.num.natAbs<16
   lia
  obtain⟨S',e,sm⟩:=U9 (S:=S) (p:=p) (q:=q) hs hx (by lia) (by lia) (by lia) hpq
  refine⟨S',?_,sm⟩
  simp only[AR.d]at e⊢
  simp[AY,Av,e,shB]
 |CU p kd n=>exact⟨S,by simp[AY,Av,AR.d,shB],.refl⟩
 |GJ i j=>exact⟨S,by simp[AY,Av,AR.d,shB],.refl⟩
 |swap i g kd n=>exact⟨S,by simp[AY,Av,AR.d,shB],.refl⟩
 |Bv u i g kd n=>exact⟨S,by simp[AY,Av,AR.d,shB],.refl⟩
 |Ci i n=>exact⟨S,by simp[AY,Av,AR.d,shB],.refl⟩
def VH:(step t st d).hold=shB t st d st.hold:=by cases d<;>rfl
def Ka(hi:i<ls.length){β:Type}(f:Wp Rat->β):(less ls i n).map (λx=>f x.ow)=ls.map λx=>f x.ow:=by
 rw[Qi,yH]
 have:(ls.map λx=>f x.ow)[i]?=Gc (f (AL ls i).ow):=by rw[um,EL hi];rfl
 apply AAk
 intro j
 by_cases e:i=j
 .subst e;rw[uh (by simpa using hi),this]
 .rw[uV e]
@[simp] def qt:sqD S (Ko ls)=some (ls.map λx=>shD x.ow,[]):=rfl
def V9(ht:Hn t)(h:FC t k st)(hk:k<=21)(hc:Can t st d):∃S',Ah [t.d,Au st.AA,Ko st.AA,d.d] S=Gc (Ko (step t st d).AA,S')/\Bq [] S S':=by
 have hlen:=h.len
 have sz:=h.sz
 have tp:=ht.2.1
 obtain⟨S',e,sm⟩:=Py (gs:=[]) (t:=tNm 4) (f:=AF AY [eV 0,eV 1,eV 2,eV 3,eV 4]) (C:=[Gc t.d,Gc (Au st.AA),Gc (Ko st.AA),Gc d.d]) (m:=1) (e:=λx:Ld=>shD x.ow) (g:=λx=>shD (shB t st d x.ow)) (λ_=>AW) (xs:=st.AA) (acc:=[]) (os:=[none]) (S:=S) rfl (uZ (show _<=50 by simp;lia) (AJ (by decide))) (by
  intro x hx os S0 ho
  obtain⟨q1,rfl⟩:=NJ ho
  obtain⟨S1,e1,s1⟩:=Po (S:=S0) (d:=d) (ss:=x.ow) ht h hk hc (sz.1 x hx) (h.own x hx)
  refine⟨[Gc (shD x.ow)],S1,rfl,by simp,?_,s1⟩
  simp[e1])
 simp only[vU,vK]at e
 refine⟨S',?_,sm⟩
 have hz:(st.AA.map λx=>shD (shB t st d x.ow)).length+1<=sizeLine:=uZ (show _<=100 by simp;lia) (AJ (by decide))
 cases d with
 |CU p kd n=>
  have a1:=Oj (S:=S') (P:=t.p) (p:=p) (by lia)
  have ef:Ko (step t st (.CU p kd n)).AA=.lst ((st.AA.map λx=>shD (shB t st (.CU p kd n) x.ow))++[shD (Vj t.p p)]):=by simp[Ko,step,shB]
  rw[ef]
  generalize (st.AA.map λx=>shD (shB t st (.CU p kd n) x.ow))=A at*
  simp only[AR.d,Tr.d]at e⊢
  simp[Ah,Aw,e,a1,hz]
 |GJ i j=>
  have a1:=Wc (S:=S') ht h hk hc
  obtain⟨hij,hi,hj,h1,h2,h3⟩:=hc
  have e0:AL (less st.AA i (AL st.AA i).n) j=AL st.AA j:=by
   unfold AL less
   rw[uz,uV hij,<-uz]
  have ef:Ko (step t st (.GJ i j)).AA=.lst ((st.AA.map λx=>shD (shB t st (.GJ i j) x.ow))++[shD (CD (AL st.AA i).n (AL st.AA j).n (AL st.AA i).ow (AL st.AA j).ow)]):=by
   show D.lst ((less (less st.AA i (AL st.AA i).n) j (AL st.AA j).n++[_]).map λx:Ld=>shD x.ow)=_
   rw[wV,Ka (by rw[Dk];exact hj),Ka hi]
   rfl
  rw[ef]
  generalize (st.AA.map λx=>shD (shB t st (.GJ i j) x.ow))=A at*
  simp only[AR.d]at e a1⊢
  simp[Ah,Aw,e,a1,hz]
 |swap i g kd n=>
  have hi:=hc.1
  have a1:=WX (S:=S') (st:=st) (i:=i) (kd:=kd) (g:=g) (n:=n) hi
  have ef:Ko (step t st (.swap i g kd n)).AA=.lst ((st.AA.map λx=>shD (shB t st (.swap i g kd n) x.ow))++[shD (AL st.AA i).ow]):=by
   show D.lst ((less st.AA i g++[_]).map λx:Ld=>shD x.ow)=_
   rw[wV,Ka hi]
   rfl
  rw[ef]
  generalize (st.AA.map λx=>shD (shB t st (.swap i g kd n) x.ow))=A at*
  simp only[AR.d]at e a1⊢
  simp[Ah,Aw,e,a1,hz]
 |Bv u i g kd n=>
  have hi:=hc.1
  have a1:=SN (S:=S') (st:=st) (i:=i) (kd:=kd) (u:=u) (g:=g) (n:=n) hi
  have ef:Ko (step t st (.Bv u i g kd n)).AA=.lst ((st.AA.map λx=>shD (shB t st (.Bv u i g kd n) x.ow))++[shD (AL st.AA i).ow]):=by
   show D.lst ((less st.AA i g++[_]).map λx:Ld=>shD x.ow)=_
   rw[wV,Ka hi]
   rfl
  rw[ef]
  generalize (st.AA.map λx=>shD (shB t st (.Bv u i g kd n) x.ow))=A at*
  simp only[AR.d]at e a1⊢
  simp[Ah,Aw,e,a1,hz]
 |Ci i n=>
  have ef:Ko (step t st (.Ci i n)).AA=.lst (st.AA.map λx=>shD (shB t st (.Ci i n) x.ow)):=by
   show D.lst ((less st.AA i n).map λx:Ld=>shD x.ow)=_
   rw[Ka hc.1]
   rfl
  rw[ef]
  generalize (st.AA.map λx=>shD (shB t st (.Ci i n) x.ow))=A at*
  simp only[AR.d]at e⊢
  simp[Ah,Aw,e]
 |thr i n ws=>
  have ef:Ko (step t st (.thr i n ws)).AA=.lst (st.AA.map λx=>shD (shB t st (.thr i n ws) x.ow)):=by
   show D.lst (((less st.AA i n).map _).map λx:Ld=>shD x.ow)=_
   rw[wC]
   exact congrArg D.lst (Ka hc.1 (λo=>shD (HI (Iv t st.AA i n ws) (AL st.AA i).ow o)))
  rw[ef]
  generalize (st.AA.map λx=>shD (shB t st (.thr i n ws) x.ow))=A at*
  simp only[AR.d]at e⊢
  simp[Ah,Aw,e]
 |Fe p q x=>
  have ef:Ko (step t st (.Fe p q x)).AA=.lst (st.AA.map λy=>shD (shB t st (.Fe p q x) y.ow)):=by
   show D.lst ((st.AA.map _).map λy:Ld=>shD y.ow)=_
   rw[wC]
   rfl
  rw[ef]
  generalize (st.AA.map λy=>shD (shB t st (.Fe p q x) y.ow))=A at*
  simp only[AR.d]at e⊢
  simp[Ah,Aw,e]
@[simp] def oJ:sqD S (Au ls)=some (ls.map hD,[]):=rfl
def Kh(hl:ls.length<=50):B4 [.tup [x,.tup (ls.map Ld.d),y]] S=Gc (Au ls,S):=by
 have e:=EN (gs:=[]) (t:=tNm 0) (f:=A9 [eOp (o2 wIx) [eV 0,eC (.int 0)],eOp (o2 wIx) [eV 0,eC (.int 1)]]) (C:=[]) (m:=1) (e:=Ld.d) (g:=hD) (S:=S) AW (xs:=ls) (acc:=[]) (os:=[none]) rfl (uZ (show _<=50 by simp;lia) (AJ (by decide))) (by
  intro x hx os ho
  obtain⟨q1,rfl⟩:=NJ ho
  refine⟨[Gc x.d],rfl,by simp,?_⟩
  simp[Ld.d,hD])
 simp only[vK]at e
 simp[B4,GK,e,Au]
def Uc{ls:Wp Ld}(hl:ls.length<=50):BZ [] (tNm 0) BI (eOp (o2 wIx) [eV 0,eC (.int 2)]) (ls.map Ld.d) [] [none] S=Gc (ls.map λx=>shD x.ow,S):=
 EN (gs:=[]) (t:=tNm 0) (f:=eOp (o2 wIx) [eV 0,eC (.int 2)]) (C:=[]) (m:=1) (e:=Ld.d) (g:=λx=>shD x.ow) (S:=S) AW (xs:=ls) (acc:=[]) (os:=[none]) rfl (uZ (show _<=50 by simp;lia) (AJ (by decide))) (by
  intro x hx os ho
  obtain⟨q1,rfl⟩:=NJ ho
  refine⟨[Gc x.d],rfl,by simp,?_⟩
  simp[Ld.d])
def Xq(h:CJ t ls ds)(hn:n<=ds.length):∃S',Fv [AK t ls ds,.int n] S=Gc (.tup [Au (runs t (st0 t ls) (ds.take n)).AA,Ko (runs t (st0 t ls) (ds.take n)).AA,shD (runs t (st0 t ls) (ds.take n)).hold],S')/\Bq [] S S':=by
 have hl0:ls.length<=4:=h.inv.len
 have ct:IU (ds.map AR.d) none (Gc (n:Int))=(ds.take n).map AR.d:=by rw[Jf (by simpa using hn),yv]
 obtain⟨E',S',ef,i,o,f1,f2,rfl,f3⟩:=Gn (gs:=[]) (t:=tNm 8) (b:=AN (Ay 7 (AF AY [eV 2,eV 5,eV 6,eV 8,eV 7]))
  (AN (Ay 6 (AF Ah [eV 2,eV 5,eV 6,eV 8]))
  (Ay 5 (AF Ad [eV 5,eV 8]))))
  (I:=λrs E S'=>∃(i:Nat) (o:uR D),rs=((ds.take n).drop i).map AR.d/\i<=n/\E=[Gc (AK t ls ds),Gc (.int n),Gc t.d,Gc (.tup (ls.map Ld.d)),Gc (.tup (ds.map AR.d)),Gc (Au (runs t (st0 t ls) (ds.take i)).AA),Gc (Ko (runs t (st0 t ls) (ds.take i)).AA),Gc (shD (runs t (st0 t ls) (ds.take i)).hold),o]/\Bq [] S S')
  (λ_ _ _ _=>AW) (ds:=(ds.take n).map AR.d) (E:=[Gc (AK t ls ds),Gc (.int n),Gc t.d,Gc (.tup (ls.map Ld.d)),Gc (.tup (ds.map AR.d)),Gc (Au ls),Gc (Ko ls),Gc (shD t.ho),none]) (S:=S)
  ⟨0,none,by simp,wL _,by simp[runs,st0],.refl⟩ (by
    rintro dd rs E T ⟨i,o,i1,i2,rfl,i3⟩
    have hlt:i<(ds.take n).length:=by
     rcases xo i (ds.take n).length with w|w
     .exact w
     .rw[vz w]at i1;cases i1
    rw[vP hlt,uw]at i1
    injection i1 with z1 z2
    subst z1 z2
    have hlt':i<ds.length:=by simp at hlt;lia
    have hin:i<n:=by simp at hlt;lia
    have hg:(ds.take n)[i]=ds[i]:=List.getElem_take
    rw[hg]
    have inv:=h.at i
    have il:(ds.take i).length<=20:=by have:=h.len;simp;lia
    have can:=LM h.good (uS hlt')
    obtain⟨T1,e1,s1⟩:=Po (S:=T) h.tr inv (by lia) can inv.sz.2 inv.hold
    obtain⟨T2,e2,s2⟩:=V9 (S:=T1) h.tr inv (by lia) can
    have e3:=Ll (S:=T2) inv (by lia) can
    have rt:=Jw (t:=t) (st:=st0 t ls) (uS hlt')
    refine⟨_,[Gc (AK t ls ds),Gc (.int n),Gc t.d,Gc (.tup (ls.map Ld.d)),Gc (.tup (ds.map AR.d)),Gc (Au (runs t (st0 t ls) (ds.take (i+1))).AA),Gc (Ko (runs t (st0 t ls) (ds.take (i+1))).AA),Gc (shD (runs t (st0 t ls) (ds.take (i+1))).hold),Gc ds[i].d],T2,by simp;rfl,?_,i+1,Gc ds[i].d,rfl,hin,rfl,(i3.trans s1).trans s2⟩
    rw[rt]
    rw[<-VH]at e1
    simp[e1,e2,e3])
 have hz:i=n:=by
  have:=congrArg ya f1
  simp at this
  lia
 subst hz
 refine⟨S',?_,f3⟩
 have fh:=Kh (S:=S) (ls:=ls) (x:=t.d) (y:=.tup (ds.map AR.d)) (by lia)
 have fo:=Uc (S:=S) (ls:=ls) (by lia)
 have fo':D.lst (ls.map λx=>shD x.ow)=Ko ls:=rfl
 have th:atI [D.int t.p,D.int t.k,D.int t.b,shD t.ho,D.int t.h,D.int t.l] 3=Gc (shD t.ho):=by simp
 simp only[AK]at ef⊢
 have td:wIx (.val t.d) (.val (.int 3))=Gc (.val (shD t.ho)):=by simp[Tr.d]
 have dt:dr S t.d=.val t.d:=rfl
 rw[yv]at ef ct
 simp[Fv,Ks,fh,fo,fo',-Vt,td,dt,ct,ef]
def Ig(h:CJ t ls ds):BF [AK t ls ds] S=Gc (.non,S):=by
 have hl0:ls.length<=4:=h.inv.len
 have hd:=h.len
 obtain⟨E',S',ef,i,o1,o2,f1,f2,rfl,rfl⟩:=Gn (gs:=[]) (t:=tTp [tNm 3,tNm 4]) (b:=AN (xIf (Ew (AF Bc [eV 1,eOp (Ih false true) [eV 2,eV 3],eV 4])) (AZ (eV 3)) BO)
  (Ay 1 (AF Ad [eV 1,eV 4])))
  (I:=λrs E S'=>∃(i:Nat) (o1 o2:uR D),rs=(Mr 0 (ds.map AR.d)).drop i/\i<=ds.length/\E=[Gc (AK t ls ds),Gc (Au (runs t (st0 t ls) (ds.take i)).AA),Gc (.tup (ds.map AR.d)),o1,o2]/\S'=S)
  (λ_ _ _ _=>AW) (ds:=Mr 0 (ds.map AR.d)) (E:=[Gc (AK t ls ds),Gc (Au ls),Gc (.tup (ds.map AR.d)),none,none]) (S:=S)
  ⟨0,none,none,by simp,wL _,by simp[runs,st0],rfl⟩ (by
    rintro dd rs E T ⟨i,o1,o2,i1,i2,rfl,rfl⟩
    have el:(Mr 0 (ds.map AR.d)).length=ds.length:=by rw[MJ];simp
    have hlt:i<ds.length:=by
     rcases xo i ds.length with w|w
     .exact w
     .rw[vz (by lia)]at i1;cases i1
    rw[vP (by lia)]at i1
    injection i1 with z1 z2
    have hd1:dd=.tup [.int i,ds[i].d]:=by
     have:=Jj (ds:=ds.map AR.d) (k:=0) (i:=i)
     rw[uS (by lia),<-z1,um,uS hlt]at this
     simpa using this
    subst z2
    subst hd1
    have inv:=h.at i
    have il:(ds.take i).length<=20:=by simp;lia
    have can:=LM h.good (uS hlt)
    have cd:=gQ (S:=T) (st:=runs t (st0 t ls) (ds.take i)) (ds:=ds.take i) (d:=ds[i]) (by lia) Pz
    rw[(VC can).2]at cd
    have e3:=Ll (S:=T) inv (by lia) can
    have rt:=Jw (t:=t) (st:=st0 t ls) (uS hlt)
    have ct:=Jf (ds:=ds.map AR.d) (n:=i) (by simp;lia)
    rw[yv]at cd
    refine⟨_,[Gc (AK t ls ds),Gc (Au (runs t (st0 t ls) (ds.take (i+1))).AA),Gc (.tup (ds.map AR.d)),Gc (.int i),Gc ds[i].d],T,by simp;rfl,?_,i+1,Gc (.int i),Gc ds[i].d,rfl,hlt,rfl,rfl⟩
    rw[rt]
    simp[ct,cd,e3])
 have fh:=Kh (S:=S') (ls:=ls) (x:=t.d) (y:=.tup (ds.map AR.d)) (by lia)
 simp only[AK]at ef⊢
 simp[BF,Dz,fh,ef]
def MG(h:CJ t ls ds):AU [AK t ls ds] S=Gc (.non,S):=by
 have e:=Ig (S:=S) h
 simp[AU,Cv,e,isN]
def Vu{ds:Wp AR}(hn:n<=ds.length):Bs [AK t ls ds,.int n] S=Gc (.non,S):=by
 have h1:(n:Int)<=ds.length:=by lia
 have k1:St.Kd.int.isA "int"=true:=by decide
 have k2:St.Kd.int.isA "bool"=false:=by decide
 simp[k1,k2,Bs,Et,Ab,Ds,Bm,Gs,Cd,Fj,AK,kdW,h1]
end
theorem pO:∀{ds},(∀d∈ds,d.py.depth<=n)->ABO (D.pys ds)<=n
 | [],_=>by simp[D.pys,ABO]
 |d::ds,h=>by
  have h1:=h d uk
  have h2:=pO λe he=>h e (uW _ he)
  simp only[D.pys,ABO]
  lia
def oN(h:∀d∈ds,d.py.depth<=n):(D.lst ds).py.depth<=n+1:=by
 have:=pO h
 simp only[D.py,AAD]
 lia
def LB(h:∀d∈ds,d.py.depth<=n):(D.tup ds).py.depth<=n+1:=by
 have:=pO h
 simp only[D.py,AAD]
 lia
def Gg:(D.int i).py.depth<=n+1:=by
 simp only[D.py,AAD]
 lia
def qT:(aD r).py.depth<=2:=LB (n:=1) (by
 intro d hd
 simp only[uY,uu,ve]at hd
 rcases hd with rfl|rfl<;>exact Gg)
def oP:(shD rs).py.depth<=3:=LB (n:=2) (by
 intro d hd
 obtain⟨r,_,rfl⟩:=vS.mp hd
 exact qT)
def rL{x:Ld}:x.d.py.depth<=4:=LB (n:=3) (by
 intro d hd
 simp only[uY,uu,ve]at hd
 rcases hd with rfl|rfl|rfl
 .exact Gg
 .exact Gg
 .exact oP)
theorem jt:(aD r).lay=true:=rfl
def Q9:(shD rs).lay=true:=Fw λ_ _=>jt
def gB{x:Ld}:x.d.lay=true:=by
 show(true && (true && ((shD x.ow).lay && true)))=true
 rw[Q9];rfl
def Ml(h:d.lay=true)(g:d.py.depth<=60):OP d d=true:=by
 unfold OP
 rw[h]
 simp only[Bool.true_and,vV]
 lia
def OF(h:d.lay=true):deq d d=true:=PySem.SeqAt.eqv_refl _ (Kl h)
def ba{k:Nat}:∃c,Cq [.scr ns,.int k] S=Gc (.int c,S):=by
 by_cases h:k<ns.length
 .have h':(k:Int)<ns.length:=by lia
  refine⟨ns[k],?_⟩
  have e:atI (ns.map D.int) (k:Int)=Gc (.int ns[k]):=B3 (by rw[um,uS h];rfl)
  simp[Cq,GY,h,h',e]
 .have h':¬(k:Int)<ns.length:=by lia
  exact⟨0,by simp[Cq,GY,h,h']⟩
section
variable{E:En}{S:Sto}{r r1 r2:Rx}{f:Ex}{k:Ev}{R:Rf}{fs:Wp Ev}{x:Str}
noncomputable def nxR(r2:Rx)(q:Fl×En×Sto):uR (Tg×En×Sto):=match q.1 with
 | .nx=>r2 q.2.1 q.2.2
 | .ret _=>none
def Nl:nxR r2 (.nx,E,S)=r2 E S:=rfl
def GZ:N8 r f r2 E S=(r E S).or ((f E S).bind (nxR r2)):=by
 unfold N8
 cases r E S with
 |some z=>exact rfl
 |none=>exact rfl
def Kf:rNo E S=none:=rfl
noncomputable def ifR(r1 r2:Rx)(E:En)(q:D×Sto):uR (Tg×En×Sto):=match q.1 with
 | .bl true=>r1 E q.2
 | .bl false=>r2 E q.2
 |_=>none
def ak:ifR r1 r2 E (.bl true,S)=r1 E S:=rfl
def Ym:ifR r1 r2 E (.bl false,S)=r2 E S:=rfl
def KS:rIf k r1 r2 E S=(k E S).bind (ifR r1 r2 E):=rfl
def O5:Qo R fs E S=(evs fs E S).bind λq=>(R q.1 q.2).map λz=>(z.1,E,z.2):=rfl
def Nc:Lj x fs E S=(evs fs E S).map λq=>(⟨x,none⟩,E,q.2):=rfl
def Qk:Qz x k E S=(k E S).bind (mJ x E):=rfl
def lT:AS (Oe N r) ds S=(r (ds.map Gc++uo (N-ds.length) none) S).map λq=>(q.1,q.2.2):=by
 rw[JM];rfl
def J9:CY E S=none:=rfl
def X4(h:n.natAbs.log2<1920):mJ x E (.int n,S)=Gc (⟨x,Gc n⟩,E,S):=by
 show(if _ then _ else _)=_
 rw[vC h]
end
structure Up(t:Tr)(ls:Wp Ld)(ds:Wp AR)(i:Nat):Prop where
 tr:Hn t
 inv:FC t 0 (st0 t ls)
 len:ds.length<=21
 le:i<=ds.length
 good:MZ t (st0 t ls) (ds.take i)
 bad:∀d,ds[i]?=Gc d->HE (runs t (st0 t ls) (ds.take i)) d=false
noncomputable def Xi(ds:Wp AR)(i:Nat):D:=if i<ds.length then .int i else .non
def Up.at(h:Up t ls ds i)(hj:j<=i):FC t j (runs t (st0 t ls) (ds.take j)):=by
 have g:=KJ (i:=j) h.good
 rw[List.take_take,yL hj]at g
 have e:(ds.take j).length=j:=by rw[zV,yL (uZ hj h.le)]
 have:=OU h.tr h.inv g (by rw[e];have:=h.len;have:=h.le;lia)
 rwa [Nat.zero_add,e]at this
def Up.can(h:Up t ls ds i)(hj:j<i)(hd:ds[j]?=Gc d):Can t (runs t (st0 t ls) (ds.take j)) d:=by
 have:=LM (i:=j) (d:=d) h.good (by rw[AAl hj];exact hd)
 rwa [List.take_take,yL (yd hj)]at this
def Up.cb(h:Up t ls ds i)(hj:j<=i)(hd:ds[j]?=Gc d):HE (runs t (st0 t ls) (ds.take j)) d=decide (j<i):=by
 rcases xo j i with w|w
 .rw[(VC (h.can w hd)).2];simp[w]
 .have e:j=i:=by lia
  subst e
  rw[h.bad d hd];simp
def jF(h:Up t ls ds i):BF [AK t ls ds] S=Gc (Xi ds i,S):=by
 have hl0:ls.length<=4:=h.inv.len
 have hd:=h.len
 have hi:=h.le
 have el:(Mr 0 (ds.map AR.d)).length=ds.length:=by rw[MJ];simp
 have fo:=Zj (gs:=[]) (t:=tTp [tNm 3,tNm 4]) (b:=AN (xIf (Ew (AF Bc [eV 1,eOp (Ih false true) [eV 2,eV 3],eV 4])) (AZ (eV 3)) BO)
  (Ay 1 (AF Ad [eV 1,eV 4])))
  (I:=λrs E S'=>∃(j:Nat) (o1 o2:uR D),rs=(Mr 0 (ds.map AR.d)).drop j/\j<=i/\E=[Gc (AK t ls ds),Gc (Au (runs t (st0 t ls) (ds.take j)).AA),Gc (.tup (ds.map AR.d)),o1,o2]/\S'=S)
  (R:=λw S'=>w=.int i/\i<ds.length/\S'=S)
  (λ_ _ _ _=>AW) (ds:=Mr 0 (ds.map AR.d)) (E:=[Gc (AK t ls ds),Gc (Au ls),Gc (.tup (ds.map AR.d)),none,none]) (S:=S)
  ⟨0,none,none,by simp,wL _,by simp[runs,st0],rfl⟩ (by
    rintro dd rs E T ⟨j,o1,o2,i1,i2,rfl,rfl⟩
    have hlt:j<ds.length:=by
     rcases xo j ds.length with w|w
     .exact w
     .rw[vz (by lia)]at i1;cases i1
    rw[vP (by lia)]at i1
    injection i1 with z1 z2
    have hd1:dd=.tup [.int j,ds[j].d]:=by
     have:=Jj (ds:=ds.map AR.d) (k:=0) (i:=j)
     rw[uS (by lia),<-z1,um,uS hlt]at this
     simpa using this
    subst z2
    subst hd1
    have inv:=h.at i2
    have cd:=gQ (S:=T) (st:=runs t (st0 t ls) (ds.take j)) (ds:=ds.take j) (d:=ds[j]) (by simp;lia) Pz
    rw[h.cb i2 (uS hlt)]at cd
    have ct:=Jf (ds:=ds.map AR.d) (n:=j) (by simp;lia)
    rw[yv]at cd
    refine⟨_,by simp;rfl,?_⟩
    rcases xo j i with w|w
    .have can:=h.can w (uS hlt)
     have e3:=Ll (S:=T) inv (by lia) can
     have rt:=Jw (t:=t) (st:=st0 t ls) (uS hlt)
     refine .inl ⟨[Gc (AK t ls ds),Gc (Au (runs t (st0 t ls) (ds.take (j+1))).AA),Gc (.tup (ds.map AR.d)),Gc (.int j),Gc ds[j].d],T,?_,j+1,Gc (.int j),Gc ds[j].d,rfl,w,rfl,rfl⟩
     rw[rt]
     simp[ct,cd,e3,w]
    .have e:j=i:=by lia
     subst e
     refine .inr ⟨.int j,[Gc (AK t ls ds),Gc (Au (runs t (st0 t ls) (ds.take j)).AA),Gc (.tup (ds.map AR.d)),Gc (.int j),Gc ds[j].d],T,?_,rfl,hlt,rfl⟩
     simp[ct,cd])
 have fh:=Kh (S:=S) (ls:=ls) (x:=t.d) (y:=.tup (ds.map AR.d)) (by lia)
 rcases fo with⟨E',S',ef,j,o1,o2,f1,f2,rfl,rfl⟩|⟨w,E',S',ef,rfl,f1,rfl⟩
 .have hz:=congrArg ya f1
  rw[AAv,el]at hz
  simp at hz
  have e:Xi ds i=.non:=by unfold Xi;rw[vB (by lia)]
  rw[e]
  simp only[AK]at ef⊢
  simp[BF,Dz,fh,ef]
 .have e:Xi ds i=.int i:=by unfold Xi;rw[vC f1]
  rw[e]
  simp only[AK]at ef⊢
  simp[BF,Dz,fh,ef]
def Yh(h:CJ t ls ds):AU [AK t ls ds] S=Gc (.non,S)/\Ak [AK t ls ds] S=none:=by
 have e:=Ig (S:=S) h
 constructor
 .exact MG h
 .simp[Ak,Cu,lT,GZ,Kf,Nl,KS,e,isN,Ym]
def Xr(h:Up t ls ds i)(c:i<ds.length):AU [AK t ls ds] S=none/\Ak [AK t ls ds] S=Gc (⟨"NotDone",Gc (i:Int)⟩,S):=by
 have e:=jF (S:=S) h
 have ed:Xi ds i=.int i:=by unfold Xi;rw[vC c]
 rw[ed]at e
 have lg:(i:Int).natAbs.log2<1920:=by
  by_cases z:i=0
  .subst z;decide
  .rw[Nat.log2_lt (by lia)]
   have hd:=h.len
   exact uU (show(i:Int).natAbs<2^10 by lia) (vM (by decide) (by decide))
 constructor
 .simp[AU,Cv,e,isN,J9]
 .simp[Ak,Cu,lT,GZ,Kf,Nl,KS,Qk,e,isN,ak,X4 lg]
def Ok.add(h:Ok G B r)(g:Ok G C q):Ok G (B+C) (r+q):=by
 obtain⟨z,e1,h1⟩:=h
 obtain⟨y,e2,h2⟩:=g
 refine⟨z+y,?_,Nat.add_le_add h1 h2⟩
 push_cast
 rw[<-e1,<-e2]
 grind
def Ok.mono(h:Ok G B r)(g:B<=C):Ok G C r:=by
 obtain⟨z,e,hz⟩:=h
 exact⟨z,e,uZ hz g⟩
def Ok.qK{G B N:Nat}{n:Int}(h:Ok G B r)(h0:0<=n)(h1:n<=N):Ok G (B*N) ((n:Rat)*r):=by
 obtain⟨z,e,hz⟩:=h
 refine⟨z*n.toNat,?_,AAZ hz (by lia)⟩
 push_cast
 rw[He h0,<-e]
 grind
def Ok.int{n:Int}{N:Nat}(h0:0<=n)(h1:n<=N):Ok G (G*N) (n:Rat):=by
 have:=(Ok.one (G:=G) (B:=G) (uc _)).qK (N:=N) h0 h1
 have e:(n:Rat)*1=(n:Rat):=by grind
 rwa [e]at this
theorem N5{F:Fn}(hF:∀{j k} {p q} S,Sz j p->Sz k q->j+k<=7990->F [aD p,aD q] S=Gc (aD (p+q),S)){gs:Gd}{S:Sto}(hg:gOk gs S){X:uR D}{G B K:Nat}(hG:0<G)(gK:G<2^K)(hK:2*K<=7990):∀{rs:Wp Rat} {acc} {m} {o},Ok G (m*B) acc->(∀r∈rs,Ok G B r)->(m+rs.length)*B<2^K->∃o',Md gs (tNm 2) (Ay 1 (AF F [eV 1,eV 2])) (rs.map aD) [X,Gc (aD acc),o] S=Gc (.nx,[X,Gc (aD (acc+rs.sum)),o'],S)
 | [],acc,m,o,ha,hr,hb=>⟨o,by
     rw[wF,Jy hg,List.sum_nil]
     have:acc+0=acc:=by grind
     rw[this]⟩
 |r::rs,acc,m,o,ha,hr,hb=>by
  have h1:=hr r uk
  have b1:(m+1)*B<=(m+(r::rs).length)*B:=vf _ (by simp)
  have mb:(m+1)*B=m*B+B:=by rw[Nat.succ_mul]
  have za:Sz K acc:=ha.sz hG gK (by lia)
  have zr:Sz K r:=h1.sz hG gK (by lia)
  have e:=hF S za zr (by lia)
  have ha2:Ok G ((m+1)*B) (acc+r):=by rw[mb];exact ha.add h1
  obtain⟨o',ih⟩:=N5 hF hg hG gK hK (X:=X) (B:=B) (rs:=rs) (acc:=acc+r) (m:=m+1) (o:=Gc (aD r)) ha2 (λq hq=>hr q (uW _ hq)) (by
   have:m+1+rs.length=m+(r::rs).length:=by simp;lia
   rw[this];exact hb)
  refine⟨o',?_⟩
  have ea:acc+(r::rs).sum=acc+r+rs.sum:=by rw[wu];grind
  rw[uw,EC hg,ea,<-ih]
  simp[e]
theorem QR:aD 0=.tup [.int 0,.int 1]:=rfl
def Ok.nn(h:Ok G B r)(hG:0<G):0<=r:=by
 obtain⟨z,e,_⟩:=h
 have g:(0:Rat)<(G:Rat):=by exact_mod_cast hG
 have hz:(0:Rat)<=(z:Rat):=by exact_mod_cast wL z
 rcases(Rat.le_total:0<=r\/r<=0)with w|w
 .exact w
 .have:=ze w (Rat.le_of_lt g)
  rw[e,Rat.zero_mul]at this
  have z0:(z:Rat)=0:=Rat.le_antisymm this hz
  rw[z0]at e
  rcases Rat.mul_eq_zero.mp e with e|e
  .rw[e];exact Rat.le_refl
  .rw[e]at g;exact absurd g (by decide)
theorem ZY:∀{rs:Wp Rat},(∀r∈rs,0<=r)->0<=rs.sum
 | [],_=>by rw[List.sum_nil];exact Rat.le_refl
 |r::rs,h=>by
  rw[wu]
  have h1:=h r uk
  have h2:=ZY λq hq=>h q (uW _ hq)
  grind
theorem Y9:∀{rs:Wp Rat} {x},(∀r∈rs,0<=r)->x∈rs->x<=rs.sum
 |r::rs,x,h,hx=>by
  rw[wu]
  have h1:=h r uk
  have h2:=ZY λq hq=>h q (uW _ hq)
  rcases uY.mp hx with e|e
  .rw[e];grind
  .have:=Y9 (λq hq=>h q (uW _ hq)) e
   grind
def jj{r:Rat}(h:r<=1):r.num<=r.den:=by
 have e:=DJ r
 have d:(0:Rat)<(r.den:Rat):=by exact_mod_cast r.den_pos
 have h1:(r.num:Rat)<=(r.den:Rat):=by
  have:(r.num:Rat)=r*(r.den:Rat):=by
   have:=Hl r
   grind
  rw[this]
  have:=ze h (Rat.le_of_lt d)
  rwa [Rat.one_mul]at this
 exact_mod_cast h1
def Yo(hG:0<G)(gK:G<2^K)(hK:2*K<=7990)(hr:∀r∈rs,Ok G B r)(hb:rs.length*B<2^K):HR [shD rs] S=Gc (aD rs.sum,S):=by
 obtain⟨o',e⟩:=N5 (F:=E5) (λS h1 h2 h3=>dj h1 h2 h3) (gs:=[]) (S:=S) AW (X:=Gc (shD rs)) (B:=B) hG gK hK (rs:=rs) (acc:=0) (m:=0) (o:=none) (by rw[Nat.zero_mul];exact Ok.zero) hr (by simpa using hb)
 have ez:(0:Rat)+rs.sum=rs.sum:=by grind
 rw[ez,QR]at e
 simp[HR,Pg,Dy,shD]at e⊢
 simp[e]
def jq(e1:evs [oa,ob] E S=Gc ([.int i,.int j],S1))(h:i<=j)(e2:oc E S1=Gc (.int k,S2)):SQ oa ob oc E S=Gc (.bl (decide (j<=k)),S2):=by
 unfold SQ
 rw[e1]
 show(if i<=j then _ else _)=_
 rw[vC h,e2]
 rfl
def Pb:Cd [.int i] S=Gc (.bl true,S):=by
 have k1:St.Kd.int.isA "int"=true:=by decide
 have k2:St.Kd.int.isA "bool"=false:=by decide
 simp[k1,k2,Cd,Fj,kdW]
def Jx:Bm [.int i,.int j] S=Gc (.bl (decide (j<=i)),S):=by
 have e:=Pb (S:=S) (i:=i)
 simp[Bm,Gs,e]
def within_int:Ab [.int i,.int j,.int k] S=Gc (.bl (decide (j<=i) && decide (i<=k)),S):=by
 have e:=Jx (S:=S) (i:=i) (j:=j)
 by_cases h:j<=i
 .simp[Ab,Ds,e,h]
 .simp[Ab,Ds,e,h]
def Pe(h0:0<=r)(h1:r<=1):Cp [aD r] S=Gc (.bl true,S):=by
 have g:=Yz (S:=S) r.num r.den
 have ge:Ow r.num r.den=1:=by
  have:=r.reduced
  unfold Nat.Coprime at this
  simp[Ow,this]
 rw[ge]at g
 have n0:0<=r.num:=Rat.num_nonneg.mpr h0
 have n1:=jj h1
 have d1:(1:Int)<=r.den:=by have:=r.den_pos;omega
 have w:=Pb (S:=S) (i:=r.num)
 have f:=Jx (S:=S) (i:=r.den) (j:=1)
 have k3:St.Kd.tup.isA "tuple"=true:=by decide
 have am:E7 [aD r] S=Gc (.bl true,S):=by
  simp[E7,Jp,aD,kdW,k3,w,f,d1,g]
 have ll:SQ (eC (.int 0)) (eOp (o2 wIx) [eV 0,eC (.int 0)]) (eOp (o2 wIx) [eV 0,eC (.int 1)]) [Gc (aD r)] S=Gc (.bl true,S):=by
  rw[jq (i:=0) (j:=r.num) (k:=r.den) (S1:=S) (S2:=S) (by simp[aD]) n0 (by simp[aD])]
  simp[n1]
 simp[Cp,K2,am,ll]
def kq{α:Type}{f:Ev}{e:α->D}{C:En}{os:En}{xs:Wp α}(hg:gOk gs S)(hz:xs.length<=1000)(hm:os.length=m)(h:∀x∈xs,∀os,os.length=m->∃us,us.length=m/\t (e x) (C++os) S=Gc (C++us)/\f (C++us) S=Gc (.bl true,S)):∃r,BZ gs t BI f (xs.map e) [] (C++os) S=Gc (r,S)/\(bls r).map (λbs=>bs.all id)=Gc true:=by
 have:=EN (gs:=gs) (t:=t) (f:=f) (C:=C) (m:=m) (e:=e) (g:=λ_=>D.bl true) (S:=S) hg (xs:=xs) (acc:=[]) (os:=os) hm (AJ (by simpa using hz)) h
 refine⟨_,this,?_⟩
 rw[vK,QP (λ_=>true)]
 simp
def PV{rs:Wp Rat}(hp:rs.length=P)(h4:P<=4)(hG:0<G)(gK:G<2^K)(hK:2*K<=7990)(hr:∀r∈rs,Ok G B r)(hb:4*B<2^K)(hs:rs.sum=1):C7 [.int P,shD rs] S=Gc (.bl true,S):=by
 have nn:∀r∈rs,0<=r:=λr hr'=>(hr r hr').nn hG
 have le1:∀r∈rs,r<=1:=λr hr'=>by rw[<-hs];exact Y9 nn hr'
 have k3:St.Kd.tup.isA "tuple"=true:=by decide
 have T:=Yo (S:=S) hG gK hK hr (vJ (vf _ (by omega)) hb)
 rw[hs,Y7]at T
 obtain⟨bs,e1,e2⟩:=kq (S:=S) (f:=AF Cp [eV 0]) (e:=aD) (C:=[]) (os:=[none]) (xs:=rs) (gs:=[]) (t:=tNm 0) AW (by omega) rfl (by
  intro r hr' os ho
  match os,ho with
  | [a],_=>
  refine⟨[Gc (aD r)],rfl,by simp,?_⟩
  have:=Pe (S:=S) (nn r hr') (le1 r hr')
  simp[this])
 have T2:HR [D.tup (rs.map aD)] S=Gc (.tup [.int 1,.int 1],S):=T
 have it:Ag [shD rs,.int P] S=Gc (.bl true,S):=by
  simp[Ag,Cg,shD,kdW,k3,hp]
 have hE:OP (.tup [.int 1,.int 1]) N9=true:=rfl
 have hD:deq (.tup [.int 1,.int 1]) N9=true:=rfl
 simp only[vK]at e1
 obtain⟨b',e3,e4⟩:=xG.mp e2
 have hk:dr S N9=.val N9:=rfl
 simp[C7,Ii,it]
 simp[shD,NA,e1,e3,e4,T2,hk,hE,hD]
def SO{x:Ld}(ht:Hn t)(h1:x.k<t.k)(h2:0<=x.n)(hp:x.ow.length=t.p)(hG:0<G)(gK:G<2^K)(hK:2*K<=7990)(hr:∀r∈x.ow,Ok G B r)(hb:4*B<2^K)(hs:x.ow.sum=1):EB [t.d,x.d] S=Gc (.bl true,S):=by
 have O:=PV (S:=S) hp ht.2.1 hG gK hK hr hb hs
 have k3:St.Kd.tup.isA "tuple"=true:=by decide
 have it:Ag [x.d,.int 3] S=Gc (.bl true,S):=by
  simp[Ag,Cg,Ld.d,kdW,k3]
 have w:=within_int (S:=S) (i:=x.k) (j:=0) (k:=(t.k:Int)-1)
 have w1:(x.k:Int)<=(t.k:Int)-1:=by omega
 have f:=Jx (S:=S) (i:=x.n) (j:=0)
 have ik:DN [t.d,.int x.k] S=Gc (.bl true,S):=by
  simp[DN,JS,Tr.d,w,w1]
 simp[EB,Ly,it]
 generalize hsd:shD x.ow=sd at*
 have:x.d=.tup [.int x.k,.int x.n,sd]:=by rw[<-hsd];rfl
 rw[this]
 simp[ik,f,h2]
 simp[Tr.d,O]
def Raw(t:Tr):AR->Prop
 | .CU _ _ n=>n<2^131
 | .GJ _ _=>AAI
 | .swap _ _ _ n=>n<2^131
 | .Bv u _ _ _ n=>n<2^131/\0<=u/\u<=9
 | .Ci _ _=>AAI
 | .thr _ _ ws=>ws.length=t.k+1/\∀w∈ws,1<=w/\w<=99
 | .Fe _ _ x=>0<x.num/\x.num<=x.den/\x.den<=12
noncomputable def isB(t:Tr):AR->vZ
 | .CU p k n=>decide (p<t.p) && (decide (k<t.k) && decide (1<=n))
 | .GJ a b=> !(a==b)
 | .swap _ g k n=>decide (1<=g) && (decide (k<t.k) && decide (1<=n))
 | .Bv _ _ g k n=>decide (1<=g) && (decide (k<t.k) && decide (1<=n))
 | .Ci _ n=>decide (1<=n)
 | .thr _ n _=>decide (1<=n)
 | .Fe p q _=>decide (p<t.p) && (decide (q<t.p) && !(p==q))
def W6(h:Raw t d)(b:isB t d=true):Wf t d:=by
 cases d with
 |CU p k n=>simp[isB]at b;exact⟨b.1,b.2.1,b.2.2,h⟩
 |GJ x y=>simp[isB]at b;exact b
 |swap l g k n=>simp[isB]at b;exact⟨b.1,b.2.1,b.2.2,h⟩
 |Bv u l g k n=>simp[isB]at b;exact⟨b.1,b.2.1,b.2.2,h.1,h.2⟩
 |Ci l n=>simp[isB]at b;exact b
 |thr l n ws=>simp[isB]at b;exact⟨b,h⟩
 |Fe p q x=>simp[isB]at b;exact⟨b.2.2,b.1,b.2.1,h⟩
def jr(h:Wf t d):Raw t d/\isB t d=true:=by
 cases d with
 |CU p k n=>exact⟨h.2.2.2,by simp[isB,h.1,h.2.1,h.2.2.1]⟩
 |GJ x y=>exact⟨trivial,by simp[isB,show x≠y from h]⟩
 |swap l g k n=>exact⟨h.2.2.2,by simp[isB,h.1,h.2.1,h.2.2.1]⟩
 |Bv u l g k n=>exact⟨⟨h.2.2.2.1,h.2.2.2.2⟩,by simp[isB,h.1,h.2.1,h.2.2.1]⟩
 |Ci l n=>exact⟨trivial,by simp[isB,show 1<=n from h]⟩
 |thr l n ws=>exact⟨h.2,by simp[isB,h.1]⟩
 |Fe p q x=>exact⟨h.2.2.2,by simp[isB,h.1,h.2.1,h.2.2.1]⟩
section
variable{S:Sto}{t:Tr}{w:Str}
def JK(h1:((at? E i).isNone && decide (i<E.length))=true)(h2:at? E j=Gc (.str p))(h3:tbl.lookup p=Gc G):iI tbl i j fs E S=AZ (AF G fs) E S:=by
 unfold iI
 rw[vC h1,h2,A1]
 dsimp only
 rw[h3,A1]
@[simp] def fA:List.lookup (Str.ofString "partner") Ez=some CM:=rfl
@[simp] def pV:List.lookup (Str.ofString "kind") Ez=some DN:=rfl
@[simp] def nV:List.lookup (Str.ofString "load") Ez=some CQ:=rfl
@[simp] def fS:List.lookup (Str.ofString "number") Ez=some CB:=rfl
@[simp] def iM:List.lookup (Str.ofString "pieces") Ez=some EO:=rfl
@[simp] def iV:List.lookup (Str.ofString "worths") Ez=some ET:=rfl
@[simp] def mE:List.lookup (Str.ofString "share") Ez=some Cs:=rfl
def ij{i:Nat}:Al [t.d,.str "partner",.int i] S=Gc (.bl (decide (i<t.p)),S):=by
 have e:=within_int (S:=S) (i:=i) (j:=0) (k:=(t.p:Int)-1)
 have q:(decide ((0:Int)<=i) && decide ((i:Int)<=(t.p:Int)-1))=decide (i<t.p):=by
  rw[we];simp;lia
 rw[q]at e
 simp[Al,Ce,JK,CM,F8,Tr.d,e]
def g9{i:Nat}:Al [t.d,.str "kind",.int i] S=Gc (.bl (decide (i<t.k)),S):=by
 have e:=within_int (S:=S) (i:=i) (j:=0) (k:=(t.k:Int)-1)
 have q:(decide ((0:Int)<=i) && decide ((i:Int)<=(t.k:Int)-1))=decide (i<t.k):=by
  rw[we];simp;lia
 rw[q]at e
 simp[Al,Ce,JK,DN,JS,Tr.d,e]
def gE{i:Nat}:Al [t.d,.str "load",.int i] S=Gc (.bl true,S):=by
 have e:=Jx (S:=S) (i:=i) (j:=0)
 have q:decide ((0:Int)<=i)=true:=by simp
 rw[q]at e
 generalize t.d=T
 simp[Al,Ce,JK,CQ,Fo,e]
def iS(h0:0<=u)(h1:u<=9):Al [t.d,.str "number",.int u] S=Gc (.bl true,S):=by
 have e:=within_int (S:=S) (i:=u) (j:=0) (k:=9)
 generalize t.d=T
 simp[Al,Ce,JK,CB,FH,e,h0,h1]
def ie:Al [t.d,.str "pieces",.int n] S=Gc (.bl (decide (1<=n)),S):=by
 have e:=Jx (S:=S) (i:=n) (j:=1)
 generalize t.d=T
 simp[Al,Ce,JK,EO,Im,e]
def iw{ws:Wp Int}(h:ws.length=t.k+1)(hk:t.k<=5)(hw:∀w∈ws,1<=w/\w<=99):Al [t.d,.str "worths",.tup (ws.map .int)] S=Gc (.bl true,S):=by
 have k3:St.Kd.tup.isA "tuple"=true:=by decide
 obtain⟨bs,e1,e2⟩:=kq (S:=S) (f:=AF Ab [eV 0,eI 1,eI 99]) (e:=D.int) (C:=[]) (os:=[none]) (xs:=ws) (gs:=[]) (t:=tNm 0) AW (by lia) rfl (by
  intro r hr' os ho
  obtain⟨a,rfl⟩:=NJ ho
  have:=within_int (S:=S) (i:=r) (j:=1) (k:=99)
  exact⟨[Gc (.int r)],rfl,by simp,by simp[this,hw r hr']⟩)
 have it:Ag [.tup (ws.map .int),.int ((t.k:Int)+1)] S=Gc (.bl true,S):=by
  have:((ws.length:Int)==(t.k:Int)+1)=true:=by rw[h];simp
  simp[Ag,Cg,kdW,k3,this]
 simp only[vK]at e1
 obtain⟨b',e3,e4⟩:=xG.mp e2
 have v:EM [.tup (ws.map .int),.int ((t.k:Int)+1)] S=Gc (.bl true,S):=by
  simp[EM,Ij,it]
  simp[NA,e1,e3,e4]
 simp[Al,Ce,JK,ET,Il,Tr.d,v]
def iP(h0:0<x.num)(h1:x.num<=x.den)(h2:x.den<=12):Al [t.d,.str "share",aD x] S=Gc (.bl true,S):=by
 have nn:0<=x:=Rat.num_nonneg.mp (by lia)
 have l1:x<=1:=by rw[Rat.le_iff];simpa using h1
 have e:=Pe (S:=S) nn l1
 have h2':(x.den:Int)<=12:=by exact_mod_cast h2
 generalize t.d=T
 have e':Cp [.tup [.int x.num,.int x.den]] S=Gc (.bl true,S):=e
 simp[Al,Ce,JK,Cs,GO,aD,e',h0,h2']
@[simp] def qk{t:Tf}:BZ [] t c f [] acc E S=some (acc,S):=DA AW
def aN{t:Tf}(h:acc.length<20)(e:t d E S=Gc E1)(g:f E1 S=Gc (y,S)):BZ [] t BI f (d::ds) acc E S=BZ [] t BI f ds (acc++[y]) E1 S:=by
 rw[FN AW (uU h (AJ (by decide))) e D0,g,A1]
def pC:=AF Al [eV 0,eV 3,eIx (eV 1) (eOp (o2 CN) [eV 2,eI 1])]
def pT:=AN (xIf (Ew (eOp (o1 Ww) [Bk [0,1] 2 (bf (eV 3)) (tTp [tNm 2,tNm 3]) BI pC])) (AZ (eC (.bl false))) BO) (AZ (eOr (eOp (o2 (wIn true)) [eV 2,eC Br]) (eOp (o2 wNe) [eIx (eV 1) (eI 1),eIx (eV 1) (eI 2)])))
def W3(hf:vk w Em=Gc (.tup form))(hl:xs.length=form.length):BA [T,.tup (.str w::xs)] S=(pT [Gc T,Gc (.tup (.str w::xs)),Gc (.str w),Gc (.tup form)] S).map λr=>(flD r.1,r.2.2):=by
 have h1:(((form.length:Nat):Int)+1==0)=false:=vb.mpr (by lia)
 have eb:Lc=(AN (xIf (eOr (Ew (eOp (o2 QK) [eV 1,eC (.ty "tuple")])) (eOp (o2 wEq) [eOp (o1 Eu) [eV 1],eI 0])) (AZ (eC (.bl false))) BO)
  (AN (Ay 2 (eIx (eV 1) (eI 0)))
  (AN (xIf (eOr (Ew (eOp (o2 QK) [eV 2,eC (.ty "str")])) (eOp (o1 (NX true Em)) [eV 2])) (AZ (eC (.bl false))) BO)
  (AN (Ay 3 (eOp (o1 (gn Em)) [eV 2]))
  (AN (xIf (eOp (o2 wNe) [eOp (o1 Eu) [eV 1],eOp (o2 CN) [eOp (o1 Eu) [eV 3],eI 1]]) (AZ (eC (.bl false))) BO)
  pT))))):=rfl
 have k1:St.Kd.tup.isA "tuple"=true:=by decide
 have k2:St.Kd.str.isA "str"=true:=by decide
 have t1:NX true Em (.val (.str w))=Gc (.val (.bl false)):=by
  show Gc (Wv.val (.bl (!(vk w Em).isSome)))=_
  rw[hf];rfl
 have t2:gn Em (.val (.str w))=Gc (.val (.tup form)):=by
  show(vk w Em).map Wv.val=_
  rw[hf];rfl
 simp[BA,eb,k1,k2,kdW,t1,t2,h1,hl]
def Yc{bs:Wp vZ}(hc:BZ [] (tTp [tNm 2,tNm 3]) BI pC (Mr 0 form) [] [Gc T,Gc (.tup (.str w::xs)),none,none] S=Gc (bs.map .bl,S))(hu:bs.all id=true->(eOr (eOp (o2 (wIn true)) [eV 2,eC Br]) (eOp (o2 wNe) [eIx (eV 1) (eI 1),eIx (eV 1) (eI 2)])) [Gc T,Gc (.tup (.str w::xs)),Gc (.str w),Gc (.tup form)] S=Gc (.bl u,S)):pT [Gc T,Gc (.tup (.str w::xs)),Gc (.str w),Gc (.tup form)] S=Gc (.ret (.bl (bs.all id && u)),[Gc T,Gc (.tup (.str w::xs)),Gc (.str w),Gc (.tup form)],S):=by
 have b1:bls (bs.map D.bl)=Gc bs:=by have:=QP (λx:vZ=>x) (xs:=bs);simpa using this
 generalize hz:(eOr (eOp (o2 (wIn true)) [eV 2,eC Br]) (eOp (o2 wNe) [eIx (eV 1) (eI 1),eIx (eV 1) (eI 2)]))=Z at hu
 cases q:bs.all id with
 |false=>simp[pT,NA,hc,b1,q]
 |true=>simp[pT,NA,hc,b1,q,hz,hu q]
end
section
variable{S:Sto}{t:Tr}{d:AR}
def PR(T:D)(S:Sto):Wp D->Wp D->Wp vZ->Prop
 | [],ys,bs=>ys=[]/\bs=[]
 |f::fs,ys,bs=>∃y ys' b bs',ys=y::ys'/\bs=b::bs'/\Al [T,f,y] S=Gc (.bl b,S)/\PR T S fs ys' bs'
theorem Rl:∀{form ys} {bs} {k} {acc} {o2 o3},PR T S form ys bs->L.drop (k+1)=ys->acc.length+form.length<=20->BZ [] (tTp [tNm 2,tNm 3]) BI pC (Mr k form) acc [Gc T,Gc (.tup L),o2,o3] S=Gc (acc++bs.map .bl,S)
 | [],ys,bs,k,acc,o2,o3,h,hd,hl=>by
   obtain⟨rfl,rfl⟩:=h
   simp[Mr]
 |f::fs,ys,bs,k,acc,o2,o3,h,hd,hl=>by
  obtain⟨y,ys',b,bs',rfl,rfl,hp,h⟩:=h
  have a:atI L ((k:Int)+1)=Gc y:=by
   have:L[k+1]?=Gc y:=by
    have:=congrArg (λz=>z[0]?) hd
    simpa using this
   have:=B3 (n:=k+1) this
   exact_mod_cast this
  have hd':L.drop (k+1+1)=ys':=by
   have:=congrArg List.tail hd
   simpa using this
  simp only[Mr]
  rw[aN (E1:=[Gc T,Gc (.tup L),Gc (.int k),Gc f]) (y:=.bl b) (by simp at hl;lia) (by simp) (by simp[pC,a,hp]),Rl h hd' (by simp at hl ⊢; lia)]
  simp
noncomputable def formOf:AR->Wp D
 | .CU .. =>[.str "partner",.str "kind",.str "pieces"]
 | .GJ .. =>[.str "load",.str "load"]
 | .swap .. =>[.str "load",.str "pieces",.str "kind",.str "pieces"]
 | .Bv .. =>[.str "number",.str "load",.str "pieces",.str "kind",.str "pieces"]
 | .Ci .. =>[.str "load",.str "pieces"]
 | .thr .. =>[.str "load",.str "pieces",.str "worths"]
 | .Fe .. =>[.str "partner",.str "partner",.str "share"]
def RH{a b:Nat}:(!((a:Int)==(b:Int)))= !(a==b):=by rw[KQ]
def JU(hf:vk w Em=Gc (.tup form))(hl:form.length<=20)(hp:PR T S form xs bs)(hlen:xs.length=form.length)(hu:(eOr (eOp (o2 (wIn true)) [eV 2,eC Br]) (eOp (o2 wNe) [eIx (eV 1) (eI 1),eIx (eV 1) (eI 2)])) [Gc T,Gc (.tup (.str w::xs)),Gc (.str w),Gc (.tup form)] S=Gc (.bl u,S)):BA [T,.tup (.str w::xs)] S=Gc (.bl (bs.all id && u),S):=by
 rw[W3 hf hlen,Yc (by have:=Rl (L:=.str w::xs) (k:=0) (acc:=[]) (o2:=none) (o3:=none) hp rfl (by simpa using hl);simpa using this) λ_=>hu]
 rfl
def Nn(ht:Hn t)(h:Raw t d):BA [t.d,d.d] S=Gc (.bl (isB t d),S):=by
 obtain⟨t1,t2,t3,t4,t5,t6⟩:=ht
 have pp:=λi:Nat=>ij (S:=S) (t:=t) (i:=i)
 have pk:=λi:Nat=>g9 (S:=S) (t:=t) (i:=i)
 have pl:=λi:Nat=>gE (S:=S) (t:=t) (i:=i)
 have pn:=λn:Int=>ie (S:=S) (t:=t) (n:=n)
 have kU:dr S Br=.val Br:=rfl
 cases d with
 |CU p k n=>
  have:=JU (T:=t.d) (w:="bring") (xs:=[.int p,.int k,.int n]) (bs:=[decide (p<t.p),decide (k<t.k),decide (1<=n)]) (u:=true) (S:=S) (form:=formOf (.CU p k n)) (rfl) (by simp[formOf]) ⟨_,_,_,_,rfl,rfl,pp p,_,_,_,_,rfl,rfl,pk k,_,_,_,_,rfl,rfl,pn n,rfl,rfl⟩ rfl (by
   generalize t.d=T
   have e:wIn true (.val (.str "bring")) (.val Br)=Gc (.val (.bl true)):=rfl
   simp[kU,e])
  rw[show(AR.CU p k n).d=.tup (.str "bring" :: [.int p,.int k,.int n])from rfl,this]
  simp[isB]
 |GJ a b=>
  have:=JU (T:=t.d) (w:="pool") (xs:=[.int a,.int b]) (bs:=[true,true]) (u:= !(a==b)) (S:=S) (form:=formOf (.GJ a b)) (rfl) (by simp[formOf]) ⟨_,_,_,_,rfl,rfl,pl a,_,_,_,_,rfl,rfl,pl b,rfl,rfl⟩ rfl (by
   generalize t.d=T
   have e:wIn true (.val (.str "pool")) (.val Br)=Gc (.val (.bl false)):=rfl
   simp[kU,e,RH])
  rw[show(AR.GJ a b).d=.tup (.str "pool" :: [.int a,.int b])from rfl,this]
  simp[isB]
 |swap l g k n=>
  have:=JU (T:=t.d) (w:="swap") (xs:=[.int l,.int g,.int k,.int n]) (bs:=[true,decide (1<=g),decide (k<t.k),decide (1<=n)]) (u:=true) (S:=S) (form:=formOf (.swap l g k n)) (rfl) (by simp[formOf]) ⟨_,_,_,_,rfl,rfl,pl l,_,_,_,_,rfl,rfl,pn g,_,_,_,_,rfl,rfl,pk k,_,_,_,_,rfl,rfl,pn n,rfl,rfl⟩ rfl (by
   generalize t.d=T
   have e:wIn true (.val (.str "swap")) (.val Br)=Gc (.val (.bl true)):=rfl
   simp[kU,e])
  rw[show(AR.swap l g k n).d=.tup (.str "swap" :: [.int l,.int g,.int k,.int n])from rfl,this]
  simp[isB]
 |Bv u l g k n=>
  have:=JU (T:=t.d) (w:="trade") (xs:=[.int u,.int l,.int g,.int k,.int n]) (bs:=[true,true,decide (1<=g),decide (k<t.k),decide (1<=n)]) (u:=true) (S:=S) (form:=formOf (.Bv u l g k n)) (rfl) (by simp[formOf]) ⟨_,_,_,_,rfl,rfl,iS h.2.1 h.2.2,_,_,_,_,rfl,rfl,pl l,_,_,_,_,rfl,rfl,pn g,_,_,_,_,rfl,rfl,pk k,_,_,_,_,rfl,rfl,pn n,rfl,rfl⟩ rfl (by
   generalize t.d=T
   have e:wIn true (.val (.str "trade")) (.val Br)=Gc (.val (.bl true)):=rfl
   simp[kU,e])
  rw[show(AR.Bv u l g k n).d=.tup (.str "trade" :: [.int u,.int l,.int g,.int k,.int n])from rfl,this]
  simp[isB]
 |Ci l n=>
  have:=JU (T:=t.d) (w:="spoil") (xs:=[.int l,.int n]) (bs:=[true,decide (1<=n)]) (u:=true) (S:=S) (form:=formOf (.Ci l n)) (rfl) (by simp[formOf]) ⟨_,_,_,_,rfl,rfl,pl l,_,_,_,_,rfl,rfl,pn n,rfl,rfl⟩ rfl (by
   generalize t.d=T
   have e:wIn true (.val (.str "spoil")) (.val Br)=Gc (.val (.bl true)):=rfl
   simp[kU,e])
  rw[show(AR.Ci l n).d=.tup (.str "spoil" :: [.int l,.int n])from rfl,this]
  simp[isB]
 |thr l n ws=>
  have:=JU (T:=t.d) (w:="throw") (xs:=[.int l,.int n,.tup (ws.map .int)]) (bs:=[true,decide (1<=n),true]) (u:=true) (S:=S) (form:=formOf (.thr l n ws)) (rfl) (by simp[formOf]) ⟨_,_,_,_,rfl,rfl,pl l,_,_,_,_,rfl,rfl,pn n,_,_,_,_,rfl,rfl,iw h.1 t4 h.2,rfl,rfl⟩ rfl (by
   generalize t.d=T
   have e:wIn true (.val (.str "throw")) (.val Br)=Gc (.val (.bl true)):=rfl
   simp[kU,e])
  rw[show(AR.thr l n ws).d=.tup (.str "throw" :: [.int l,.int n,.tup (ws.map .int)])from rfl,this]
  simp[isB]
 |Fe p q x=>
  have:=JU (T:=t.d) (w:="sell") (xs:=[.int p,.int q,aD x]) (bs:=[decide (p<t.p),decide (q<t.p),true]) (u:= !(p==q)) (S:=S) (form:=formOf (.Fe p q x)) (rfl) (by simp[formOf]) ⟨_,_,_,_,rfl,rfl,pp p,_,_,_,_,rfl,rfl,pp q,_,_,_,_,rfl,rfl,iP h.1 h.2.1 h.2.2,rfl,rfl⟩ rfl (by
   generalize t.d=T
   have e:wIn true (.val (.str "sell")) (.val Br)=Gc (.val (.bl false)):=rfl
   simp[kU,e,RH])
  rw[show(AR.Fe p q x).d=.tup (.str "sell" :: [.int p,.int q,aD x])from rfl,this]
  simp[isB,Bool.and_assoc]
def kF(e1:evs [oa,ob] E S=Gc ([.int i,.int j],S1))(h:i<=j)(e2:oc E S1=Gc (.int k,S2)):Q4 oa ob oc E S=Gc (.bl (decide (j<k)),S2):=by
 unfold Q4
 rw[e1]
 show(if i<=j then _ else _)=_
 rw[vC h,e2]
 rfl
def Mn{l k:Nat}:Cy [t.d,.int l,.int g,.int k,.int n] S=Gc (.bl (decide (1<=g) && (decide (k<t.k) && decide (1<=n))),S):=by
 have e1:(Q4 (eI 0) (eV 3) (eIx (eV 0) (eI 1))) [Gc t.d,Gc (.int l),Gc (.int g),Gc (.int k),Gc (.int n)] S=Gc (.bl (decide (k<t.k)),S):=by
  rw[kF (i:=0) (j:=k) (k:=t.k) (S1:=S) (S2:=S) (by simp) (by simp) (by simp[Tr.d])]
  simp
 generalize hz:(Q4 (eI 0) (eV 3) (eIx (eV 0) (eI 1)))=Z at e1
 have g1:decide (g>0)=decide (1<=g):=by rw[we];simp;lia
 have eb:GI=(AZ (D6 (eOp (o2 wGe) [eV 1,eI 0]) (D6 (eOp (o2 wGt) [eV 2,eI 0]) (D6 Z (eOp (o2 wGt) [eV 4,eI 0]))))):=by rw[<-hz];rfl
 generalize t.d=T at*
 by_cases h1:1<=g<;>by_cases h2:k<t.k<;>by_cases h3:1<=n<;>
  (have a1:(0<g)=(1<=g):=by simp;lia
   have a3:(0<n)=(1<=n):=by simp;lia
   simp[Cy,eb,e1,h1,h2,h3,a1,a3])
def NF(h:Raw t d):A5 [t.d,d.d] S=Gc (.bl (isB t d),S):=by
 cases d with
 |CU p k n=>
  have c1:IU [D.str (u7 "bring"),D.int p,D.int k,D.int n] (Gc 1) none=[.int p,.int k,.int n]:=rfl
  have a3:(0<n)=(1<=n):=by simp;lia
  by_cases h1:p<t.p<;>by_cases h2:k<t.k<;>simp[A5,Bh,AR.d,Tr.d,isB,c1,h1,h2,a3]
 |GJ a b=>
  have c1:IU [D.str (u7 "pool"),D.int a,D.int b] (Gc 1) none=[.int a,.int b]:=rfl
  simp[A5,Bh,AR.d,isB,c1,RH]
 |swap l g k n=>
  have c1:IU [D.str (u7 "swap"),D.int l,D.int g,D.int k,D.int n] (Gc 1) none=[.int l,.int g,.int k,.int n]:=rfl
  have c2:IU [D.int l,D.int g,D.int k,D.int n] (Gc (-4)) none=[.int l,.int g,.int k,.int n]:=rfl
  have e:=Mn (S:=S) (t:=t) (l:=l) (k:=k) (g:=g) (n:=n)
  generalize t.d=T at*
  simp[A5,Bh,AR.d,isB,c1,c2,e]
 |Bv u l g k n=>
  have c1:IU [D.str (u7 "trade"),D.int u,D.int l,D.int g,D.int k,D.int n] (Gc 1) none=[.int u,.int l,.int g,.int k,.int n]:=rfl
  have c2:IU [D.int u,D.int l,D.int g,D.int k,D.int n] (Gc (-4)) none=[.int l,.int g,.int k,.int n]:=rfl
  have e:=Mn (S:=S) (t:=t) (l:=l) (k:=k) (g:=g) (n:=n)
  generalize t.d=T at*
  simp[A5,Bh,AR.d,isB,c1,c2,e]
 |Ci l n=>
  have c1:IU [D.str (u7 "spoil"),D.int l,D.int n] (Gc 1) none=[.int l,.int n]:=rfl
  have a3:(0<n)=(1<=n):=by simp;lia
  simp[A5,Bh,AR.d,isB,c1,a3]
 |thr l n ws=>
  have c1:IU [D.str (u7 "throw"),D.int l,D.int n,D.tup (ws.map .int)] (Gc 1) none=[.int l,.int n,.tup (ws.map .int)]:=rfl
  have a3:(0<n)=(1<=n):=by simp;lia
  simp[A5,Bh,AR.d,isB,c1,a3]
 |Fe p q x=>
  have c1:IU [D.str (u7 "sell"),D.int p,D.int q,aD x] (Gc 1) none=[.int p,.int q,aD x]:=rfl
  by_cases h1:p<t.p<;>by_cases h2:q<t.p<;>simp[A5,Bh,AR.d,Tr.d,isB,c1,h1,h2,RH]
end
section
variable{S:Sto}{E:En}{C f m:Str}{o v:Ev}{fs:Wp Ev}{F:Fn}{R:Rf}
@[simp] def lA:ON C f o E S=(o E S).bind λr=>(Km r.2 C r.1).bind λas=>(as.lookup f).map λd=>(d,r.2):=rfl
@[simp] def j0:HN C m F o fs E S=(o E S).bind λr=>(Km r.2 C r.1).bind λas=>if(as.lookup m).isNone=true then(evs fs E r.2).bind λq=>F (r.1::q.1) q.2 else none:=rfl
def VA:SM C m R o fs E S=(o E S).bind λr=>(Km r.2 C r.1).bind λas=>if(as.lookup m).isNone=true then(evs fs E r.2).bind λq=>(R (r.1::q.1) q.2).map λz=>(z.1,E,z.2)else none:=rfl
def Q3(e1:v E S=Gc (d,S1))(e2:o E S1=Gc (.ref n,S2))(e3:S2[n]?=Gc (.ins C as))(hl:as.length<1000):W8 C f o v E S=Gc (.nx,E,S2.set n (.ins C (MU f d as))):=by
 unfold W8
 rw[e1,A1,e2,A1,RG e3,A1]
 exact vC hl
end
noncomputable def lds(b:D)(q:Nat):Wp (Str×D):=[("kept",b),("earlier",.ref q)]
@[simp] def tQ:(lds b q).lookup (Str.ofString "kept")=some b:=rfl
@[simp] def rP:(lds b q).lookup (Str.ofString "earlier")=some (.ref q):=rfl
noncomputable def lead(b:D)(q:Nat):Cl:=.ins "Leader" (lds b q)
structure LAt(S:Sto)(L q:Nat)(b:D)(m:Nat):Prop where
 ob:S[L]?=Gc (lead b q)
 er:∃es,S[q]?=Gc (.lst es)/\es.length<=m
section
variable{S S':Sto}{L q m:Nat}{b b':D}
def LAt.ne(h:LAt S L q b m):q≠L:=λz=>by
 obtain⟨es,e,_⟩:=h.er
 rw[z,h.ob]at e
 cases e
def LAt.ins(h:LAt S L q b m):Km S "Leader" (.ref L)=Gc (lds b q):=RG h.ob
def LAt.kept(h:LAt S L q b m)(e:at? E i=Gc (.ref L)):ON "Leader" "kept" (eV i) E S=Gc (b,S):=by
 simp[eV,e,h.ins]
def LAt.same(h:LAt S L q b m)(s:Bq [] S S'):LAt S' L q b m:=⟨s.get h.ob (by simp),let⟨es,e,l⟩:=h.er;⟨es,s.get e (by simp),l⟩⟩
def bR(h:LAt S L q b m)(hm:m<1000):∃S',A4 [.ref L,b'] S=Gc (.non,S')/\LAt S' L q b' (m+1)/\Bq [L,q] S S':=by
 obtain⟨es,e,l⟩:=h.er
 have ne:=h.ne
 have hq:=Ai e
 have hL:=Ai h.ob
 have i1:=h.ins
 have c1:=AQ e
 have sz:es.length<sizeLine:=vJ l (uU hm (AJ (by decide)))
 have o1:(S.set q (.lst (es++[b])))[L]?=Gc (lead b q):=by rw[uV ne];exact h.ob
 have x:=Q3 (d:=b') (n:=L) (f:="kept") (E:=[Gc (D.ref L),Gc b']) (o:=eV 0) (v:=eV 1) (S:=S.set q (.lst (es++[b]))) (C:="Leader") (S1:=S.set q (.lst (es++[b]))) (S2:=S.set q (.lst (es++[b]))) (by simp) (by simp) o1 (by simp[lds])
 refine⟨(S.set q (.lst (es++[b]))).set L (lead b' q),?_,⟨uh (by simpa using hL),es++[b],?_,by simp;exact l⟩,(Bq.set (by simp)).trans (.set (by simp))⟩
 .generalize hz:W8 "Leader" "kept" (eV 0) (eV 1)=Z at x
  have eb:Fp=(AN (Bo (NC Nt (ON "Leader" "earlier" (eV 0)) [ON "Leader" "kept" (eV 0)])) Z):=by rw[<-hz];rfl
  have x':Z [Gc (D.ref L),Gc b'] (S.set q (.lst (es++[b])))=Gc (.nx,[Gc (D.ref L),Gc b'],(S.set q (.lst (es++[b]))).set L (lead b' q)):=x
  simp[A4,eb,i1,c1,sz,x']
 .rw[uV ne.symm]
  exact uh (by simpa using hq)
def bA(h:LAt S L q b m):CV [.ref L] S=Gc (b,S):=by
 have e:=h.kept (E:=[Gc (.ref L)]) (i:=0) rfl
 generalize hz:ON "Leader" "kept" (eV 0)=Z at e
 have eb:IA=AZ Z:=by rw[<-hz];rfl
 simp[CV,eb,e]
end
section
variable{S:Sto}{t:Tr}{st:Stt}{d:AR}{ls:Wp Ld}{ds:Wp AR}
noncomputable def makes:AR->vZ
 | .CU _ _ _=>true
 | .GJ _ _=>true
 | .swap _ _ _ _=>true
 | .Bv _ _ _ _ _=>true
 | .Ci _ _=>false
 | .thr _ _ _=>false
 | .Fe _ _ _=>false
noncomputable def wordOf:AR->Str
 | .CU _ _ _=>"bring"
 | .GJ _ _=>"pool"
 | .swap _ _ _ _=>"swap"
 | .Bv _ _ _ _ _=>"trade"
 | .Ci _ _=>"spoil"
 | .thr _ _ _=>"throw"
 | .Fe _ _ _=>"sell"
def Vp(d:AR):∃r,d.d=.tup (.str (wordOf d)::r):=by
 cases d<;>exact⟨_,rfl⟩
def WO:wIn true (.val (.str (wordOf d))) (.val BS)=Gc (.val (.bl (!makes d))):=by
 cases d<;>exact rfl
def TY:wIn false (.val (.str (wordOf d))) (.val BS)=Gc (.val (.bl (makes d))):=by
 cases d<;>exact rfl
def UE:wIn false (.val (.str (wordOf d))) (.val (.tup [.str "bring",.str "pool",.str "swap",.str "trade"]))=Gc (.val (.bl (makes d))):=by
 cases d<;>exact rfl
noncomputable def cnt(ls:Wp Ld)(ds:Wp AR):Int:=(ls.length:Int)+((ds.filter makes).length:Int)
def dR{m:Nat}(hm:ds[m]?=Gc d):atI (ds.map AR.d) (m:Int)=Gc d.d:=B3 (by rw[um,hm];rfl)
def kN{os:En}(hX:∀{d},wIn false (.val (.str (wordOf d))) (dr S X)=Gc (.val (.bl (makes d))))(ho:os.length=1){xs:Wp AR}(hl:xs.length<=100)(hf:∀E,f E S=Gc (X,S)):BZ [] (tNm 0) (eOp (o2 (wIn false)) [eIx (eV 0) (eI 0),f]) (eV 0) (xs.map AR.d) [] os S=Gc ((xs.filter makes).map AR.d,S):=by
 have:=EY (gs:=[]) (t:=tNm 0) (c:=eOp (o2 (wIn false)) [eIx (eV 0) (eI 0),f]) (f:=eV 0) (C:=[]) (m:=1) (e:=AR.d) (g:=AR.d) (b:=makes) (S:=S) AW (xs:=xs) (acc:=[]) (os:=os) ho (AJ (by simp;lia)) (by
  intro x hx os ho
  obtain⟨a,rfl⟩:=NJ ho
  obtain⟨r,e⟩:=Vp x
  refine⟨[Gc x.d],rfl,by simp,?_,by simp⟩
  rw[e]
  have h1:=hX (d:=x)
  simp[hf,h1])
 simpa using this
def Yf(h:m<ds.length):DX [AK t ls ds,.int m] S=Gc (.bl true,S):=by
 have w:=within_int (S:=S) (i:=m) (j:=0) (k:=(ds.length:Int)-1)
 have w2:(m:Int)<=(ds.length:Int)-1:=by lia
 simp[DX,K6,AK,w,w2]
def Q5{m:Nat}(h:CJ t ls ds)(hm:ds[m]?=Gc d):EF [AK t ls ds,.int m] S=Gc (if makes d=true then .int (cnt ls (ds.take m))else .non,S):=by
 have hlt:=(ua.mp hm).1
 have hl:=h.len
 have r1:=MG (S:=S) h
 have pl:=Yf (S:=S) (t:=t) (ls:=ls) hlt
 have a:=dR hm
 obtain⟨r,e⟩:=Vp d
 rw[e]at a
 have hk:dr S BS=.val BS:=rfl
 have im:=WO (d:=d)
 cases hmk:makes d with
 |false=>
  rw[hmk]at im
  simp[EF,JA,r1,pl]
  simp[AK,a,hk,im]
 |true=>
  rw[hmk]at im
  have c:=kN (S:=S) (X:=BS) (os:=[none]) (by rw[hk];exact TY) rfl (xs:=ds.take m) (by simp;lia) (f:=eC BS) (λ_=>rfl)
  have sl:wSl none (Gc (m:Int)) (.val (.tup (ds.map AR.d)))=Gc (.val (.tup ((ds.take m).map AR.d))):=by
   show Gc (Wv.val (.tup (IU _ _ _)))=_
   rw[Jf (by simp;lia),yv]
  have ml:C8 [AK t ls ds,.int m] S=Gc (.int (cnt ls (ds.take m)),S):=by
   rw[yv]at c sl
   simp[C8,Ie,AK,sl,c,cnt]
  have ml2:C8 [.tup [t.d,.tup (ls.map Ld.d),.tup (ds.map AR.d)],.int m] S=Gc (.int (cnt ls (ds.take m)),S):=ml
  simp[EF,JA,r1,pl,ml]
  simp[AK,a,hk,im,ml2]
noncomputable def OH(ds:Wp AR):Nat:=(ds.filter Pm).length
def WS{os:En}(ho:os.length=1)(hl:ds.length<=50):BZ [] (tNm 0) (eOp (o2 wEq) [eIx (eV 0) (eI 0),eC (.str "throw")]) (eV 0) (ds.map AR.d) [] os S=Gc ((ds.filter Pm).map AR.d,S):=by
 have:=EY (gs:=[]) (t:=tNm 0) (c:=eOp (o2 wEq) [eIx (eV 0) (eI 0),eC (.str "throw")]) (f:=eV 0) (C:=[]) (m:=1) (e:=AR.d) (g:=AR.d) (b:=Pm) (S:=S) AW (xs:=ds) (acc:=[]) (os:=os) ho (AJ (by simp;lia)) (by
  intro x hx os ho
  obtain⟨a,rfl⟩:=NJ ho
  exact⟨[Gc x.d],rfl,by simp,YZ x _ rfl,by simp⟩)
 simpa using this
def Kr(ht:Hn t)(hw:∀d∈ds,Wf t d)(hl:ds.length<=50):BD [t.d,.tup (ds.map AR.d)] S=Gc (.bl (decide (ds.length<=20) && decide (OH ds<=3)),S):=by
 have k3:St.Kd.tup.isA "tuple"=true:=by decide
 have d1:dr S Fs=.val (.int 20):=rfl
 have d2:dr S Ey=.val (.int 3):=rfl
 by_cases c:ds.length<=20
 .obtain⟨bs,e1,e2⟩:=kq (S:=S) (f:=AF BA [eV 0,eV 1]) (e:=AR.d) (C:=[Gc t.d]) (os:=[none]) (xs:=ds) (gs:=[]) (t:=tNm 1) AW (by lia) rfl (by
   intro x hx os ho
   obtain⟨a,rfl⟩:=NJ ho
   have⟨r,i⟩:=jr (hw x hx)
   have e:=Nn (S:=S) ht r
   rw[i]at e
   exact⟨[Gc x.d],rfl,by simp,by simp[e]⟩)
  obtain⟨b',e3,e4⟩:=xG.mp e2
  have tc:=WS (S:=S) (os:=[none]) rfl hl
  have c1:¬(20:Int)<ds.length:=by lia
  have c2:decide ((((ds.filter Pm).length:Nat):Int)<=3)=decide (OH ds<=3):=by
   unfold OH
   rw[we];simp;lia
  generalize t.d=T at*
  simp[BD,GW,kdW,k3,d1,d2,c,c1,NA]
  try simp only[vU,vK]at e1
  simp[e1,e3,e4,tc,d2,c2]
 .have c1:(20:Int)<ds.length:=by lia
  generalize t.d=T
  simp[BD,GW,kdW,k3,d1,d2,c,c1]
end
section
variable{ds:Wp AR}
noncomputable def GC(t:Tr)(ls:Wp Ld)(ds:Wp AR)(d:AR):Nat:=
 if isB t d=false then 0 else if HE (runs t (st0 t ls) ds) d=false then 1 else if ds.length=20\/3<OH (ds++[d])then 2 else 3
def ZH(h:Can t st d):Wf t d:=(VC h).1
theorem Qg:∀{ds} {st:Stt},MZ t st ds->∀d∈ds,Wf t d
 | [],st,_,d,hd=>by cases hd
 |x::ds,st,h,d,hd=>by
  rcases uY.mp hd with rfl|hd
  .exact ZH h.1
  .exact Qg h.2 d hd
def take_snoc:(ds++[d]).take ds.length=ds:=by simp
def bK(h:CJ t ls ds)(hw:Wf t d)(c:HE (runs t (st0 t ls) ds) d=false):Up t ls (ds++[d]) ds.length:=
 ⟨h.tr,h.inv,by have:=h.len;simp;lia,by simp,by rw[take_snoc];exact h.good,λx hx=>by rw[take_snoc];simp at hx;subst hx;exact c⟩
def Xo(h:CJ t ls ds)(hw:Wf t d)(c:HE (runs t (st0 t ls) ds) d=true):Up t ls (ds++[d]) (ds++[d]).length:=
 ⟨h.tr,h.inv,by have:=h.len;simp;lia,uc _,by rw[yh];exact Kb h.good (ZW hw c),λx hx=>by simp at hx⟩
def Xs(h:Up t ls ds ds.length):AU [AK t ls ds] S=Gc (.non,S)/\Ak [AK t ls ds] S=none:=by
 have e:=jF (S:=S) h
 have ed:Xi ds ds.length=.non:=by unfold Xi;rw[vB (by lia)]
 rw[ed]at e
 constructor
 .simp[AU,Cv,e,isN]
 .simp[Ak,Cu,lT,GZ,Kf,Nl,KS,e,isN,Ym]
def bkE:=A9 [eV 2,eV 3,eOp (o2 CN) [eV 4,A9 [eV 1]]]
def doB(Z:Ev):Ex:=(AN (xIf (Ew (AF BA [eV 2,eV 1])) CY BO) (AN (Ay 5 Z) (AN (Bo (AF AU [eV 5])) (AN (xIf (Ew (AF BD [eV 2,eIx (eV 5) (eI 2)])) CY BO) (AN (Bo (HN "Leader" "turn_to" A4 (eV 0) [eV 5])) (AZ (AF EF [eV 5,eOp (o1 Eu) [eV 4]])))))))
def doR(Z:Ev):Rx:=(N8 (rIf (Ew (AF BA [eV 2,eV 1])) (Lj "NoDeed" [eC (.str "this is no deed of the train")]) rNo) (xIf (Ew (AF BA [eV 2,eV 1])) CY BO) (N8 rNo (Ay 5 Z) (N8 (Qo Ak [eV 5]) (Bo (AF AU [eV 5])) (N8 (rIf (Ew (AF BD [eV 2,eIx (eV 5) (eI 2)])) (Lj "TooMany" [eC (.str "a book hasn't so many deeds or throws")]) rNo) (xIf (Ew (AF BD [eV 2,eIx (eV 5) (eI 2)])) CY BO) (N8 rNo (Bo (HN "Leader" "turn_to" A4 (eV 0) [eV 5])) (Qo JQ [eV 5,eOp (o1 Eu) [eV 4]]))))))
def U5(h:LAt S L q (AK t ls ds) m):(II (tTp [tNm 2,tNm 3,tNm 4]) (ON "Leader" "kept" (eV 0))) [Gc (.ref L),o,none,none,none,none] S=Gc (.nx,[Gc (.ref L),o,Gc t.d,Gc (.tup (ls.map Ld.d)),Gc (.tup (ds.map AR.d)),none],S):=by
 simp[h.ins,AK]
def fQ(h:LAt S L q (AK t ls ds) m):As [.ref L,X] S=(doB bkE [Gc (.ref L),Gc X,Gc t.d,Gc (.tup (ls.map Ld.d)),Gc (.tup (ds.map AR.d)),none] S).map (λr=>(flD r.1,r.2.2))/\A3 [.ref L,X] S=(doR bkE [Gc (.ref L),Gc X,Gc t.d,Gc (.tup (ls.map Ld.d)),Gc (.tup (ds.map AR.d)),none] S).map λr=>(r.1,r.2.2):=by
 have u:=λo=>U5 h (o:=o)
 constructor
 .generalize hz:(II (tTp [tNm 2,tNm 3,tNm 4]) (ON "Leader" "kept" (eV 0)))=Z at u
  have eb:Jc=AN Z (doB bkE):=by rw[<-hz];rfl
  generalize doB bkE=B at*
  simp[As,eb,u]
 .generalize hz:(II (tTp [tNm 2,tNm 3,tNm 4]) (ON "Leader" "kept" (eV 0)))=Z at u
  have eb:Jo=N8 rNo Z (doR bkE):=by rw[<-hz];rfl
  generalize doR bkE=B at*
  simp[A3,eb,lT,GZ,Kf,u,Nl]
def gj(hL:LAt S L q (AK t ls ds) m)(hm:m<1000)(h:CJ t ls ds)(h3:OH ds<=3)(hr:Raw t d):(GC t ls ds d=0->As [.ref L,d.d] S=none/\A3 [.ref L,d.d] S=Gc (⟨"NoDeed",none⟩,S))/\(GC t ls ds d=1->As [.ref L,d.d] S=none/\A3 [.ref L,d.d] S=Gc (⟨"NotDone",Gc (ds.length:Int)⟩,S))/\(GC t ls ds d=2->As [.ref L,d.d] S=none/\A3 [.ref L,d.d] S=Gc (⟨"TooMany",none⟩,S))/\(GC t ls ds d=3->∃S',As [.ref L,d.d] S=Gc (if makes d=true then .int (cnt ls ds)else .non,S')/\LAt S' L q (AK t ls (ds++[d])) (m+1)/\Bq [L,q] S S'/\CJ t ls (ds++[d])/\OH (ds++[d])<=3):=by
 obtain⟨r1,r2⟩:=fQ hL (X:=d.d)
 have i:=Nn (S:=S) h.tr hr
 have hlen:=h.len
 have bk:bkE [Gc (.ref L),Gc d.d,Gc t.d,Gc (.tup (ls.map Ld.d)),Gc (.tup (ds.map AR.d)),none] S=Gc (AK t ls (ds++[d]),S):=by
  have sz:ds.length+1<=sizeLine:=AJ (by lia)
  have s3:1+1+1<=sizeLine:=AJ (by decide)
  simp[bkE,sz,AK,s3]
 have b2:atI [t.d,.tup (ls.map Ld.d),.tup ((ds++[d]).map AR.d)] 2=Gc (.tup ((ds++[d]).map AR.d)):=rfl
 generalize bkE=Z at*
 refine⟨λc=>?_,λc=>?_,λc=>?_,λc=>?_⟩
 .have c0:isB t d=false:=by
   unfold GC at c
   split at c
   .assumption
   .split at c
    .cases c
    .split at c<;>cases c
  rw[c0]at i
  rw[r1,r2]
  constructor
  .simp[doB,i,J9]
  .simp[doR,i,GZ,KS,ak,Nc]
 .have c0:isB t d=true/\HE (runs t (st0 t ls) ds) d=false:=by
   unfold GC at c
   split at c
   .cases c
   .rename_i z
    split at c
    .exact⟨by simpa using z,by assumption⟩
    .split at c<;>cases c
  rw[c0.1]at i
  obtain⟨u1,u2⟩:=Xr (S:=S) (bK h (W6 hr c0.1) c0.2) (by simp)
  rw[r1,r2]
  constructor
  .simp[doB,i,bk,u1]
  .simp[doR,i,bk,GZ,KS,Ym,Kf,Nl,O5,u1,u2]
 .have c0:isB t d=true/\HE (runs t (st0 t ls) ds) d=true/\(ds.length=20\/3<OH (ds++[d])):=by
   unfold GC at c
   split at c
   .cases c
   .rename_i z
    split at c
    .cases c
    .rename_i z2
     split at c
     .exact⟨by simpa using z,by simpa using z2,by assumption⟩
     .cases c
  obtain⟨c1,c2,c3⟩:=c0
  rw[c1]at i
  obtain⟨u1,u2⟩:=Xs (S:=S) (Xo h (W6 hr c1) c2)
  have ad:=Kr (S:=S) (ds:=ds++[d]) h.tr (λx hx=>by
   rcases vD.mp hx with hx|hx
   .exact Qg h.good x hx
   .simp at hx;subst hx;exact W6 hr c1) (by simp;lia)
  have af:(decide ((ds++[d]).length<=20) && decide (OH (ds++[d])<=3))=false:=by
   rw[Bool.and_eq_false_iff]
   rcases c3 with c3|c3
   .left;simp;lia
   .right;simp;lia
  rw[af]at ad
  rw[r1,r2]
  have db:dr S (AK t ls (ds++[d]))=.val (AK t ls (ds++[d])):=rfl
  have ib:asS (.val (AK t ls (ds++[d])))=Gc [t.d,.tup (ls.map Ld.d),.tup ((ds++[d]).map AR.d)]:=rfl
  generalize AK t ls (ds++[d])=BK at*
  generalize (ds++[d]).map AR.d=DD at*
  constructor
  .simp[doB,i,bk,u1,db,ib,b2,ad,J9]
  .simp[doR,i,bk,GZ,KS,Ym,ak,Kf,Nl,O5,Nc,u1,u2,db,ib,b2,ad]
 .have c0:isB t d=true/\HE (runs t (st0 t ls) ds) d=true/\¬(ds.length=20\/3<OH (ds++[d])):=by
   unfold GC at c
   split at c
   .cases c
   .rename_i z
    split at c
    .cases c
    .rename_i z2
     split at c
     .cases c
     .exact⟨by simpa using z,by simpa using z2,by assumption⟩
  obtain⟨c1,c2,c3⟩:=c0
  rw[AAo]at c3
  rw[c1]at i
  have can:=ZW (W6 hr c1) c2
  have bok:CJ t ls (ds++[d]):=⟨h.tr,h.inv,Kb h.good can,by simp;lia⟩
  obtain⟨u1,u2⟩:=Yh (S:=S) bok
  have ad:=Kr (S:=S) (ds:=ds++[d]) h.tr (Qg bok.good) (by simp;lia)
  have af:(decide ((ds++[d]).length<=20) && decide (OH (ds++[d])<=3))=true:=by
   rw[ub]
   exact⟨by simp;lia,by simp;lia⟩
  rw[af]at ad
  obtain⟨S',e1,l1,s1⟩:=bR hL hm (b':=AK t ls (ds++[d]))
  have mb:=Q5 (S:=S') bok (m:=ds.length) (d:=d) (by simp)
  rw[take_snoc]at mb
  refine⟨S',?_,l1,s1,bok,by lia⟩
  rw[r1]
  have db:dr S (AK t ls (ds++[d]))=.val (AK t ls (ds++[d])):=rfl
  have ib:asS (.val (AK t ls (ds++[d])))=Gc [t.d,.tup (ls.map Ld.d),.tup ((ds++[d]).map AR.d)]:=rfl
  have hi:=hL.ins
  generalize AK t ls (ds++[d])=BK at*
  generalize (ds++[d]).map AR.d=DD at*
  have lt:(lds (AK t ls ds) q).lookup (u7 "turn_to")=none:=rfl
  simp[doB,i,bk,u1,db,ib,b2,ad,hi,lt,e1,mb]
end
section
variable{S:Sto}{t:Tr}{st:Stt}
variable{s l m:Nat}{as:Wp Nat}
def QC(hS:SAt S s l m as st)(h:i<st.AA.length):∃a,atI (as.map D.ref) (i:Int)=Gc (.ref a)/\dr S (.ref a)=.own [.int (AL st.AA i).k,.int (AL st.AA i).n,shD (AL st.AA i).ow]:=by
 have hl:=hS.len
 refine⟨as[i]'(by lia),B3 (by rw[um,uS (by lia)];rfl),?_⟩
 exact An (hS.ld i _ _ (uS (by lia)) (EL h))
def KH(hS:SAt S s l m as st){i:Nat}:CZ [.ref l,.int i,.int n] S=Gc (.bl (thB st i n),S):=by
 have d:=An hS.lo
 have hl:=hS.len
 by_cases h:i<st.AA.length
 .obtain⟨a,a1,a2⟩:=QC hS h
  have h':(i:Int)<(as.length:Int):=by lia
  have e:thB st i n=decide (n<=(AL st.AA i).n):=by simp[thB,h]
  rw[e]
  simp[CZ,JB,d,h',a1,a2]
 .have h':¬(i:Int)<(as.length:Int):=by lia
  have e:thB st i n=false:=by simp[thB,h]
  rw[e]
  simp[CZ,JB,d,h']
def oR(hS:SAt S s l m as st):BP [.ref s,d.d] S=Gc (.bl (HE st d),S):=by
 have r0:=AQ hS.root
 have lo:=An hS.lo
 cases d with
 |CU p kd n=>simp[BP,B1,AR.d,HE,r0]
 |Fe p q x=>simp[BP,B1,AR.d,HE,r0]
 |Ci i n=>
  have e:=KH hS (i:=i) (n:=n)
  simp[BP,B1,AR.d,HE,r0,e]
 |thr i n ws=>
  have e:=KH hS (i:=i) (n:=n)
  simp[BP,B1,AR.d,HE,r0,e]
 |GJ i j=>
  have e1:=KH hS (i:=i) (n:=1)
  have e2:=KH hS (i:=j) (n:=1)
  have cb:HE st (.GJ i j)=(thB st i 1 && (thB st j 1 && ((AL st.AA i).k==(AL st.AA j).k))):=rfl
  rw[cb]
  cases h1:thB st i 1 with
  |false=>
   rw[h1]at e1
   simp[BP,B1,AR.d,r0,e1]
  |true=>
   rw[h1]at e1
   cases h2:thB st j 1 with
   |false=>
    rw[h2]at e2
    simp[BP,B1,AR.d,r0,e1,e2]
   |true=>
    rw[h2]at e2
    obtain⟨a,a1,a2⟩:=QC hS (Li h1)
    obtain⟨b,b1,b2⟩:=QC hS (Li h2)
    have nb:=KQ (a:=(AL st.AA i).k) (b:=(AL st.AA j).k)
    generalize (as.map D.ref)=refs at*
    simp[BP,B1,AR.d,r0,e1,e2,lo,a1,b1,a2,b2,nb]
 |swap i g kd n=>
  have e:=KH hS (i:=i) (n:=g)
  have cb:HE st (.swap i g kd n)=(thB st i g && !((AL st.AA i).k==kd)):=rfl
  rw[cb]
  cases h1:thB st i g with
  |false=>
   rw[h1]at e
   simp[BP,B1,AR.d,r0,e]
  |true=>
   rw[h1]at e
   obtain⟨a,a1,a2⟩:=QC hS (Li h1)
   have nb:=KQ (a:=(AL st.AA i).k) (b:=kd)
   generalize (as.map D.ref)=refs at*
   simp[BP,B1,AR.d,r0,e,lo,a1,a2,nb]
 |Bv u i g kd n=>
  have e:=KH hS (i:=i) (n:=g)
  have nu:=An hS.nu
  have fi:=MW (us:=st.nums)
  have ii:=Ou (us:=st.nums) (i:=u)
  have cb:HE st (.Bv u i g kd n)=(!(st.nums.any λx=>x==u) && (thB st i g && !((AL st.AA i).k==kd))):=rfl
  rw[cb]
  generalize st.nums.map D.int=ud at*
  generalize (st.nums.any λx=>x==u)=bb at*
  cases bb with
  |true=>simp[BP,B1,AR.d,r0,nu,fi,ii]
  |false=>
   cases h1:thB st i g with
   |false=>
    rw[h1]at e
    simp[BP,B1,AR.d,r0,e,nu,fi,ii]
   |true=>
    rw[h1]at e
    obtain⟨a,a1,a2⟩:=QC hS (Li h1)
    have nb:=KQ (a:=(AL st.AA i).k) (b:=kd)
    generalize (as.map D.ref)=refs at*
    simp[BP,B1,AR.d,r0,e,lo,a1,a2,nb,nu,fi,ii]
theorem Z8(ht:Hn t):∀{es} {st:Stt} {k} {as} {S} {E},SAt S s l m as st->FC t k st->MZ t st es->k+es.length<=21->at? E 2=Gc t.d->at? E 5=Gc (.ref s)->6<E.length->∃S' as' o,Md [] (tNm 6) (Bo (AF Bl [eV 2,eV 5,eV 6])) (es.map AR.d) E S=Gc (.nx,E.set 6 o,S')/\SAt S' s l m as' (runs t st es)/\Bq (s::l::m::as) S S'/\(∀n∈as',n∈as\/S.length<=n)
 | [],st,k,as,S,E,hS,inv,g,hl,e2,e5,h6=>⟨S,as,E[6],by rw[wF,Jy AW];simp,hS,.refl,λn h=>.inl h⟩
 |d::es,st,k,as,S,E,hS,inv,g,hl,e2,e5,h6=>by
  obtain⟨S1,as1,k1,k2,k3,k4⟩:=Mi.iT hS ht inv (by simp at hl;lia) g.1
  obtain⟨S2,as2,o,q1,q2,q3,q4⟩:=Z8 ht (E:=E.set 6 (Gc d.d)) k2 (RX ht inv (by simp at hl;lia) g.1) g.2 (by simp at hl;lia) (by rw[at?,uV (by decide)];exact e2) (by rw[at?,uV (by decide)];exact e5) (by simpa using h6)
  have e6:at? (E.set 6 (Gc d.d)) 6=Gc d.d:=by rw[at?,uh h6];rfl
  have e2':at? (E.set 6 (Gc d.d)) 2=Gc t.d:=by rw[at?,uV (by decide)];exact e2
  have e5':at? (E.set 6 (Gc d.d)) 5=Gc (.ref s):=by rw[at?,uV (by decide)];exact e5
  refine⟨S2,as2,o,?_,q2,?_,λn hn=>?_⟩
  .rw[uw,EC AW]
   simp only[List.set_set]at q1
   simp[e2',e5',e6,k1,q1]
  .refine⟨uZ k3.len q3.len,λn hn ha=>(q3.keep n (uU hn k3.len) λz=>?_).trans (k3.keep n hn ha)⟩
   simp only[uY,AAo]at z ha
   rcases z with z|z|z|z
   .exact ha.1 z
   .exact ha.2.1 z
   .exact ha.2.2.1 z
   .rcases k4 _ z with w|w
    .exact ha.2.2.2 w
    .lia
  .rcases q4 n hn with w|w
   .exact k4 n w
   .exact .inr (uZ k3.len w)
noncomputable def LH:Nat->Str
 |0=>"!deed"
 |1=>"!done"
 |2=>"!many"
 |_=>"ok"
def Zt:=AN (NH (F7 (eV 4)) (tNm 6) (Bo (AF Bl [eV 2,eV 5,eV 6]))) (AN (xIf (Ew (AF BP [eV 5,eV 1])) (AZ (eC (.str "!done"))) BO) (AN (Ay 7 (eOp (o1 Eu) [Bk [] 1 (F7 (eOp (o2 CN) [eV 4,A9 [eV 1]])) (tNm 0) (eOp (o2 wEq) [eIx (eV 0) (eI 0),eC (.str "throw")]) (eV 0)])) (AZ (eIx (Ja [eC (.str "ok"),eC (.str "!many")]) (eOp (o1 Wl) [eOr (eOp (o2 wEq) [eOp (o1 Eu) [eV 4],eI 20]) (eOp (o2 wGt) [eV 7,eI 3])])))))
def gD(h:CJ t ls ds)(hr:Raw t d):∃S',Ck [AK t ls ds,d.d] S=Gc (.str (LH (GC t ls ds d)),S')/\Bq [] S S':=by
 have i:=NF (S:=S) hr
 have hl0:ls.length<=4:=h.inv.len
 have hlen:=h.len
 have eb:Ky=(AN (II (tTp [tNm 2,tNm 3,tNm 4]) (eV 0))
  (AN (xIf (Ew (AF A5 [eV 2,eV 1])) (AZ (eC (.str "!deed"))) BO)
  (AN (Ay 5 (AF CC [eV 0])) Zt))):=rfl
 cases c0:isB t d with
 |false=>
  rw[c0]at i
  refine⟨S,?_,.refl⟩
  have:GC t ls ds d=0:=by simp[GC,c0]
  rw[this]
  generalize Zt=Z at*
  simp[Ck,eb,AK,i,LH]
 |true=>
  rw[c0]at i
  obtain⟨s,l,m,as,S1,e1,hS,sm,hn⟩:=OO (S:=S) (t:=t) (ls:=ls) (x:=.tup (ds.map AR.d)) (by lia)
  have hS:SAt S1 s l m as (st0 t ls):=hS
  obtain⟨S2,as2,o,f1,f2,f3,f4⟩:=Z8 h.tr (E:=[Gc (AK t ls ds),Gc d.d,Gc t.d,Gc (.tup (ls.map Ld.d)),Gc (.tup (ds.map AR.d)),Gc (.ref s),none,none]) hS h.inv h.good (by lia) rfl rfl (by simp)
  have sm2:Bq [] S S2:=Bq.new (A:=[]) sm f3 hn
  refine⟨S2,?_,sm2⟩
  have lc:=oR f2 (d:=d)
  have pre:Ck [AK t ls ds,d.d] S=(Zt [Gc (AK t ls ds),Gc d.d,Gc t.d,Gc (.tup (ls.map Ld.d)),Gc (.tup (ds.map AR.d)),Gc (.ref s),none,none] S1).map λr=>(flD r.1,r.2.2):=by
   generalize Zt=Z at*
   simp only[AK]at e1⊢
   simp[Ck,eb,i,e1]
  rw[pre]
  have tc:=WS (S:=S2) (ds:=ds++[d]) (os:=[none]) rfl (by simp;lia)
  rw[wV,uw,wF]at tc
  have sz:ds.length+1<=sizeLine:=AJ (by lia)
  have e5:GC t ls ds d=(if HE (runs t (st0 t ls) ds) d=false then 1 else if ds.length=20\/3<OH (ds++[d])then 2 else 3):=by simp[GC,c0]
  rw[e5]
  generalize AK t ls ds=bk at*
  generalize t.d=T at*
  cases c1:HE (runs t (st0 t ls) ds) d with
  |false=>
   rw[c1]at lc
   simp at f1
   simp[Zt,f1,lc,LH]
  |true=>
   rw[c1]at lc
   simp at f1
   have eq:((ds.length:Int)==20)=decide (ds.length=20):=by rw[we];simp;lia
   have gt:decide ((3:Int)<(((ds++[d]).filter Pm).length:Nat))=decide (3<OH (ds++[d])):=by unfold OH;rw[we,ACO,ACO];lia
   generalize ((ds++[d]).filter Pm)=FF at*
   generalize OH (ds++[d])=N3 at*
   have wi:∀b:vZ,Wl (.val (.bl b))=Gc (.val (.int (if b=true then 1 else 0))):=λb=>by cases b<;>exact rfl
   by_cases c2:ds.length=20
   .have s21:21<=sizeLine:=AJ (by decide)
    simp[Zt,f1,lc,s21,tc,eq,c2,LH,NA]
   .by_cases c3:3<N3
    .simp[Zt,f1,lc,sz,tc,eq,c2,c3,gt,LH,NA]
    .simp[Zt,f1,lc,sz,tc,eq,c2,c3,gt,LH,NA]
end
section
variable{E:En}{S:Sto}{f g k o:Ev}{d:D}{es:Wp (Key×D)}
@[simp] def pR:evP [] E S=some ([],S):=rfl
@[simp] def kn:evP ((k,f)::r) E S=(k E S).bind λa=>(eQ a.1).bind λkk=>(f E a.2).bind λb=>(evP r E b.2).map λq=>((kk,b.1)::q.1,q.2):=rfl
@[simp] def lG:eQ (.str x)=some (.inr x):=rfl
@[simp] def ir:VB cf fs E S=(evP fs E S).map λr=>Yk cf (Ia [] r.1) r.2:=rfl
@[simp] def qo:Yk false es S=(.dct es,S):=rfl
@[simp] def ki:lB f k o E S=(f E S).bind λa=>(cI a.2 a.1).bind λ_=>(k E a.2).bind λb=>(o E b.2).bind λc=>(cI c.2 a.1).bind λes=>(eQ b.1).map λk=>((Rr es k).getD c.1,c.2):=rfl
end
def Qm:(D.str x).py.depth<=n+1:=by
 simp only[D.py,AAD]
 lia
def YU:(D.str "bring").lay=true/\(D.str "pool").lay=true/\(D.str "swap").lay=true/\(D.str "trade").lay=true/\(D.str "spoil").lay=true/\(D.str "throw").lay=true/\(D.str "sell").lay=true:=by decide+kernel
def Xm{d:AR}:d.d.lay=true:=by
 obtain⟨w1,w2,w3,w4,w5,w6,w7⟩:=YU
 have hw:∀ws:Wp Int,(D.tup (ws.map D.int)).lay=true:=λws=>Fw λ_ _=>rfl
 have ha:∀r:Rat,(aD r).lay=true:=λ_=>rfl
 have hi:∀i:Int,(D.int i).lay=true:=λ_=>rfl
 have ht:∀ds:Wp D,(D.tup ds).lay=D.Ox ds:=λ_=>rfl
 have hc:∀(d:D) (ds:Wp D),D.Ox (d::ds)=(d.lay && D.Ox ds):=λ_ _=>rfl
 have hn:D.Ox []=true:=rfl
 cases d with
 |thr l n ws=>
  have:=hw ws
  generalize hq:D.tup (ws.map D.int)=q at*
  simp only[AR.d,hq,ht,hc,hn,hi,w6,this,Bool.and_self]
 |_=>simp only[AR.d,ht,hc,hn,hi,ha,w1,w2,w3,w4,w5,w7,Bool.and_self]
def kB{d:AR}:d.d.py.depth<=3:=by
 cases d with
 |thr l n ws=>
  refine LB (n:=2) λe he=>?_
  simp only[uY,uu,ve]at he
  rcases he with rfl|rfl|rfl|rfl
  .exact Qm
  .exact Gg
  .exact Gg
  .refine LB (n:=1) λe he=>?_
   obtain⟨w,_,rfl⟩:=vS.mp he
   exact Gg
 |Fe p q s=>
  refine LB (n:=2) λe he=>?_
  simp only[uY,uu,ve]at he
  rcases he with rfl|rfl|rfl|rfl
  .exact Qm
  .exact Gg
  .exact Gg
  .exact qT
 |_=>
  refine LB (n:=2) λe he=>?_
  simp only[uY,uu,ve]at he
  first
   |(rcases he with rfl|rfl|rfl|rfl|rfl|rfl<;>first|exact Qm|exact Gg)
   |(rcases he with rfl|rfl|rfl|rfl|rfl<;>first|exact Qm|exact Gg)
   |(rcases he with rfl|rfl|rfl|rfl<;>first|exact Qm|exact Gg)
   |(rcases he with rfl|rfl|rfl<;>first|exact Qm|exact Gg)
section
variable{S:Sto}{t:Tr}{ls L:Wp Ld}{ds:Wp AR}
def j6:t.d.lay=true:=by
 show(true && (true && (true && ((shD t.ho).lay && (true && (true && true))))))=true
 rw[Q9];rfl
def tT:t.d.py.depth<=4:=LB (n:=3) λe he=>by
 simp only[uY,uu,ve]at he
 rcases he with rfl|rfl|rfl|rfl|rfl|rfl
 .exact Gg
 .exact Gg
 .exact Gg
 .exact oP
 .exact Gg
 .exact Gg
def RU:(AK t ls ds).lay=true:=by
 show(t.d.lay && ((D.tup (ls.map Ld.d)).lay && ((D.tup (ds.map AR.d)).lay && true)))=true
 rw[j6,show(D.tup (ls.map Ld.d)).lay=true from Fw λ_ _=>gB,show(D.tup (ds.map AR.d)).lay=true from Fw λ_ _=>Xm]
 rfl
def Uh:OP (AK t ls ds) (AK t ls ds)=true:=Ml RU (uZ (LB (n:=5) λe he=>by
 simp only[uY,uu,ve]at he
 rcases he with rfl|rfl|rfl
 .exact uZ tT (by decide)
 .refine LB (n:=4) λe he=>?_
  obtain⟨w,_,rfl⟩:=vS.mp he
  exact rL
 .refine LB (n:=4) λe he=>?_
  obtain⟨w,_,rfl⟩:=vS.mp he
  exact uZ kB (by decide)) (by decide))
def YO:deq (AK t ls ds) (AK t ls ds)=true:=OF RU
end
def hdS:Tg->Ex:=gOr ["NoDeed","NotDone","TooMany","NoNext","NothingDone"] "NoDeed" (AZ (A9 [eC (.str "!deed"),eC .non])) (gAs ["NoDeed","NotDone","TooMany","NoNext","NothingDone"] "NotDone" (λn=>.tup [.str "!done",.int n]) (gOr ["NoDeed","NotDone","TooMany","NoNext","NothingDone"] "TooMany" (AZ (A9 [eC (.str "!many"),eC .non])) (gOr ["NoDeed","NotDone","TooMany","NoNext","NothingDone"] "NoNext" (AZ (A9 [eC (.str "!next"),eC .non])) (gOr ["NoDeed","NotDone","TooMany","NoNext","NothingDone"] "NothingDone" (AZ (A9 [eC (.str "!nothing"),eC .non])) gNo))))
def aP:=U2 "told" "_law_deed_right" [0,2] (HN "Leader" "do" As (eV 0) [eV 1]) (SM "Leader" "do" A3 (eV 0) [eV 1]) 1 hdS
def kR:=lB (iY [((eC (.str "ok")),(A9 [eC (.str "told"),eV 4])),((eC (.str "!done")),(A9 [eC (.str "!done"),eOp (o1 Eu) [eIx (eV 1) (eI 2)]]))]) (eV 3) (A9 [eV 3,eC .non])
def ZN(LL GG:Ev):Ex:=(AN (Ay 3 (AF Ck [eV 1,eV 2]))
    (AN (Ay 4 (eC .non))
    (AN (xIf (eOp (o2 (wIn false)) [eIx (eV 2) (eI 0),A9 [eC (.str "bring"),eC (.str "pool"),eC (.str "swap"),eC (.str "trade")]]) (Ay 4 (AF Cc [eV 1])) BO)
    (AN (Ay 5 GG)
    (AN (xIf (eOp (o2 wNe) [LL,eV 5]) (AZ (eC .non)) BO)
    (AN (xIf (eOp (o2 wEq) [eV 3,eC (.str "ok")]) (AZ (eOp (o2 CN) [eOp (Ih false true) [eV 1,eI 2],A9 [eOp (o2 CN) [eIx (eV 1) (eI 2),A9 [eV 2]]]])) BO)
    (AZ (eV 1))))))))
theorem YI:G9=ZN aP kR:=rfl
section
variable{S:Sto}{t:Tr}{d:AR}{ls:Wp Ld}{ds:Wp AR}{L q m:Nat}
def tab_of{n:Nat}(h:S[n]?=Gc (Cl.tab x)):S.any (U0 x)=true:=List.any_eq_true.mpr ⟨_,uv h,by unfold U0;simp⟩
def Ss(h:ds.length<=50):Cc [AK t ls ds] S=Gc (.int (cnt ls ds),S):=by
 have c:=kN (S:=S) (X:=.tup [.str "bring",.str "pool",.str "swap",.str "trade"]) (os:=[none]) (λ{d}=>UE) rfl (xs:=ds) (by lia) (f:=A9 [eC (.str "bring"),eC (.str "pool"),eC (.str "swap"),eC (.str "trade")]) (λE=>by
  have s4:1+1+1+1<=sizeLine:=AJ (by decide)
  simp[s4])
 generalize hz:(eOp (o2 (wIn false)) [eIx (eV 0) (eI 0),A9 [eC (.str "bring"),eC (.str "pool"),eC (.str "swap"),eC (.str "trade")]])=Z at c
 have eb:K9=(AZ (eOp (o2 CN) [eOp (o1 Eu) [eIx (eV 0) (eI 1)],eOp (o1 Eu) [Bk [] 1 (F7 (eIx (eV 0) (eI 2))) (tNm 0) Z (eV 0)]])):=by rw[<-hz];rfl
 simp[Cc,eb,AK,c,cnt]
def hd0:hdS ⟨"NoDeed",none⟩=AZ (A9 [eC (.str "!deed"),eC .non]):=by
 simp[hdS,gOr]
def hd1:hdS ⟨"NotDone",Gc n⟩=AZ (eC (.tup [.str "!done",.int n])):=by
 have n1:(u7 "NotDone")≠u7 "NoDeed":=by decide
 simp[hdS,gOr,gAs,n1]
def hd2:hdS ⟨"TooMany",none⟩=AZ (A9 [eC (.str "!many"),eC .non]):=by
 have n1:(u7 "TooMany")≠u7 "NoDeed":=by decide
 have n2:(u7 "TooMany")≠u7 "NotDone":=by decide
 simp[hdS,gOr,gAs,n1,n2]
noncomputable def UQ(ls:Wp Ld)(ds:Wp AR)(d:AR):D:=if makes d=true then .int (cnt ls ds)else .non
noncomputable def HK(ls:Wp Ld)(ds:Wp AR)(d:AR):Nat->D
 |0=>.tup [.str "!deed",.non]
 |1=>.tup [.str "!done",.int (ds.length:Int)]
 |2=>.tup [.str "!many",.non]
 |_=>.tup [.str "told",UQ ls ds d]
def gX:kR [a0,Gc (AK t ls ds),Gc d.d,Gc (.str (LH n)),Gc (UQ ls ds d),none] S=Gc (HK ls ds d n,S):=by
 have s2:1+1<=sizeLine:=AJ (by decide)
 generalize hN:UQ ls ds d=N at*
 have v0:Rr (Ia [] [(.inr "ok",.tup [.str "told",N]),(.inr "!done",.tup [.str "!done",.int (ds.length:Int)])]) (.inr "!deed")=none:=rfl
 have v1:Rr (Ia [] [(.inr "ok",.tup [.str "told",N]),(.inr "!done",.tup [.str "!done",.int (ds.length:Int)])]) (.inr "!done")=Gc (.tup [.str "!done",.int (ds.length:Int)]):=rfl
 have v2:Rr (Ia [] [(.inr "ok",.tup [.str "told",N]),(.inr "!done",.tup [.str "!done",.int (ds.length:Int)])]) (.inr "!many")=none:=rfl
 have v3:Rr (Ia [] [(.inr "ok",.tup [.str "told",N]),(.inr "!done",.tup [.str "!done",.int (ds.length:Int)])]) (.inr "ok")=Gc (.tup [.str "told",N]):=rfl
 have dd:∀{T:Sto} {es:Wp (Key×D)},cI T (.dct es)=Gc es:=rfl
 have key:∀w:Str,kR [a0,Gc (AK t ls ds),Gc d.d,Gc (.str w),Gc N,none] S=Gc ((Rr (Ia [] [(.inr "ok",.tup [.str "told",N]),(.inr "!done",.tup [.str "!done",.int (ds.length:Int)])]) (.inr w)).getD (.tup [.str w,.non]),S):=by
  intro w
  simp[kR,AK,s2,dd]
 rw[key]
 match n with
 |0=>rw[show LH 0="!deed" from rfl,v0];rfl
 |1=>rw[show LH 1="!done" from rfl,v1];rfl
 |2=>rw[show LH 2="!many" from rfl,v2];rfl
 |n+3=>
  rw[show LH (n+3)="ok" from rfl,v3,<-hN]
  rfl
def Us:OP (HK ls ds d n) (HK ls ds d n)=true/\deq (HK ls ds d n) (HK ls ds d n)=true:=by
 have h1:(HK ls ds d n).lay=true/\(HK ls ds d n).py.depth<=60:=by
  have two:∀(x:xq) (y:D),y.lay=true->y.py.depth<=5->(D.tup [.str (u7 x),y]).lay=true/\(D.tup [.str (u7 x),y]).py.depth<=60:=λx y hy hd=>⟨by
   show((D.str (u7 x)).lay && (y.lay && true))=true
   rw[show(D.str (u7 x)).lay=true from N0,hy];rfl,uZ (LB (n:=6) λe he=>by
   simp only[uY,uu,ve]at he
   rcases he with rfl|rfl
   .exact Qm
   .exact uZ hd (by decide)) (by decide)⟩
  have dn:(D.non).py.depth<=5:=by simp only[D.py,AAD];decide
  match n with
  |0=>exact two _ _ rfl dn
  |1=>exact two _ _ rfl (uZ (Gg (n:=1)) (by decide))
  |2=>exact two _ _ rfl dn
  |n+3=>
   refine two _ _ ?_ ?_
   .unfold UQ;split<;>rfl
   .unfold UQ;split
    .exact uZ (Gg (n:=1)) (by decide)
    .exact dn
 exact⟨Ml h1.1 h1.2,OF h1.1⟩
def kL (hL:LAt S L q (AK t ls ds) m)(h:CJ t ls ds)(hm:m<1000)(h3:OH ds ≤ 3)(hr:Raw t d)(hT:S.any (U0 "_law_deed_right")=true){o1 o3 o4 o5:uR D}:∃ds' S',aP [Gc (.ref L),o1,Gc d.d,o3,o4,o5] S=Gc (HK ls ds d (GC t ls ds d),S')/\LAt S' L q (AK t ls ds') (m + 1)/\Bq [L,q] S S'/\CJ t ls ds'/\OH ds' ≤ 3/\ds'=if GC t ls ds d=3 then ds++[d] else ds:=by
  obtain⟨k0,k1,k2,k3⟩:=gj hL hm h h3 hr
  have up:LAt S L q (AK t ls ds) (m + 1):=⟨hL.ob,let ⟨es,e,l⟩:=hL.er;⟨es,e,xB l⟩⟩
  have s2:1 + 1 ≤ sizeLine:=AJ (by decide)
  have hi:=hL.ins
  have lt:(lds (AK t ls ds) q).lookup (u7 "do")=none:=rfl
  have cp:TV [0,2] [Gc (D.ref L),o1,Gc d.d,o3,o4,o5]=[Gc (.ref L),Gc d.d]:=rfl
  have fF:(HN "Leader" "do" As (eV 0) [(eV 1)]) [Gc (.ref L),Gc d.d] S=As [.ref L,d.d] S:=by
    generalize AK t ls ds = bk at *
    simp [hi, lt]
  have fR:(SM "Leader" "do" A3 (eV 0) [(eV 1)]) [Gc (.ref L),Gc d.d] S=(A3 [.ref L,d.d] S).map λz=>(z.1,[Gc (.ref L),Gc d.d],z.2):=by
    rw [VA]
    generalize AK t ls ds = bk at *
    simp [hi, lt]
  have run:∀{z:uR (D×Sto)},(match As [.ref L,d.d] S with
      | some q => Gc (D.tup [.str "told", q.1], q.2)
      | none=>((A3 [.ref L,d.d] S).map λz=>(z.1,[Gc (D.ref L),Gc d.d],z.2)).bind λq=>(hdS q.1 (none::uo 1 none) q.2.2).bind λz=>match z.1 with | .ret d=>Gc (d,z.2.2) | .nx=>none)=z->aP [Gc (.ref L),o1,Gc d.d,o3,o4,o5] S=z:=λ{z} e=>by
    unfold aP U2
    rw [vC hT, cp, fF, fR]
    exact e
  have hdu:GC t ls ds d=0 ∨ GC t ls ds d=1 ∨ GC t ls ds d=2 ∨ GC t ls ds d=3:=by
    unfold GC
    split
    · exact .inl rfl
    · split
      · exact .inr (.inl rfl)
      · split
        · exact .inr (.inr (.inl rfl))
        · exact .inr (.inr (.inr rfl))
  rcases hdu with c | c | c | c
  · obtain⟨f1,f2⟩:=k0 c
    refine ⟨ds, S, run ?_, up, .refl, h, h3, by rw [c]; rfl⟩
    rw [f1, f2, c]
    simp [hd0, s2, HK]
  · obtain⟨f1,f2⟩:=k1 c
    refine ⟨ds, S, run ?_, up, .refl, h, h3, by rw [c]; rfl⟩
    rw [f1, f2, c]
    simp [hd1, HK]
  · obtain⟨f1,f2⟩:=k2 c
    refine ⟨ds, S, run ?_, up, .refl, h, h3, by rw [c]; rfl⟩
    rw [f1, f2, c]
    simp [hd2, s2, HK]
  · obtain⟨S',f1,l1,s1,b1,t1⟩:=k3 c
    refine ⟨ds ++ [d], S', run ?_, l1, s1, b1, t1, by rw [c]; rfl⟩
    rw [f1, c]
    rfl
end
section
variable{t:Tr}{d:AR}{ds:Wp AR}{L q m nT:Nat}
def PZ:GC t ls ds d=0\/GC t ls ds d=1\/GC t ls ds d=2\/GC t ls ds d=3:=by
 unfold GC
 split
 .exact .inl rfl
 .split
  .exact .inr (.inl rfl)
  .split
   .exact .inr (.inr (.inl rfl))
   .exact .inr (.inr (.inr rfl))
def X2(hL:LAt S L q (AK t ls ds) m)(h:CJ t ls ds)(hm:m<1000)(h3:OH ds<=3)(hr:Raw t d)(hT:S[nT]?=Gc (Cl.tab "_law_deed_right")):∃ds' S',CK [.ref L,AK t ls ds,d.d] S=Gc (AK t ls ds',S')/\LAt S' L q (AK t ls ds') (m+1)/\Bq [L,q] S S'/\CJ t ls ds'/\OH ds'<=3:=by
 obtain⟨S1,e1,s1⟩:=gD (S:=S) h hr
 have hL1:=hL.same s1
 have hT1:=tab_of (s1.get hT (by simp))
 have hlen:=h.len
 have nu:=Ss (S:=S1) (t:=t) (ls:=ls) (ds:=ds) (by lia)
 obtain⟨rr,ed⟩:=Vp d
 have inf:=UE (d:=d)
 have gg:=gX (S:=S1) (t:=t) (ls:=ls) (ds:=ds) (d:=d) (n:=GC t ls ds d) (a0:=Gc (.ref L))
 obtain⟨ds',S2,ll,hL2,s2,b2,t2,ed2⟩:=kL hL1 h hm h3 hr hT1 (o1:=Gc (AK t ls ds)) (o3:=Gc (.str (LH (GC t ls ds d)))) (o4:=Gc (UQ ls ds d)) (o5:=Gc (HK ls ds d (GC t ls ds d)))
 obtain⟨k1,k2⟩:=Us (ls:=ls) (ds:=ds) (d:=d) (n:=GC t ls ds d)
 refine⟨ds',S2,?_,hL2,(s1.mono (by simp)).trans s2,b2,t2⟩
 have dT:∀T:Sto,fz (dr T (HK ls ds d (GC t ls ds d)))=HK ls ds d (GC t ls ds d):=λT=>by
  rcases PZ (t:=t) (ls:=ls) (ds:=ds) (d:=d)with c|c|c|c<;>(rw[c];rfl)
 have hfin:∀o4 o5,((xIf (eOp (o2 wEq) [eV 3,eC (.str "ok")]) (AZ (eOp (o2 CN) [eOp (Ih false true) [eV 1,eI 2],A9 [eOp (o2 CN) [eIx (eV 1) (eI 2),A9 [eV 2]]]])) BO) [Gc (D.ref L),Gc (AK t ls ds),Gc d.d,Gc (.str (LH (GC t ls ds d))),o4,o5] S2).bind (bB (AZ (eV 1)))=Gc (.ret (AK t ls ds'),[Gc (D.ref L),Gc (AK t ls ds),Gc d.d,Gc (.str (LH (GC t ls ds d))),o4,o5],S2):=by
  intro o4 o5
  rw[ed2]
  rcases PZ (t:=t) (ls:=ls) (ds:=ds) (d:=d)with c|c|c|c
  .rw[c]
   simp[LH]
  .rw[c]
   simp[LH]
  .rw[c]
   simp[LH]
  .rw[c]
   have sz:ds.length+1<=sizeLine:=AJ (by lia)
   have s3:1+1+1<=sizeLine:=AJ (by decide)
   have c1:IU [t.d,.tup (ls.map Ld.d),.tup (ds.map AR.d)] none (Gc 2)=[t.d,.tup (ls.map Ld.d)]:=rfl
   simp[LH,AK,sz,s3,c1]
 have hpre:∀N,N=UQ ls ds d->(xIf (eOp (o2 (wIn false)) [eIx (eV 2) (eI 0),A9 [eC (.str "bring"),eC (.str "pool"),eC (.str "swap"),eC (.str "trade")]]) (Ay 4 (AF Cc [eV 1])) BO) [Gc (D.ref L),Gc (AK t ls ds),Gc d.d,Gc (.str (LH (GC t ls ds d))),Gc .non,none] S1=Gc (.nx,[Gc (D.ref L),Gc (AK t ls ds),Gc d.d,Gc (.str (LH (GC t ls ds d))),Gc N,none],S1):=by
  intro N hN
  have s4:1+1+1+1<=sizeLine:=AJ (by decide)
  rw[ed]
  generalize AK t ls ds=bk at*
  generalize LH (GC t ls ds d)=dw at*
  unfold UQ at hN
  cases hmk:makes d with
  |true=>
   rw[hmk]at inf hN
   subst hN
   simp[inf,s4,nu]
  |false=>
   rw[hmk]at inf hN
   subst hN
   simp[inf,s4]
 have hpre:=hpre _ rfl
 have hne:(eOp (o2 wNe) [aP,eV 5]) [Gc (D.ref L),Gc (AK t ls ds),Gc d.d,Gc (.str (LH (GC t ls ds d))),Gc (UQ ls ds d),Gc (HK ls ds d (GC t ls ds d))] S1=Gc (.bl false,S2):=by
  generalize aP=LL at*
  have d1:=dT S2
  generalize HK ls ds d (GC t ls ds d)=T at*
  generalize AK t ls ds=bk at*
  generalize LH (GC t ls ds d)=dw at*
  simp[ll,d1,k1,k2]
 unfold CK
 rw[YI]
 unfold ZN
 generalize hz1:(xIf (eOp (o2 (wIn false)) [eIx (eV 2) (eI 0),A9 [eC (.str "bring"),eC (.str "pool"),eC (.str "swap"),eC (.str "trade")]]) (Ay 4 (AF Cc [eV 1])) BO)=Z1 at hpre
 generalize hz2:(xIf (eOp (o2 wEq) [eV 3,eC (.str "ok")]) (AZ (eOp (o2 CN) [eOp (Ih false true) [eV 1,eI 2],A9 [eOp (o2 CN) [eIx (eV 1) (eI 2),A9 [eV 2]]]])) BO)=Z2 at hfin
 generalize hz3:(eOp (o2 wNe) [aP,eV 5])=Z3 at hne
 generalize kR=GG at*
 generalize HK ls ds d (GC t ls ds d)=T at*
 generalize AK t ls ds=bk at*
 generalize LH (GC t ls ds d)=dw at*
 have hf:=hfin (Gc (UQ ls ds d)) (Gc T)
 generalize UQ ls ds d=N at*
 simp[e1,hpre,gg,hne,hf]
end
section
variable{S:Sto}{t:Tr}{d:AR}{ls:Wp Ld}{ds:Wp AR}{p:Nat}
noncomputable def HC:AR->Wp D
 | .CU p k n=>[.int p,.int k,.int n]
 | .GJ a b=>[.int a,.int b]
 | .swap l g k n=>[.int l,.int g,.int k,.int n]
 | .Bv u l g k n=>[.int u,.int l,.int g,.int k,.int n]
 | .Ci l n=>[.int l,.int n]
 | .thr l n ws=>[.int l,.int n,.tup (ws.map .int)]
 | .Fe p q x=>[.int p,.int q,aD x]
def hJ(d:AR):d.d=.tup (.str (wordOf d)::HC d):=by cases d<;>rfl
def pG d:IU (.str (wordOf d)::HC d) none (Gc 1)=[.str (wordOf d)]:=by cases d<;>exact rfl
def nP d:IU (.str (wordOf d)::HC d) (Gc 1) none=HC d:=by cases d<;>exact rfl
def Rq d:(HC d).length<=5:=by cases d<;>simp[HC]
def eB:Wp D->Wp D->Prop
 | [],ys=>ys=[]
 |x::xs,ys=>∃y ys',ys=y::ys'/\((∃i,x=.int i)/\(∃r:Nat,y=.int r/\r<=6)\/(∃es,x=.tup es)/\y=x)/\eB xs ys'
def IT(x:D):Prop:=(∃i,x=.int i)\/∃es,x=.tup es
def dF d:∀x∈HC d,IT x:=by
 cases d<;>(intro x hx;simp only[HC,uY,uu,ve]at hx)
 .rcases hx with rfl|rfl|rfl<;>exact .inl ⟨_,rfl⟩
 .rcases hx with rfl|rfl<;>exact .inl ⟨_,rfl⟩
 .rcases hx with rfl|rfl|rfl|rfl<;>exact .inl ⟨_,rfl⟩
 .rcases hx with rfl|rfl|rfl|rfl|rfl<;>exact .inl ⟨_,rfl⟩
 .rcases hx with rfl|rfl<;>exact .inl ⟨_,rfl⟩
 .rcases hx with rfl|rfl|rfl
  .exact .inl ⟨_,rfl⟩
  .exact .inl ⟨_,rfl⟩
  .exact .inr ⟨_,rfl⟩
 .rcases hx with rfl|rfl|rfl
  .exact .inl ⟨_,rfl⟩
  .exact .inl ⟨_,rfl⟩
  .exact .inr ⟨_,rfl⟩
def cg:=eIf (eOp (o2 QK) [eV 1,eC (.ty "int")]) (AF AG [eV 0,eI 7]) (eV 1)
theorem UB:∀{xs acc} {o} {S},(∀x∈xs,IT x)->Dw p S->acc.length+xs.length<=20->∃ys S',BZ [] (tNm 1) BI cg xs acc [Gc (.ref p),o] S=Gc (acc++ys,S')/\eB xs ys/\ys.length=xs.length/\Pn p S S'
 | [],acc,o,S,h,hp,hl=>⟨[],S,by rw[DA AW];simp,rfl,rfl,.refl hp⟩
 |x::xs,acc,o,S,h,hp,hl=>by
  have k1:St.Kd.int.isA "int"=true:=by decide
  have k2:St.Kd.tup.isA "int"=false:=by decide
  have sz:acc.length<sizeLine:=uU (show acc.length<20 by simp at hl;lia) (AJ (by decide))
  rcases h x uk with⟨i,rfl⟩|⟨es,rfl⟩
  .obtain⟨r,S1,e1,a1,b1,p1⟩:=Am hp (n:=7) (by decide) (by decide)
   obtain⟨r,rfl⟩:=Hf a1
   obtain⟨ys,S2,e2,a2,l2,p2⟩:=UB (xs:=xs) (acc:=acc++[.int r]) (o:=Gc (.int i)) (λx hx=>h x (uW _ hx)) p1.pen (by simp at hl ⊢; lia)
   refine⟨.int r::ys,S2,?_,⟨_,ys,rfl,.inl ⟨⟨i,rfl⟩,r,rfl,by lia⟩,a2⟩,by simp[l2],p1.trans p2⟩
   rw[FN AW sz (show tNm 1 (.int i) [Gc (.ref p),o] S=Gc [Gc (.ref p),Gc (.int i)] by simp) D0]
   have:cg [Gc (.ref p),Gc (.int i)] S=Gc (.int r,S1):=by simp[cg,kdW,k1,e1]
   rw[this,A1,e2]
   simp
  .obtain⟨ys,S2,e2,a2,l2,p2⟩:=UB (xs:=xs) (acc:=acc++[.tup es]) (o:=Gc (.tup es)) (λx hx=>h x (uW _ hx)) hp (by simp at hl ⊢; lia)
   refine⟨.tup es::ys,S2,?_,⟨_,ys,rfl,.inr ⟨⟨es,rfl⟩,rfl⟩,a2⟩,by simp[l2],p2⟩
   rw[FN AW sz (show tNm 1 (.tup es) [Gc (.ref p),o] S=Gc [Gc (.ref p),Gc (.tup es)] by simp) D0]
   have:cg [Gc (.ref p),Gc (.tup es)] S=Gc (.tup es,S):=by simp[cg,kdW,k2]
   rw[this,A1,e2]
   simp
def Bu(h:eB (.int i::xs) ys):∃r ys',ys=.int (r:Nat)::ys'/\r<=6/\eB xs ys':=by
 obtain⟨y,ys',rfl,h|h,g⟩:=h
 .obtain⟨_,r,rfl,hr⟩:=h
  exact⟨r,ys',rfl,hr,g⟩
 .obtain⟨⟨es,e⟩,_⟩:=h
  cases e
def Um(h:eB (.tup es::xs) ys):∃ys',ys=.tup es::ys'/\eB xs ys':=by
 obtain⟨y,ys',rfl,h|h,g⟩:=h
 .obtain⟨⟨i,e⟩,_⟩:=h
  cases e
 .exact⟨ys',by rw[h.2],g⟩
def six{r:Nat}(h:r<=6):(r:Int)<2^131:=AAb (show(r:Int)<=6 by lia) (by decide)
def aH(hr:Raw t d)(h:eB (HC d) ys):∃d',.tup (.str (wordOf d)::ys)=d'.d/\Raw t d':=by
 cases d with
 |CU p k n=>
  obtain⟨a,y1,rfl,_,h⟩:=Bu h
  obtain⟨b,y2,rfl,_,h⟩:=Bu h
  obtain⟨c,y3,rfl,hc,h⟩:=Bu h
  obtain rfl:y3=[]:=h
  exact⟨.CU a b c,rfl,six hc⟩
 |GJ p k=>
  obtain⟨a,y1,rfl,_,h⟩:=Bu h
  obtain⟨b,y2,rfl,_,h⟩:=Bu h
  obtain rfl:y2=[]:=h
  exact⟨.GJ a b,rfl,trivial⟩
 |swap l g k n=>
  obtain⟨a,y1,rfl,_,h⟩:=Bu h
  obtain⟨b,y2,rfl,_,h⟩:=Bu h
  obtain⟨c,y3,rfl,_,h⟩:=Bu h
  obtain⟨e,y4,rfl,he,h⟩:=Bu h
  obtain rfl:y4=[]:=h
  exact⟨.swap a b c e,rfl,six he⟩
 |Bv u l g k n=>
  obtain⟨a,y1,rfl,ha,h⟩:=Bu h
  obtain⟨b,y2,rfl,_,h⟩:=Bu h
  obtain⟨c,y3,rfl,_,h⟩:=Bu h
  obtain⟨e,y4,rfl,_,h⟩:=Bu h
  obtain⟨f,y5,rfl,hf,h⟩:=Bu h
  obtain rfl:y5=[]:=h
  exact⟨.Bv a b c e f,rfl,six hf,by lia,by lia⟩
 |Ci l n=>
  obtain⟨a,y1,rfl,_,h⟩:=Bu h
  obtain⟨b,y2,rfl,_,h⟩:=Bu h
  obtain rfl:y2=[]:=h
  exact⟨.Ci a b,rfl,trivial⟩
 |thr l n ws=>
  obtain⟨a,y1,rfl,_,h⟩:=Bu h
  obtain⟨b,y2,rfl,_,h⟩:=Bu h
  obtain⟨y3,rfl,h9⟩:=Um h
  obtain rfl:y3=[]:=h9
  exact⟨.thr a b ws,rfl,hr⟩
 |Fe p q x=>
  obtain⟨a,y1,rfl,_,h⟩:=Bu h
  obtain⟨b,y2,rfl,_,h⟩:=Bu h
  obtain⟨y3,rfl,h9⟩:=Um h
  obtain rfl:y3=[]:=h9
  exact⟨.Fe a b x,rfl,hr⟩
def Xn(h:Dw p S)(s:Bq [] S S'):Dw p S':=by
 obtain⟨ds,e,q⟩:=h
 exact⟨ds,s.get e (by simp),q⟩
def Vh(Z:Ev):Ex:=(AN (Ay 6 (AF DY [eV 0,eV 2,eV 5])) (AN (xIf (eOp (o2 wEq) [AF AG [eV 0,eI 4],eI 0]) (Ay 6 (eOp (o2 CN) [eOp (Ih false true) [eV 6,eI 1],eOp (o1 B7) [Z]])) BO) (AZ (eV 6))))
def bw:=Bk [0] 1 (F7 (eOp (Ih true false) [eV 6,eI 1])) (tNm 1) BI cg
theorem cy:HW=(AN (II (tTp [tNm 2,tNm 3,tNm 4]) (eV 1)) (AN (Ay 5 (AF CC [eV 1])) (AN (NH (F7 (eV 4)) (tNm 6) (Bo (AF Bl [eV 2,eV 5,eV 6]))) (Vh bw)))):=rfl
def c9(h:CJ t ls ds)(hp:Dw p S):∃d S',B0 [.ref p,AK t ls ds] S=Gc (d.d,S')/\Raw t d/\Pn p S S':=by
 have hl0:ls.length<=4:=h.inv.len
 have hlen:=h.len
 obtain⟨s,l,m,as,S1,e1,hS,sm,hn⟩:=OO (S:=S) (t:=t) (ls:=ls) (x:=.tup (ds.map AR.d)) (by lia)
 have hS:SAt S1 s l m as (st0 t ls):=hS
 obtain⟨S2,as2,o,f1,f2,f3,f4⟩:=Z8 h.tr (E:=[Gc (.ref p),Gc (AK t ls ds),Gc t.d,Gc (.tup (ls.map Ld.d)),Gc (.tup (ds.map AR.d)),Gc (.ref s),none]) hS h.inv h.good (by lia) rfl rfl (by simp)
 have sm2:Bq [] S S2:=Bq.new (A:=[]) sm f3 hn
 have hp2:=Xn hp sm2
 have lp:=hp.lt
 have hps:p∉s::l::m::as2:=λz=>by
  simp only[uY]at z hn
  rcases z with z|z|z|z
  .have:=hn p (.inl z);lia
  .have:=hn p (.inr (.inl z));lia
  .have:=hn p (.inr (.inr (.inl z)));lia
  .rcases f4 _ z with w|w
   .have:=hn p (.inr (.inr (.inr w)));lia
   .have:=sm.len;lia
 have inv:=h.at ds.length
 rw[yh]at inv
 obtain⟨d,S3,e3,p3,can⟩:=bh hp2 f2 hps h.tr inv (by lia)
 have raw:=(jr (ZH can)).1
 obtain⟨r,S4,e4,a4,b4,p4⟩:=Am p3.pen (n:=4) (by decide) (by decide)
 have pn2:Pn p S S2:=⟨sm2.mono (by simp),hp2⟩
 have pre:B0 [.ref p,AK t ls ds] S=(Vh bw [Gc (.ref p),Gc (AK t ls ds),Gc t.d,Gc (.tup (ls.map Ld.d)),Gc (.tup (ds.map AR.d)),Gc (.ref s),o] S2).map λr=>(flD r.1,r.2.2):=by
  have se:=cy
  generalize Vh bw=Z at*
  simp only[AK]at e1 f1⊢
  simp at f1
  simp[B0,se,e1,f1]
 rw[pre]
 have a:=hJ d
 by_cases c:r=0
 .subst c
  obtain⟨ys,S5,e5,a5,l5,p5⟩:=UB (xs:=HC d) (acc:=[]) (o:=none) (dF d) p4.pen (by have:=Rq d;simp;lia)
  obtain⟨d',ed,rd⟩:=aH raw a5
  refine⟨d',S5,?_,rd,((pn2.trans p3).trans p4).trans p5⟩
  have ac:∀o1 o2 o3 o4 o5,bw [Gc (.ref p),o1,o2,o3,o4,o5,Gc d.d] S4=Gc (.lst ys,S5):=by
   intro o1 o2 o3 o4 o5
   have:=nP d
   rw[a]
   rw[vK]at e5
   unfold bw
   generalize cg=AE at*
   generalize HC d=aa at*
   simp[this,NA,e5]
  have cw:=pG d
  have sz:1+ys.length<=sizeLine:=AJ (by have:=Rq d;lia)
  rw[<-ed]
  generalize bw=Z at*
  generalize AK t ls ds=bk at*
  generalize t.d=T at*
  rw[a]at e3 ac
  generalize HC d=aa at*
  simp[Vh,e3,e4,cw,ac,sz]
 .refine⟨d,S4,?_,raw,(pn2.trans p3).trans p4⟩
  have c':(r==0)=false:=by simpa using c
  generalize bw=Z at*
  generalize AK t ls ds=bk at*
  generalize t.d=T at*
  simp[Vh,e3,e4,c']
end
noncomputable def ownAt(x:Ld)(p:Nat):Rat:=x.ow.getD p 0
noncomputable def kindS(ls:Wp Ld)(p kd:Nat):Rat:=((ls.filter λx=>x.k==kd).map λx=>(x.n:Rat)*ownAt x p).sum
noncomputable def BE(k:Nat)(ls:Wp Ld)(p:Nat):Wp Rat:=(u6 k).map (kindS ls p)
def So:kindS (ls++[x]) p kd=if x.k=kd then kindS ls p kd+(x.n:Rat)*ownAt x p else kindS ls p kd:=by
 unfold kindS
 rw[List.filter_append,wV,List.sum_append]
 by_cases h:x.k=kd
 .simp[h];grind
 .simp[h];grind
def SV:kindS (x::ls) p kd=(if x.k=kd then(x.n:Rat)*ownAt x p else 0)+kindS ls p kd:=by
 unfold kindS
 rw[List.filter_cons]
 by_cases h:x.k=kd
 .simp[h]
 .simp[h];grind
def Qb:BE k (ls++[x]) p=(BE k ls p).set x.k (kindS ls p x.k+(x.n:Rat)*ownAt x p):=by
 unfold BE
 apply AA1
 .simp
 .intro i h1 h2
  rw[List.getElem_set]
  simp only[List.getElem_map,AAY,So]
  by_cases h:x.k=i
  .subst h;simp
  .simp[h]
structure Bd(ls:Wp Ld)(G B N K:Nat):Prop where
 g0:0<G
 gK:G<2^K
 hK:2*K<=7500
 own:∀l∈ls,∀r∈l.ow,Ok G B r
 pcs:∀l∈ls,0<=l.n/\l.n<=N
 hB:B<2^K
 hN:N<2^K
 hb:200*(B*N)<2^K
 len:ls.length<=30
def Bd.at(h:Bd ls G B N K)(hx:x∈ls) p:Ok G B (ownAt x p):=by
 unfold ownAt
 rw[uz]
 cases e:x.ow[p]? with
 |none=>exact Ok.zero
 |some r=>exact h.own x hx r (uv e)
def Bd.mul(h:Bd ls G B N K)(hx:x∈ls) p:Ok G (B*N) ((x.n:Rat)*ownAt x p):=(h.at hx p).qK (h.pcs x hx).1 (h.pcs x hx).2
theorem R6:∀{ls},(∀l∈ls,Ok G C ((l.n:Rat)*ownAt l p))->Ok G (ls.length*C) (kindS ls p kd)
 | [],_=>Ok.zero
 |x::ls,h=>by
  rw[SV]
  have ih:=R6 (kd:=kd) (ls:=ls) λl hl=>h l (uW _ hl)
  have h1:Ok G C (if x.k=kd then(x.n:Rat)*ownAt x p else 0):=by
   split
   .exact h x uk
   .exact Ok.zero
  have:=h1.add ih
  rw[vG,Nat.succ_mul,AA9]
  exact this
def Bd.kind(h:Bd ls G B N K):Ok G (30*(B*N)) (kindS ls p kd):=(R6 λl hl=>h.mul hl p).mono (vf _ h.len)
def Bd.take(h:Bd ls G B N K) i:Bd (ls.take i) G B N K:=⟨h.g0,h.gK,h.hK,λl hl=>h.own l (ABn hl),λl hl=>h.pcs l (ABn hl),h.hB,h.hN,h.hb,by have:=h.len;simp;lia⟩
def Bd.nSz(h:Bd ls G B N K)(hx:x∈ls):Sz K (x.n:Rat):=by
 have o:=Ok.int (G:=1) (h.pcs x hx).1 (h.pcs x hx).2
 refine o.sz (by decide) ?_ (by rw[Nat.one_mul];exact h.hN)
 have:=h.gK;have:=h.g0;lia
def QY{n:Nat}:NK 0 (n:Int).toNat=(u6 n).map λ(i:Nat)=>D.int i:=by simp[NK]
def To:(BE k [] p).map aD=uo k (.tup [.int 0,.int 1]):=by
 apply AA1
 .simp[BE]
 .intro i h1 h2
  simp[BE,kindS,QR]
theorem J5{α:Type}{gs:Gd}{t:Tf}{f:Ev}{C:En}{m:Nat}{e g:α->D}{S0:Sto}(hg:∀S,Bq [] S0 S->gOk gs S):∀{xs:Wp α} {acc} {os} {S},os.length=m->Bq [] S0 S->acc.length+xs.length<=sizeLine->(∀x∈xs,∀os S,os.length=m->Bq [] S0 S->∃us S',us.length=m/\t (e x) (C++os) S=Gc (C++us)/\f (C++us) S=Gc (g x,S')/\Bq [] S0 S')->∃S',BZ gs t BI f (xs.map e) acc (C++os) S=Gc (acc++xs.map g,S')/\Bq [] S0 S'
 | [],acc,os,S,ho,hS,hz,h=>⟨S,by rw[wF,DA (hg S hS)];simp,hS⟩
 |x::xs,acc,os,S,ho,hS,hz,h=>by
  obtain⟨us,S1,hu,e1,e2,s1⟩:=h x uk os S ho hS
  obtain⟨S2,e3,s2⟩:=J5 hg (acc:=acc++[g x]) hu s1 (by simp at hz ⊢; lia) λx' hx=>h x' (uW _ hx)
  refine⟨S2,?_,s2⟩
  rw[uw,FN (hg S hS) (by simp at hz;lia) e1 D0,e2,A1,e3]
  simp
def FC.bd(h:FC t k s)(hk:k<=20):∃G B N K,Bd s.AA G B N K:=by
 obtain⟨G,B,g0,gb,b,h1,h2⟩:=h.gb
 have hB:B<2^3430:=uU b (vM (by decide) (by lia))
 have hB':B<2^3700:=uU hB (vM (by decide) (by decide))
 have hN:(2^151:Nat)<2^152:=Nat.pow_lt_pow_right (by decide) (by decide)
 refine⟨G,B,2^151,3700,g0,vJ gb hB',by decide,h1,λl hl=>?_,hB',uU hN (vM (by decide) (by decide)),?_,by have:=h.len;lia⟩
 .have:=h.pcs l hl
  refine⟨this.1,?_⟩
  have e:(2:Int)^(131+k)<=((2^151:Nat):Int):=by
   have:(2:Nat)^(131+k)<=2^151:=vM (by decide) (by lia)
   exact_mod_cast this
  lia
 .have:=DR (show 200<2^8 by decide) (DR hB hN)
  exact uU this (vM (by decide) (by decide))
section
variable{ls:Wp Ld}
def ZJ{x:Ld}(h:p<x.ow.length):atI (x.ow.map aD) (p:Int)=Gc (aD (ownAt x p)):=B3 (by
 rw[um,uS h]
 simp[ownAt,uz,uS h])
def pf(h:∀l∈ls,p<l.ow.length)(hl:ls.length<=30):BZ [] (tNm 1) BI (eOp (o2 wIx) [eV 1,eV 0]) (ls.map λx=>shD x.ow) [] [Gc (.int p),none] T=Gc (ls.map (λx=>aD (ownAt x p)),T):=
 EN (gs:=[]) (t:=tNm 1) (f:=eOp (o2 wIx) [eV 1,eV 0]) (C:=[Gc (.int p)]) (m:=1) (e:=λx:Ld=>shD x.ow) (g:=λx=>aD (ownAt x p)) (S:=T) AW (xs:=ls) (acc:=[]) (os:=[none]) rfl (uZ (show _<=50 by simp;lia) (AJ (by decide))) (by
  intro x hx os ho
  obtain⟨o1,rfl⟩:=NJ ho
  have a:=ZJ (h x hx)
  refine⟨[Gc (shD x.ow)],rfl,by simp,?_⟩
  simp[shD,a])
end
def bc{rs:Wp Rat}(hG:0<G)(gK:G<2^K)(hK:2*K<=7990)(hr:∀r∈rs,Ok G B r)(hb:rs.length*B<2^K):GH [.lst (rs.map aD)] S=Gc (aD rs.sum,S):=by
 obtain⟨o',e⟩:=N5 (F:=BX) (λS h1 h2 h3=>Pp h1 h2 h3) (gs:=[]) (S:=S) AW (X:=Gc (.lst (rs.map aD))) (B:=B) hG gK hK (rs:=rs) (acc:=0) (m:=0) (o:=none) (by rw[Nat.zero_mul];exact Ok.zero) hr (by simpa using hb)
 have ez:(0:Rat)+rs.sum=rs.sum:=by grind
 rw[ez,QR]at e
 simp[GH,QH,e]
section
variable{L:Wp Ld}{G B N K p kd:Nat}
noncomputable def Q0(L:Wp Ld)(p kd:Nat):Wp Rat:=(L.filter λx=>x.k==kd).map λx=>(x.n:Rat)*ownAt x p
def fe(hg:gOk gs S)(h:Bd L G B N K)(hp:∀l∈L,p<l.ow.length):BZ gs (tNm 2) (eOp (o2 wEq) [eOp (o2 wIx) [eV 2,eC (.int 0)],eV 1]) (AF Af [A9 [eOp (o2 wIx) [eV 2,eC (.int 1)],eC (.int 1)],eOp (o2 wIx) [eOp (o2 wIx) [eV 2,eC (.int 2)],eV 0]]) (L.map Ld.d) [] [Gc (.int p),Gc (.int kd),none] S=Gc ((Q0 L p kd).map aD,S):=by
 have e:=EY (gs:=gs) (t:=tNm 2) (c:=eOp (o2 wEq) [eOp (o2 wIx) [eV 2,eC (.int 0)],eV 1]) (f:=AF Af [A9 [eOp (o2 wIx) [eV 2,eC (.int 1)],eC (.int 1)],eOp (o2 wIx) [eOp (o2 wIx) [eV 2,eC (.int 2)],eV 0]]) (C:=[Gc (.int p),Gc (.int kd)]) (m:=1) (e:=Ld.d) (g:=λx=>aD ((x.n:Rat)*ownAt x p)) (b:=λx=>x.k==kd) (S:=S) hg (xs:=L) (acc:=[]) (os:=[none]) rfl (uZ (show _<=50 by have:=h.len;simp;lia) (AJ (by decide))) (by
  intro x hx os ho
  obtain⟨o1,rfl⟩:=NJ ho
  have:((x.k:Int)==(kd:Int))=(x.k==kd):=by
   rw[we,wI,wI]
   lia
  have tm:=Iu (S:=S) (h.nSz hx) ((h.at hx p).sz h.g0 h.gK h.hB) (by have:=h.hK;lia)
  rw[Vb]at tm
  have a:=ZJ (hp x hx)
  refine⟨[Gc x.d],rfl,by simp,by simp[Ld.d,this],?_⟩
  generalize aD ((x.n:Rat)*ownAt x p)=D1 at*
  generalize aD (ownAt x p)=D2 at*
  simp[Ld.d,shD,a,tm])
 rw[Q0,wC]
 exact e
def Zz(h:Bd L G B N K):GH [.lst ((Q0 L p kd).map aD)] S=Gc (aD (kindS L p kd),S):=by
 refine bc (B:=B*N) h.g0 h.gK (by have:=h.hK;lia) (λr hr=>?_) ?_
 .obtain⟨x,hx,rfl⟩:=vS.mp hr
  exact h.mul ((yK.mp hx).1) p
 .have l1:(Q0 L p kd).length<=30:=by
   rw[Q0,vN]
   exact uZ (yS _ _) h.len
  have:=vf (B*N) l1
  have:=h.hb
  lia
end
section
variable{ls:Wp Ld}
def cR(hk:k<=20)(hkind:∀l∈ls,l.k<k)(h:Bd ls G B N K):∃S',Bt [.int k,Au ls,.lst (ls.map λx=>aD (ownAt x p))] S=Gc (shD (BE k ls p),S')/\Bq [] S S':=by
 have ez:NM (ls.map hD) (ls.map λx=>aD (ownAt x p))=ls.map λx=>.tup [hD x,aD (ownAt x p)]:=by
  unfold NM
  rw[List.zip_map',wC]
  rfl
 have hq:(S++[Cl.lst ((BE k [] p).map aD)])[S.length]?=Gc (.lst ((BE k [] p).map aD)):=uy
 generalize hQ:S.length=q at*
 obtain⟨E',S',ef,i,o4,o5,o6,f1,f2,rfl,f3,f4⟩:=Gn (gs:=[]) (t:=tTp [tTp [tNm 5,tNm 6],tNm 4]) (b:=Mq (AF E5 [eOp (o2 wIx) [eV 3,eV 5],AF FL [A9 [eV 6,eC (.int 1)],eV 4]]) (eV 3) (eV 5))
  (I:=λrs E S'=>∃(i:Nat) (o4 o5 o6:uR D),rs=(ls.drop i).map (λx=>D.tup [hD x,aD (ownAt x p)])/\i<=ls.length/\E=[Gc (.int k),Gc (Au ls),Gc (.lst (ls.map λx=>aD (ownAt x p))),Gc (.ref q),o4,o5,o6]/\S'[q]?=Gc (.lst ((BE k (ls.take i) p).map aD))/\Bq [] S S')
  (λ_ _ _ _=>AW) (ds:=ls.map λx=>D.tup [hD x,aD (ownAt x p)]) (E:=[Gc (.int k),Gc (Au ls),Gc (.lst (ls.map λx=>aD (ownAt x p))),Gc (.ref q),none,none,none]) (S:=S++[Cl.lst ((BE k [] p).map aD)])
  ⟨0,none,none,none,by simp,wL _,rfl,by simpa using hq,.app⟩ (by
    rintro dd rs E T ⟨i,o4,o5,o6,i1,i2,rfl,i3,i4⟩
    have hlt:i<ls.length:=by
     rcases xo i ls.length with w|w
     .exact w
     .rw[vz w]at i1;cases i1
    rw[vP hlt,uw]at i1
    injection i1 with z1 z2
    subst z1 z2
    have hm:ls[i]∈ls:=yD hlt
    have htk:ls.take (i+1)=ls.take i++[ls[i]]:=by rw[ABc,uS hlt];rfl
    have tm:=ZL (S:=T) (h.nSz hm) ((h.at hm p).sz h.g0 h.gK h.hB) (by have:=h.hK;lia)
    rw[Vb]at tm
    have zb:30*(B*N)<2^K:=by have:=h.hb;lia
    have zb1:B*N<2^K:=by have:=h.hb;lia
    have pl:=dj (S:=T) ((h.take i).kind (p:=p) (kd:=ls[i].k)|>.sz h.g0 h.gK zb) ((h.mul hm p).sz h.g0 h.gK zb1) (by have:=h.hK;lia)
    have hkd:=hkind _ hm
    have at1:atI ((BE k (ls.take i) p).map aD) (ls[i].k:Int)=Gc (aD (kindS (ls.take i) p ls[i].k)):=B3 (by
     rw[um,BE,um,yn hkd];rfl)
    have ix1:ixN ((BE k (ls.take i) p).map aD).length (ls[i].k:Int)=Gc ls[i].k:=Lf (by simp[BE];exact hkd)
    have ef:((BE k (ls.take i) p).map aD).set ls[i].k (aD (kindS (ls.take i) p ls[i].k+(ls[i].n:Rat)*ownAt ls[i] p))=(BE k (ls.take (i+1)) p).map aD:=by rw[htk,Qb,yH]
    have dq:=An i3
    have cq:=AQ i3
    generalize (BE k (ls.take i) p).map aD=V at*
    generalize hx:ls[i]=x at*
    generalize aD (kindS (ls.take i) p x.k+(x.n:Rat)*ownAt x p)=D1 at*
    generalize aD ((x.n:Rat)*ownAt x p)=D2 at*
    generalize aD (kindS (ls.take i) p x.k)=D3 at*
    have lq:=i4.len
    refine⟨_,[Gc (.int k),Gc (Au ls),Gc (.lst (ls.map λx=>aD (ownAt x p))),Gc (.ref q),Gc (aD (ownAt x p)),Gc (.int x.k),Gc (.int x.n)],T.set q (.lst (V.set x.k D1)),by simp;rfl,?_,i+1,_,_,_,rfl,hlt,rfl,by rw[<-ef];exact uh (Ai i3),Bq.new (A:=[]) (B:=[q]) i4 (.set (by simp)) (by intro n hn';simp at hn';lia)⟩
    generalize aD (ownAt x p)=D4 at*
    simp[dq,at1,tm,pl,cq,ix1])
 have hz:i=ls.length:=by
  have:=congrArg ya f1
  simp at this
  lia
 subst hz
 rw[yh]at f3
 refine⟨S',?_,f4⟩
 have m1:B5 (.val (.lst [Dy])) (.val (.int k))=Gc (.own ((BE k [] p).map aD)):=by
  have hs:k<=sizeLine:=AJ (by lia)
  have h1:(k:Int)<2^63:=by lia
  have h2: -(2:Int)^63<=k:=by lia
  rw[To,Rg,vC (by simp[hs];lia)]
  simp[P4,Dy]
 have df:=An f3
 generalize (BE k [] p).map aD=V0 at*
 rw[show shD (BE k ls p)=.tup ((BE k ls p).map aD)from rfl]
 generalize (BE k ls p).map aD=V1 at*
 have dh:sqD (S++[Cl.lst V0]) (Au ls)=Gc (ls.map hD,[]):=rfl
 simp[Bt,GN,-Rg,m1,hQ,dh,ez,ef,df]
end
def cx(h:CJ t ls ds)(hn:n<=ds.length):∃S',Dm [AK t ls ds,.int n] S=Gc (.lst ((u6 t.p).map λp=>shD (BE t.k (runs t (st0 t ls) (ds.take n)).AA p)),S')/\Bq [] S S':=by
 obtain⟨S1,e1,s1⟩:=Xq (S:=S) h hn
 have il:(ds.take n).length<=20:=by have:=h.len;simp;lia
 have inv:=h.at n
 obtain⟨G,B,N,K,bd⟩:=inv.bd il
 have ho:=inv.own
 have hk:=inv.kind
 obtain⟨t1,t2,t3,t4,t5,t6⟩:=h.tr
 generalize (runs t (st0 t ls) (ds.take n)).AA=L at*
 generalize (runs t (st0 t ls) (ds.take n)).hold=Ho at*
 obtain⟨S2,e2,s2⟩:=J5 (gs:=[]) (t:=tNm 3) (f:=AF Bt [eV 0,eV 1,Bk [3] 1 (F7 (eV 2)) (tNm 1) BI (eOp (o2 wIx) [eV 1,eV 0])]) (C:=[Gc (.int t.k),Gc (Au L),Gc (Ko L)]) (m:=1) (e:=λp:Nat=>D.int p) (g:=λp=>shD (BE t.k L p)) (S0:=S1) (λ_ _=>AW) (xs:=u6 t.p) (acc:=[]) (os:=[none]) (S:=S1) rfl .refl (uZ (show _<=50 by simp;lia) (AJ (by decide))) (by
  intro p hp os T ho' hT
  obtain⟨o1,rfl⟩:=NJ ho'
  have hp':p<t.p:=by simpa using hp
  have pc:=pf (ls:=L) (p:=p) (T:=T) (λl hl=>by rw[ho l hl];exact hp') bd.len
  obtain⟨T2,e3,s3⟩:=cR (S:=T) (k:=t.k) (by lia) (p:=p) hk bd
  refine⟨[Gc (.int p)],T2,rfl,by simp,?_,hT.trans s3⟩
  have dh:sqD T (Ko L)=Gc (L.map (λx=>shD x.ow),[]):=rfl
  simp[dh,NA,pc,e3])
 refine⟨S2,?_,s1.trans s2⟩
 have rk:J6 (t.p:Int)=true:=ER (by lia) (by lia)
 have ct:IU [D.int t.p,D.int t.k,D.int t.b,shD t.ho,D.int t.h,D.int t.l] none (Gc 2)=[.int t.p,.int t.k]:=rfl
 have td:wSl none (Gc 2) (.val t.d)=Gc (.val (.tup [.int t.p,.int t.k])):=rfl
 have dt:dr S t.d=.val t.d:=rfl
 rw[<-QY]at e2
 simp only[AK]at e1⊢
 simp only[vK,vU,xh]at e2
 simp -implicitDefEqProofs[Dm,Hb,dt,td,e1,rk,NA,e2]
section
variable{t:Tr}
def Td(hp:p<t.p):Bg [AK t ls ds,.int p] S=Gc (.non,S):=by
 have h1:(p:Int)<=(t.p:Int)-1:=by omega
 have k1:St.Kd.int.isA "int"=true:=by decide
 have k2:St.Kd.int.isA "bool"=false:=by decide
 simp[k1,k2,Bg,Eh,CM,F8,Ab,Ds,Bm,Gs,Cd,Fj,AK,Tr.d,kdW,h1]
def UZ(hp:p<n):atI ((u6 n).map λp=>shD (BE k L p)) (p:Int)=Gc (shD (BE k L p)):=B3 (by rw[um,yn hp];rfl)
def m8(h:CJ t ls ds)(hn:n<=ds.length)(hp:p<t.p):∃S',Dq [AK t ls ds,.int n,.int p] S=Gc (shD (BE t.k (runs t (st0 t ls) (ds.take n)).AA p),S')/\Bq [] S S':=by
 obtain⟨S1,e1,s1⟩:=cx (S:=S) h hn
 have r1:=MG (S:=S) h
 have r2:=Vu (S:=S) (t:=t) (ls:=ls) hn
 have r3:=Td (S:=S) (ls:=ls) (ds:=ds) hp
 have a:=UZ (k:=t.k) (L:=(runs t (st0 t ls) (ds.take n)).AA) hp
 refine⟨S1,?_,s1⟩
 simp[Dq,Jl,r1,r2,r3,e1,a]
noncomputable def WQ(t:Tr)(L:Wp Ld):Wp D:=(u6 t.p).map λp=>shD (BE t.k L p)
def Xe:OP (.lst (WQ t L)) (.lst (WQ t L))=true/\deq (.lst (WQ t L)) (.lst (WQ t L))=true:=
 ⟨Ml (Fw λ_ _=>Q9) (uZ (oN (n:=3) (by
   intro d hd
   obtain⟨r,_,rfl⟩:=vS.mp hd
   exact oP)) (by decide)),OF (Fw λ_ _=>Q9)⟩
end
def SY(ht:Hn t)(h:Bd L G B N K)(hp:∀l∈L,p<l.ow.length):∃S',De [.tup [t.d,x,y],.lst (L.map Ld.d),.int p] S=Gc (shD (BE t.k L p),S')/\Bq [] S S':=by
 obtain⟨t1,t2,t3,t4,t5,t6⟩:=ht
 have hq:(S++[Cl.lst []])[S.length]?=Gc (.lst []):=uy
 generalize hQ:S.length=q at*
 obtain⟨E',S',ef,i,o,o5,f1,f2,rfl,f3,f4⟩:=Gn (gs:=[]) (t:=tNm 4) (b:=AN (Ay 5 (Bk [2,4] 1 (F7 (eV 1)) (tNm 2) (eOp (o2 wEq) [eOp (o2 wIx) [eV 2,eC (.int 0)],eV 1]) (AF Af [A9 [eOp (o2 wIx) [eV 2,eC (.int 1)],eC (.int 1)],eOp (o2 wIx) [eOp (o2 wIx) [eV 2,eC (.int 2)],eV 0]])))
  (Bo (NC Nt (eV 3) [AF GH [eV 5]])))
  (I:=λrs E S'=>∃(i:Nat) (o o5:uR D),rs=((u6 t.k).drop i).map (λ(i:Nat)=>D.int i)/\i<=t.k/\E=[Gc (.tup [t.d,x,y]),Gc (.lst (L.map Ld.d)),Gc (.int p),Gc (.ref q),o,o5]/\S'[q]?=Gc (.lst (((u6 i).map (kindS L p)).map aD))/\Bq [] S S')
  (λ_ _ _ _=>AW) (ds:=(u6 t.k).map λ(i:Nat)=>D.int i) (E:=[Gc (.tup [t.d,x,y]),Gc (.lst (L.map Ld.d)),Gc (.int p),Gc (.ref q),none,none]) (S:=S++[Cl.lst []])
  ⟨0,none,none,by simp,wL _,rfl,by simpa using hq,.app⟩ (by
    rintro dd rs E T ⟨i,o,o5,i1,i2,rfl,i3,i4⟩
    have hlt:i<t.k:=by
     rcases xo i t.k with w|w
     .exact w
     .rw[vz (by simpa using w)]at i1;cases i1
    rw[vP (by simpa using hlt),uw,AAY]at i1
    injection i1 with z1 z2
    subst z1 z2
    have c:=fe (S:=T) (gs:=[]) (kd:=i) AW h hp
    have sm:=Zz (S:=T) (p:=p) (kd:=i) h
    have cq:=AQ i3
    have e2:((u6 (i+1)).map (kindS L p)).map aD=((u6 i).map (kindS L p)).map aD++[aD (kindS L p i)]:=by
     rw[List.range_succ,wV,wV];rfl
    have hz:(((u6 i).map (kindS L p)).map aD).length<sizeLine:=uU (show _<50 by simp;omega) (AJ (by decide))
    have lq:=i4.len
    refine⟨_,[Gc (.tup [t.d,x,y]),Gc (.lst (L.map Ld.d)),Gc (.int p),Gc (.ref q),Gc (.int i),Gc (.lst ((Q0 L p i).map aD))],T.set q (.lst (((u6 (i+1)).map (kindS L p)).map aD)),by simp;rfl,?_,i+1,_,_,rfl,hlt,rfl,uh (Ai i3),Bq.new (A:=[]) (B:=[q]) i4 (.set (by simp)) (by intro n hn';simp at hn';omega)⟩
    rw[e2]
    generalize ((u6 i).map (kindS L p)).map aD=V at*
    generalize aD (kindS L p i)=D1 at*
    generalize (Q0 L p i).map aD=D2 at*
    simp[cq,NA,c,sm,hz])
 have hz:i=t.k:=by
  have:=congrArg ya f1
  simp at this
  omega
 subst hz
 have df:=An f3
 refine⟨S',?_,f4⟩
 have rk:J6 (t.k:Int)=true:=ER (by omega) (by omega)
 have td:wIx (.val t.d) (.val (.int 1))=Gc (.val (.int t.k)):=by simp[Tr.d]
 have tb:wIx (.val (.tup [t.d,x,y])) (.val (.int 0))=Gc (.val t.d):=by simp
 have dt:∀T,dr T t.d=.val t.d:=λ_=>rfl
 rw[<-QY]at ef
 simp only[xh]at ef
 simp[De,K8,hQ,-Vt,tb,td,dt,rk,ef,df,shD,BE]
def W4(hL:LAt S L q (AK t ls ds) m)(h:CJ t ls ds)(hp:p<t.p):∃S',BV [.ref L,.int p] S=Gc (shD (BE t.k (runs t (st0 t ls) ds).AA p),S')/\Bq [] S S':=by
 obtain⟨S1,e1,s1⟩:=m8 (S:=S) h (n:=ds.length) (uc _) hp
 rw[yh]at e1
 refine⟨S1,?_,s1⟩
 have hi:=hL.ins
 have ik:=hL.kept (E:=[Gc (.ref L),Gc (.int p)]) (i:=0) rfl
 have il:(eOp (o1 Eu) [eIx (ON "Leader" "kept" (eV 0)) (eI 2)]) [Gc (.ref L),Gc (.int p)] S=Gc (.int ds.length,S):=by
  simp[hi,AK]
 generalize hz1:(eOp (o1 Eu) [eIx (ON "Leader" "kept" (eV 0)) (eI 2)])=Z1 at il
 generalize hz:ON "Leader" "kept" (eV 0)=Z at ik
 have eb:GF=(AZ (AF Dq [Z,Z1,eV 1])):=by rw[<-hz,<-hz1];rfl
 generalize AK t ls ds=bk at*
 simp[BV,eb,ik,il,e1]
def soB:=AN (Ay 2 (eIx (eIx (AF EV [eV 1]) (eOp (o1 Tv) [eI 1])) (eI 0))) (AN (Ay 3 (Bk [0] 1 (Oy [eIx (eIx (eV 1) (eI 0)) (eI 0)]) (tNm 1) BI (HN "Leader" "theirs" BV (eV 0) [eV 1]))) (AZ (eOp (o2 wEq) [eV 3,Bk [1,2] 1 (Oy [eIx (eIx (eV 1) (eI 0)) (eI 0)]) (tNm 2) BI (AF De [eV 0,eV 1,eV 2])])))
def gu(hL:LAt S L q (AK t ls ds) m)(h:CJ t ls ds):∃S',DO [.ref L,AK t ls ds] S=Gc (.bl true,S')/\Bq [] S S':=by
 obtain⟨q1,S1,e1,c1,s1⟩:=TH (S:=S) h
 have hlen:=h.len
 obtain⟨t1,t2,t3,t4,t5,t6⟩:=h.tr
 have inv:=h.at ds.length
 rw[yh]at inv
 obtain⟨G,B,N,K,bd⟩:=inv.bd hlen
 have hL1:=hL.same s1
 obtain⟨S2,e2,s2⟩:=J5 (gs:=[]) (t:=tNm 1) (f:=HN "Leader" "theirs" BV (eV 0) [eV 1]) (C:=[Gc (.ref L)]) (m:=1) (e:=λp:Nat=>D.int p) (g:=λp=>shD (BE t.k (runs t (st0 t ls) ds).AA p)) (S0:=S1) (λ_ _=>AW) (xs:=u6 t.p) (acc:=[]) (os:=[none]) (S:=S1) rfl .refl (uZ (show _<=50 by simp;lia) (AJ (by decide))) (by
  intro p hp os T ho' hT
  obtain⟨o1,rfl⟩:=NJ ho'
  have hLT:=hL1.same hT
  obtain⟨T2,e3,s3⟩:=W4 hLT h (p:=p) (by simpa using hp)
  have hi:=hLT.ins
  have lt:(lds (AK t ls ds) q).lookup (u7 "theirs")=none:=rfl
  refine⟨[Gc (.int p)],T2,rfl,by simp,?_,hT.trans s3⟩
  generalize AK t ls ds=bk at*
  simp[hi,lt,e3])
 obtain⟨S3,e4,s3⟩:=J5 (gs:=[]) (t:=tNm 2) (f:=AF De [eV 0,eV 1,eV 2]) (C:=[Gc (AK t ls ds),Gc (.lst ((runs t (st0 t ls) ds).AA.map Ld.d))]) (m:=1) (e:=λp:Nat=>D.int p) (g:=λp=>shD (BE t.k (runs t (st0 t ls) ds).AA p)) (S0:=S2) (λ_ _=>AW) (xs:=u6 t.p) (acc:=[]) (os:=[none]) (S:=S2) rfl .refl (uZ (show _<=50 by simp;lia) (AJ (by decide))) (by
  intro p hp os T ho' hT
  obtain⟨o1,rfl⟩:=NJ ho'
  obtain⟨T2,e3,s3⟩:=SY (S:=T) (p:=p) (x:=.tup (ls.map Ld.d)) (y:=.tup (ds.map AR.d)) h.tr bd (λl hl=>by rw[inv.own l hl];simpa using hp)
  refine⟨[Gc (.int p)],T2,rfl,by simp,?_,hT.trans s3⟩
  simp only[AK]
  simp[e3])
 rw[<-QY]at e2 e4
 simp only[vK,vU,xh]at e2 e4
 have rk:J6 (t.p:Int)=true:=ER (by lia) (by lia)
 have d1:=An c1
 have k1:=bA hL
 have hi:=hL.ins
 have lt:(lds (AK t ls ds) q).lookup (u7 "book")=none:=rfl
 obtain⟨w1,w2⟩:=Xe (t:=t) (L:=(runs t (st0 t ls) ds).AA)
 unfold WQ at w1 w2
 have ob:=Uh (t:=t) (ls:=ls) (ds:=ds)
 have db:=YO (t:=t) (ls:=ls) (ds:=ds)
 have ib:asS (dr S1 (AK t ls ds))=Gc [t.d,.tup (ls.map Ld.d),.tup (ds.map AR.d)]:=rfl
 have ib2:asS (dr S2 (AK t ls ds))=Gc [t.d,.tup (ls.map Ld.d),.tup (ds.map AR.d)]:=rfl
 have it1:asS (dr S1 t.d)=Gc [.int t.p,.int t.k,.int t.b,shD t.ho,.int t.h,.int t.l]:=rfl
 have it2:asS (dr S2 t.d)=Gc [.int t.p,.int t.k,.int t.b,shD t.ho,.int t.h,.int t.l]:=rfl
 have fb:fz (dr S (AK t ls ds))=AK t ls ds:=rfl
 have la:atI ((u6 (ds.length+1)).map λj=>stD (runs t (st0 t ls) (ds.take j))) (-1)=Gc (stD (runs t (st0 t ls) ds)):=by
  have ix:ixN ((u6 (ds.length+1)).map λj=>stD (runs t (st0 t ls) (ds.take j))).length (-1)=Gc ds.length:=by
   rw[vN,List.length_range]
   unfold ixN
   simp
   lia
  unfold atI
  rw[ix]
  show((u6 (ds.length+1)).map λj=>stD (runs t (st0 t ls) (ds.take j)))[ds.length]?=_
  rw[um,yn (by lia)]
  simp
 refine⟨S3,?_,(s1.trans s2).trans s3⟩
 have eb:MH=(AN (xIf (eOp (o2 wNe) [HN "Leader" "book" CV (eV 0) [],eV 1]) (AZ (eC (.bl false))) BO) soB):=rfl
 generalize ((u6 (ds.length+1)).map λj=>stD (runs t (st0 t ls) (ds.take j)))=STS at*
 generalize ((u6 t.p).map λp=>shD (BE t.k (runs t (st0 t ls) ds).AA p))=RW at*
 have sd:asS (dr S1 (stD (runs t (st0 t ls) ds)))=Gc [.lst ((runs t (st0 t ls) ds).AA.map Ld.d),shD (runs t (st0 t ls) ds).hold]:=rfl
 generalize stD (runs t (st0 t ls) ds)=SS at*
 generalize (runs t (st0 t ls) ds).AA.map Ld.d=LL at*
 generalize shD (runs t (st0 t ls) ds).hold=HH at*
 generalize AK t ls ds=bk at*
 simp[DO,eb,hi,lt,k1,fb,ob,db,soB,e1,d1,la,sd,ib,ib2,it1,it2,rk,NA,e2,e4,w1,w2]
section
variable{S:Sto}{t:Tr}{ls:Wp Ld}
def Qh(ht:Hn t)(hh:t.ho.length=t.p/\t.ho.sum=1)(hr:rF t)(g0:0<G)(g1:G<=32)(g2:∀r∈t.ho,Ok G G r):Dc [t.d] S=Gc (.bl true,S):=by
 obtain⟨t1,t2,t3,t4,t5,t6⟩:=ht
 obtain⟨r1,r2,r3,r4⟩:=hr
 have O:=PV (S:=S) (K:=10) hh.1 t2 g0 (vJ g1 (by decide)) (by decide) g2 (vJ (AB2 4 g1) (by decide)) hh.2
 have k3:St.Kd.tup.isA "tuple"=true:=by decide
 have it:Ag [t.d,.int 6] S=Gc (.bl true,S):=by
  simp[Ag,Cg,Tr.d,kdW,k3]
 have w1:=within_int (S:=S) (i:=t.p) (j:=1) (k:=4)
 have w2:=within_int (S:=S) (i:=t.k) (j:=1) (k:=5)
 have w3:=within_int (S:=S) (i:=t.b) (j:=1) (k:=20)
 have w4:=within_int (S:=S) (i:=t.h) (j:=0) (k:=9)
 have w5:=within_int (S:=S) (i:=t.l) (j:=0) (k:=9)
 have q1:(decide ((1:Int)<=t.p) && decide ((t.p:Int)<=4))=true:=by simp;lia
 have q2:(decide ((1:Int)<=t.k) && decide ((t.k:Int)<=5))=true:=by simp;lia
 have q3:(decide ((1:Int)<=t.b) && decide ((t.b:Int)<=20))=true:=by simp;lia
 have q4:(decide ((0:Int)<=t.h) && decide (t.h<=9))=true:=by simp;lia
 have q5:(decide ((0:Int)<=t.l) && decide (t.l<=9))=true:=by simp;lia
 rw[q1]at w1
 rw[q2]at w2
 rw[q3]at w3
 rw[q4]at w4
 rw[q5]at w5
 have td:t.d=.tup [.int t.p,.int t.k,.int t.b,shD t.ho,.int t.h,.int t.l]:=rfl
 rw[td]at it⊢
 generalize shD t.ho=ho at*
 simp[Dc,Ku,it,w1,w2,w3,w4,w5,O]
def P8(ht:Hn t)(hf:GB t ls)(hl:ls.length<=4):C0 [t.d,.tup (ls.map Ld.d)] S=Gc (.bl true,S):=by
 obtain⟨ha,G,G0,G1,G2⟩:=hf
 have hG:G<=32^4:=uZ G1 (vM (by decide) hl)
 have hG:G<=1048576:=hG
 have k3:St.Kd.tup.isA "tuple"=true:=by decide
 have d1:dr S Ea=.val (.int 4):=rfl
 obtain⟨bs,e1,e2⟩:=kq (S:=S) (f:=D6 (AF EB [eV 0,eV 1]) (eOp (o2 wGt) [eIx (eV 1) (eI 1),eI 0])) (e:=Ld.d) (C:=[Gc t.d]) (os:=[none]) (xs:=ls) (gs:=[]) (t:=tNm 1) AW (by lia) rfl (by
  intro x hx os ho
  obtain⟨a,rfl⟩:=NJ ho
  obtain⟨h1,h2,h3,h4,h5⟩:=ha x hx
  have e:=SO (S:=S) (K:=30) ht h1 (by lia) h4 G0 (vJ hG (by decide)) (by decide) (G2 x hx) (vJ (AB2 4 hG) (by decide)) h5
  have n0:(0:Int)<x.n:=by lia
  have ix:asS (dr S x.d)=Gc [.int x.k,.int x.n,shD x.ow]:=rfl
  refine⟨[Gc x.d],rfl,by simp,?_⟩
  generalize x.d=X at*
  generalize t.d=T at*
  simp[e,ix,n0])
 obtain⟨b',e3,e4⟩:=xG.mp e2
 have c1:¬(4:Int)<ls.length:=by lia
 generalize t.d=T at*
 generalize hz:D6 (AF EB [eV 0,eV 1]) (eOp (o2 wGt) [eIx (eV 1) (eI 1),eI 0])=Z at e1
 have eb:J1=(AN (xIf (eOr (Ew (eOp (o2 QK) [eV 1,eC (.ty "tuple")])) (eOp (o2 wGt) [eOp (o1 Eu) [eV 1],eC Ea])) (AZ (eC (.bl false))) BO)
  (AZ (eOp (o1 Ww) [Bk [0] 1 (F7 (eV 1)) (tNm 1) BI Z]))):=by rw[<-hz];rfl
 simp only[vU,vK]at e1
 simp[C0,eb,kdW,k3,d1,c1,NA,e1,e3,e4]
def fZ(ht:Dc [t.d] (S++[.ins "Leader" []])=Gc (.bl true,S++[.ins "Leader" []]))(hf:C0 [t.d,.tup (ls.map Ld.d)] (S++[.ins "Leader" []])=Gc (.bl true,S++[.ins "Leader" []]))(ef:∀T,f E T=Gc (t.d,T))(eg:∀T,g E T=Gc (.tup (ls.map Ld.d),T)):∃S',Qv "Leader" Bn [f,g] E S=Gc (.ref S.length,S')/\LAt S' S.length (S.length+1) (AK t ls []) 0/\Bq [] S S':=by
 have o1:(S++[Cl.ins "Leader" []])[S.length]?=Gc (.ins "Leader" []):=uy
 have s3:1+1+1<=sizeLine:=AJ (by decide)
 have s0:0<=sizeLine:=wL _
 have x1:=Q3 (d:=AK t ls []) (n:=S.length) (f:="kept") (E:=[Gc (.ref S.length),Gc t.d,Gc (.tup (ls.map Ld.d))]) (o:=eV 0) (v:=A9 [eV 1,eV 2,A9 []]) (S:=S++[Cl.ins "Leader" []]) (S1:=S++[Cl.ins "Leader" []]) (S2:=S++[Cl.ins "Leader" []]) (C:="Leader") (by simp[AK,s3]) (by simp) o1 (by decide)
 have e1:(S++[Cl.ins "Leader" []]).set S.length (.ins "Leader" (MU "kept" (AK t ls []) []))=S++[Cl.ins "Leader" [("kept",AK t ls [])]]:=by simp[MU]
 rw[e1]at x1
 have x2:=Q3 (d:=.ref (S.length+1)) (n:=S.length) (f:="earlier") (E:=[Gc (.ref S.length),Gc t.d,Gc (.tup (ls.map Ld.d))]) (o:=eV 0) (v:=JV []) (S:=S++[Cl.ins "Leader" [("kept",AK t ls [])]]) (S1:=(S++[Cl.ins "Leader" [("kept",AK t ls [])]])++[.lst []]) (S2:=(S++[Cl.ins "Leader" [("kept",AK t ls [])]])++[.lst []]) (C:="Leader") (as:=[("kept",AK t ls [])]) (by simp[s0]) (by simp) (by simp) (by simp)
 have e2:((S++[Cl.ins "Leader" [("kept",AK t ls [])]])++[Cl.lst []]).set S.length (.ins "Leader" (MU "earlier" (.ref (S.length+1)) [("kept",AK t ls [])]))=S++[lead (AK t ls []) (S.length+1),.lst []]:=by
  have:MU (u7 "earlier") (.ref (S.length+1)) [(u7 "kept",AK t ls [])]=lds (AK t ls []) (S.length+1):=rfl
  rw[this]
  simp[lead]
 rw[e2]at x2
 refine⟨S++[lead (AK t ls []) (S.length+1),.lst []],?_,⟨by simp,[],by simp,uc _⟩,.app⟩
 have nw:Bn [.ref S.length,t.d,.tup (ls.map Ld.d)] (S++[.ins "Leader" []])=Gc (.non,S++[lead (AK t ls []) (S.length+1),.lst []]):=by
  generalize hz1:W8 "Leader" "kept" (eV 0) (A9 [eV 1,eV 2,A9 []])=Z1 at x1
  generalize hz2:W8 "Leader" "earlier" (eV 0) (JV [])=Z2 at x2
  have eb:Ik=(AN (xIf (Ew (AF Dc [eV 1])) CY BO)
  (AN (xIf (Ew (AF C0 [eV 1,eV 2])) CY BO)
  (AN Z1 Z2))):=by rw[<-hz1,<-hz2];rfl
  generalize AK t ls []=bk at*
  generalize t.d=T at*
  generalize S++[lead bk (S.length+1),.lst []]=S9 at*
  generalize S++[Cl.ins "Leader" [("kept",bk)]]=S8 at*
  generalize S++[Cl.ins "Leader" []]=S7 at*
  simp[Bn,eb,ht,hf,x1,x2]
 unfold Qv
 generalize AK t ls []=bk at*
 generalize t.d=T at*
 simp[ef,eg,nw]
end
def LAt.Z9(h:LAt S L q b m)(s:Bq A S S')(h1:L∉A)(h2:q∉A):LAt S' L q b m:=⟨s.get h.ob h1,let⟨es,e,l⟩:=h.er;⟨es,s.get e h2,l⟩⟩
def L6(h:Dw p S)(s:Bq A S S')(h1:p∉A):Dw p S':=by
 obtain⟨ds,e,q⟩:=h
 exact⟨ds,s.get e h1,q⟩
structure Lw(S:Sto)(p L q:Nat)(t:Tr)(ls:Wp Ld)(ds:Wp AR)(m:Nat):Prop where
 pen:Dw p S
 at_:LAt S L q (AK t ls ds) m
 bk:CJ t ls ds
 th:OH ds<=3
 tab:S[0]?=Gc (Cl.tab "_law_deed_right")
 pq:p≠q
def Lw.ne(h:Lw S p L q t ls ds m):p≠L/\p≠0/\L≠0/\q≠0:=by
 obtain⟨e1,h1,_⟩:=h.pen
 obtain⟨e2,h2,_⟩:=h.at_.er
 have h3:=h.at_.ob
 have h4:=h.tab
 refine⟨λz=>?_,λz=>?_,λz=>?_,λz=>?_⟩
 .subst z;rw[h1]at h3;cases h3
 .subst z;rw[h1]at h4;cases h4
 .subst z;rw[h3]at h4;cases h4
 .subst z;rw[h2]at h4;cases h4
def Lw.step(h:Lw S p L q t ls ds m)(s:Bq [] S S'):Lw S' p L q t ls ds m:=⟨L6 h.pen s (by simp),h.at_.Z9 s (by simp) (by simp),h.bk,h.th,s.get h.tab (by simp),h.pq⟩
def cU:=xIf (D6 (eOp (o2 wEq) [eOp (o2 Oz) [eV 6,eI 4],eI 0]) (Ew (AF DO [eV 4,eV 5]))) (AZ (eC (.bl false))) BO
def Sl:=AN (Ay 5 (AF CK [eV 4,eV 5,AF B0 [eV 1,eV 5]])) (AN (xIf (eOp (o2 (Wu false)) [eV 5,eC .non]) (AZ (eC (.bl false))) BO) cU)
def Xv(h:Lw S p L q t ls ds m)(hm:m<1000){i:Nat}:∃ds' S',Sl [a0,Gc (.ref p),a2,a3,Gc (.ref L),Gc (AK t ls ds),Gc (.int i)] S=Gc (.nx,[a0,Gc (.ref p),a2,a3,Gc (.ref L),Gc (AK t ls ds'),Gc (.int i)],S')/\Lw S' p L q t ls ds' (m+1):=by
 obtain⟨n1,n2,n3,n4⟩:=h.ne
 have pq:=h.pq
 obtain⟨d,S1,e1,rw1,p1⟩:=c9 (S:=S) h.bk h.pen
 have L1:LAt S1 L q (AK t ls ds) m:=h.at_.Z9 p1.same (by simpa using n1.symm) (by simpa using pq.symm)
 have T1:S1[0]?=Gc (Cl.tab "_law_deed_right"):=p1.same.get h.tab (by simpa using n2.symm)
 obtain⟨ds',S2,e2,L2,s2,b2,t2⟩:=X2 L1 h.bk hm h.th rw1 T1
 have P2:Dw p S2:=L6 p1.pen s2 (by simp;exact⟨n1,pq⟩)
 have T2:S2[0]?=Gc (Cl.tab "_law_deed_right"):=s2.get T1 (by simp;exact⟨n3.symm,n4.symm⟩)
 obtain⟨S3,e3,s3⟩:=gu L2 b2
 have w2:Lw S2 p L q t ls ds' (m+1):=⟨P2,L2,b2,t2,T2,pq⟩
 have nn:isN (dr S2 (AK t ls ds'))=false:=rfl
 have md:(0:Int)<4:=by decide
 by_cases c:(i:Int) % 4=0
 .refine⟨ds',S3,?_,w2.step s3⟩
  generalize AK t ls ds=bk at*
  generalize AK t ls ds'=bk' at*
  simp[Sl,cU,e1,e2,nn,c,e3]
 .refine⟨ds',S2,?_,w2⟩
  have c':((i:Int) % 4==0)=false:=by simpa using c
  generalize AK t ls ds=bk at*
  generalize AK t ls ds'=bk' at*
  simp[Sl,cU,e1,e2,nn,c']
def gY ns(h:ns.length<=63):∃S',Ny [.scr ns] [Cl.tab "_law_deed_right"]=Gc (.bl true,S'):=by
 obtain⟨c,e0⟩:=ba (S:=[Cl.tab "_law_deed_right"]) (ns:=ns) (k:=0)
 obtain⟨p,S1,e1,hp1,s1,lp⟩:=gH (S:=[Cl.tab "_law_deed_right"]) c
 have T1:S1[0]?=Gc (Cl.tab "_law_deed_right"):=s1.get rfl (by simp)
 have np:p≠0:=by simp at lp;lia
 obtain⟨t,S2,e2,p2,ht,⟨hh,hr⟩,G,g0,g1,g2⟩:=U7 hp1
 obtain⟨ls,S3,e3,p3,hf,hl⟩:=Yd p2.pen ht
 have eg:FX [.ref p] S1=Gc (.tup [t.d,.tup (ls.map Ld.d)],S3):=by
  have s2:1+1<=sizeLine:=AJ (by decide)
  simp[FX,Mp,e2,e3,s2]
 have inv:=U6 hf hl hh.1 g0 g1 g2
 have bk0:CJ t ls []:=⟨ht,inv,trivial,by simp⟩
 obtain⟨S4,e4,L4,s4⟩:=fZ (S:=S3) (t:=t) (ls:=ls) (Qh ht hh hr g0 g1 g2) (P8 ht hf hl) (E:=[Gc (.scr ns),Gc (.ref p),Gc t.d,Gc (.tup (ls.map Ld.d)),none,none,none]) (f:=eV 2) (g:=eV 3) (λ_=>by simp) (λ_=>by simp)
 have lp3:=p3.pen.lt
 have T3:S3[0]?=Gc (Cl.tab "_law_deed_right"):=p3.same.get (p2.same.get T1 (by simpa using np.symm)) (by simpa using np.symm)
 have w4:Lw S4 p S3.length (S3.length+1) t ls [] 0:=⟨L6 p3.pen s4 (by simp),L4,bk0,by decide,s4.get T3 (by simp),by lia⟩
 obtain⟨n1,n2,n3,n4⟩:=w4.ne
 obtain⟨r,S5,e5,a5,b5,p5⟩:=Am w4.pen (n:=3) (by decide) (by decide)
 have w5:Lw S5 p S3.length (S3.length+1) t ls [] 0:=⟨p5.pen,w4.at_.Z9 p5.same (by simpa using n1.symm) (by simpa using w4.pq.symm),bk0,w4.th,p5.same.get w4.tab (by simpa using n2.symm),w4.pq⟩
 obtain⟨N,eN,hN⟩:∃N:Nat,atI [D.int 6,.int 12,.int 26] r=Gc (.int N)/\N<=26:=by
  obtain⟨x,ex,hx⟩:=pick (xs:=[D.int 6,.int 12,.int 26]) (r:=r) a5 (by simpa using b5)
  simp only[uY,uu,ve]at hx
  rcases hx with rfl|rfl|rfl
  .exact⟨6,ex,by decide⟩
  .exact⟨12,ex,by decide⟩
  .exact⟨26,ex,by decide⟩
 have rk:J6 (N:Int)=true:=ER (by lia) (by lia)
 have s3':1+1+1<=sizeLine:=AJ (by decide)
 have s0:0<=sizeLine:=wL _
 obtain⟨E',S6,ef,ds,m,o,f1,rfl,f2,f3⟩:=Gn (gs:=[]) (t:=tNm 6) (b:=Sl)
  (I:=λrs E S'=>∃(ds:Wp AR) (m:Nat) (o:uR D),(∀d∈rs,∃k:Nat,d=.int k)/\E=[Gc (.scr ns),Gc (.ref p),Gc t.d,Gc (.tup (ls.map Ld.d)),Gc (.ref S3.length),Gc (AK t ls ds),o]/\Lw S' p S3.length (S3.length+1) t ls ds m/\m+rs.length<=26)
  (λ_ _ _ _=>AW) (ds:=NK 0 N) (E:=[Gc (.scr ns),Gc (.ref p),Gc t.d,Gc (.tup (ls.map Ld.d)),Gc (.ref S3.length),Gc (AK t ls []),none]) (S:=S5)
  ⟨[],0,none,by
    intro d hd
    obtain⟨k,_,rfl⟩:=vS.mp hd
    exact⟨k,by simp⟩,rfl,w5,by rw[IP];lia⟩ (by
    rintro dd rs E T ⟨ds,m,o,i1,rfl,i2,i3⟩
    obtain⟨k,rfl⟩:=i1 dd uk
    simp at i3
    obtain⟨ds',T2,e,w⟩:=Xv i2 (by lia) (i:=k) (a0:=Gc (.scr ns)) (a2:=Gc t.d) (a3:=Gc (.tup (ls.map Ld.d)))
    exact⟨_,_,T2,by simp,e,ds',m+1,Gc (.int k),λd hd=>i1 d (uW _ hd),rfl,w,by lia⟩)
 obtain⟨S7,e7,_⟩:=gu f2.at_ f2.bk
 refine⟨S7,?_⟩
 have eb:Vz=(AN (Ay 1 (AF Hh [AF Cq [eV 0,eI 0]]))
  (AN (II (tTp [tNm 2,tNm 3]) (AF FX [eV 1]))
  (AN (Ay 4 (Qv "Leader" Bn [eV 2,eV 3]))
  (AN (Ay 5 (A9 [eV 2,eV 3,A9 []]))
  (AN (NH (Oy [eIx (Ja [eI 6,eI 12,eI 26]) (AF AG [eV 1,eI 3])]) (tNm 6) Sl)
  (AZ (AF DO [eV 4,eV 5]))))))):=rfl
 have bk:∀{T:Sto} {o4 o5 o6:uR D},(A9 [eV 2,eV 3,A9 []]) [Gc (.scr ns),Gc (.ref p),Gc t.d,Gc (.tup (ls.map Ld.d)),o4,o5,o6] T=Gc (AK t ls [],T):=by
  intro T o4 o5 o6
  simp[AK,s3']
 generalize hz1:(A9 [eV 2,eV 3,A9 []])=Z1 at bk
 generalize hz2:(Qv "Leader" Bn [eV 2,eV 3])=Z2 at e4
 rw[hz1,hz2]at eb
 generalize Sl=B at*
 generalize AK t ls []=bk0 at*
 generalize AK t ls ds=bk9 at*
 generalize t.d=T at*
 simp at e0
 simp[Ny,eb,e0,e1,eg,e4,bk,e5,eN,s3',rk,ef,e7]
def gR{K:W1}{h:vq}{mg:Str->uR uX}{xs:Wp Str}{y:Str}{C':uf}(X:K.In h)(G:h.Ns mainGlobals mg)(e:vF K mainGlobals y=Gc (Gc (.ref C')))(t:∀x∈xs,∃C b,vF K mainGlobals x=Gc (Gc (.ref C))/\yc K (.ref C) (.ref C')=Gc b/\(x==y)=b):XmD K mg xs y:=mq X G e λx hx=>by
 obtain⟨C,b,h1,h2,h3⟩:=t x hx
 exact⟨C,h1,by rw[h3];exact h2⟩
def jT{K:W1}{xs:Wp Str}{x y:Str}{C C':uf}{b:vZ}(h1:vF K mainGlobals x=Gc (Gc (.ref C)))(h2:yc K (.ref C) (.ref C')=Gc b)(h3:(x==y)=b)(t:∀z∈xs,∃C b,vF K mainGlobals z=Gc (Gc (.ref C))/\yc K (.ref C) (.ref C')=Gc b/\(z==y)=b):∀z∈x::xs,∃C b,vF K mainGlobals z=Gc (Gc (.ref C))/\yc K (.ref C) (.ref C')=Gc b/\(z==y)=b:=λz m=>by
 rcases uY.mp m with e|m
 .rw[e];exact⟨C,b,h1,h2,h3⟩
 .exact t z m
section
variable{P:va}{w:wG}{K:W1}{mg:Str->uR uX}{base:vq}
def Fz:Aj ["_law_script","_law_pen_here","_law_train_here","_law_first_here","_law_leader","_law_book","_law_turn_here"] ["_law_script"] (AB Mh):=scM
def iZ{f:uf}{fd:zE}(F:Fun K "law" "law" Mh f fd)(hm:mg "law"=Gc (.ref f))(bm:BmB mg base)(T:All w K mg):Ji P w K mg base CX0 15 f fd ["_law_script"] (spD K 1 Ny):=by
 have B:=T.bt
 have GA:=GA P base bm T
 have Mc:=Mc P base bm T
 have Gw:=Gw P base bm T
 have J8:=J8 P base bm T
 have JF:=JF P base bm T
 have El:=El P base bm T
 have FO:=FO P base bm T
 have GX:=GX P base bm T
 refine gT (k:=14) F Fz rfl λcdv A outer s H E hr=>?_
 have hu:=IE hr
 exact(Aa (Er 1 (deM Mc hr (AD (deM Gw hr (AD (AH 0) (AD BQ AI))) AI)) Fz.nd)
      (Aa (Q8 (deM JF hr (AD (AH 1) AI)) (WN rfl (Cr (HF 2 Fz.nd) (Cr (HF 3 Fz.nd) Lx))))
      (Aa (Er 4 (X5 GA hr rfl (AD (AH 2) (AD (AH 3) AI))) Fz.nd)
      (Aa (Er 5 (Dx (AD (AH 2) (AD (AH 3) (AD (Dx AI) AI)))) Fz.nd)
      (Aa (Zc PassesOwn.never rfl (QQ rfl B.range (AD (Fd Mt (UC (AD BQ (AD BQ (AD BQ AI)))) (deM J8 hr (AD (AH 1) (AD BQ AI)))) AI)) (HF 6 Fz.nd) (Aa (Er 5 (deM El hr (AD (AH 4) (AD (AH 5) (AD (deM FO hr (AD (AH 1) (AD (AH 5) AI))) AI)))) Fz.nd)
      (Aa (HG (IX aC (AH 5) Jt) (Aq (CP Qa)) CO)
      (Aq (HG (DW.dt (kW (IX (Nv hu) (P5 c8 (AH 6) BQ) BQ) (Zy (Fx (Fi (deM GX hr (AD (AH 4) (AD (AH 5) AI)))))))) (Aq (CP Qa)) CO)))))
      (Aq (CP (deM GX hr (AD (AH 4) (AD (AH 5) AI))))))))))
end
def gv{K:W1}{x:Str}{P f c:uf}{oc oc2:uX}{od od2:uR uf}{osl osl2:yo (uR uX)}{fd:zE}{vs:yo uX}{file:Str}{tf tg tt:Tok}{flags text:Int}{inF:vZ}(e1:vF K mainGlobals x=Gc (Gc (.ref f)))(e2:K.lookup f=Gc ⟨oc,od,.func fd,osl⟩)(e3:fd.code=.ref c)(e4:K.lookup c=Gc ⟨oc2,od2,.fields vs,osl2⟩)(h0:oc2=.type "code")(h11:vs[11]?=Gc (.ref P))(h11':vs.getD 11 vL=.ref P)(h18:vs.getD 18 vL=.str file tf)(h7:vs.getD 7 vL=.int flags tg)(h9:vs.getD 9 vL=.bool inF)(h10:vs.getD 10 vL=.int text tt)(ne:c≠P):TabAt K x P:=
 ⟨f,oc,od,fd,osl,c,e1,e2,e3,_,vs,file,tf,flags,tg,inF,text,tt,e4,h0,rfl,h11,h11',h18,h7,h9,h10,ne⟩
theorem VR{P:uf}:∀{K:W1},P∉K.map (·.1)->K.lookup P=none
 | [],_=>rfl
 |(a,o)::K,h=>by
  rw[uw,uY,AAo]at h
  have:(P==a)=false:=by simpa using h.1
  rw[vT,this]
  exact VR h.2
def walk{l:AA2}{q:va}{loose:Wp Str}{XP:(Str->uR uX)->vq->Prop}{d:DefRec}{K:Params->W1}{as:Wp uf}{ea:∀(P:Params),as=List.map (λx=>x.fst) (K P)}{ts:Wp uf}(hn:l.most=Gc 63)(hdf:d.params.defaults=[])(na:∀P∈ts,P∉as)(nd:(((["_law_deed_right"]:Wp Str).zip ts).map (·.2)).Nodup)(hl:Sk ((["_law_deed_right"]:Wp Str).zip ts)=[Cl.tab "_law_deed_right"])(hd:d.name="law")(F:∀(w:wG) (mg:Str->uR uX) (h:vq),(K w.params).In h->h.Ns mainGlobals mg->(∀z∈(["_law_deed_right"]:Wp Str).zip ts,TabAt (K w.params) z.1 z.2)/\All w (K w.params) mg):PySem.W.WalkO q loose XP (PySem.W.kmHook K as ea ts).says l.row.toRowW d [] (λf vs=>PySem.call f vs):=by
 refine oE (x:="_law_script") (k:=15) (Fn0:=Ny) ((["_law_deed_right"]:Wp Str).zip ts) hn hdf ⟨rfl,by decide,by decide⟩ (λw h Y=>⟨Y.1,λz hz=>Y.2 _ (wc hz).2⟩) nd (λw mg fa h KX G hmg=>?_) λns hns=>by rw[hl];exact gY ns hns
 obtain⟨hT,T⟩:=F w mg h KX G
 refine⟨λz hz=>⟨hT z hz,VR (by rw[<-ea];exact na _ (wc hz).2)⟩,?_⟩
 obtain⟨f,fd,F,hm⟩:=T.Mh.ex
 rw[hd]at hmg
 have e:=hmg.symm.trans hm
 cases e
 refine⟨fd,λs v=>?_,λbase _ _ bm=>iZ (P:=l.prog) (w:=w) (base:=base) F hm bm T⟩
 obtain⟨oc,od,kV,doc,pm,an,cdv,ct,osl,hfd,_⟩:=F.ex
 subst hfd
 exact .of_eq rfl
end Mi
end
noncomputable section
structure PySem.W.Fast:Prop where
 (tw16746604148948419910 tw1768414504592137939 tw13308126618609963710 tw10470858160765794745 tw10395021924817696940 tw3837471821764716161 tw10369803429079436334 tw12759932534363298664 tw2936297390389646538 tw13213398535706343793 tw6090746552242828116 tw9990890946944291295 tw16160980224575971314 tw8674236528015986369 tw18167452345977899955 tw4174366022658456949 tw9958067666733969495 tw16790351755253355595 tw11198920918627274793 tw2284274059665917668 tw11240227805707383563 tw12429566878631093509 tw13553885846633447036 tw3148071499706632878 tw1911546887331733056 tw6444121057585154177 tw3809451288439747852 tw6559677824356469155 tw5925075132231069611 tw11100394024699698055 tw4718636388577512863 tw18206068865938308735 tw13742303230334310505 tw8585474397092042678 tw10793127370942129819 tw13831371065255199185 tw11399256953171346420 tw4015888739340762796 tw1697088106011815192 tw13726134804778585830 tw15380915736536619781 tw5409952503455885290 tw10009852502498637739 tw3394172090001704946 tw11299708130972803048 tw13952513218406527134 tw9605870259464856645 tw13949379183074665321 tw13925383291940477014 tw226175790737006323 tw6925768928536139646 tw4745502217569702026 tw2745472520103507020 tw303755670284389557 tw3066855661132073028 tw6060313071549691234 tw8776600430255516990 tw3587260717829540558 tw5581546891263980196 tw14887522781345584766 tw6744757485981485748 tw2792555233744209185 tw7751101111670670985 tw16627752385525640802 tw4264516477325244664 tw13125388123356547123 tw17112324396175569675 tw3353818475207240787 tw7781468263168255759 tw6467808084040096435 tw7007990696512511819 tw18147134296093723136 tw10530291635144526046 tw7662550460756040696 tw12217558067750249057 tw17144411757700342329 tw1293882761804265553 tw11428330463636007473 tw3176972166627349455 tw13197117904213798198 tw16538364735375288721 tw6842968734766457384 tw1927362955873799923 tw9021943898129935571 tw13440088804513366027 tw10771712592368182444 tw3969351953744401429 tw731000334304245973 tw4646254999695865868 tw797215195083051257 tw4902179786180453669 tw7724959066926004303 tw14384216929096791532 tw3502125452209983332 tw271167241325506437 tw9886211193775045173 tw14114884976382912646 tw9338639802999601820 tw3742531329173388134 tw7926256131666376530 tw11762551704053805678 tw5728113496033231441 tw9488473717813173438 tw2114263385133141591 tw15771261731573959168 tw15986374518221570152 tw15359003891691334142 tw17789687491045264357 tw4983853170283602026 tw12714416943823226026 tw5618547688276736510 tw2275871446663510207 tw6538130520929812423 tw7403626481382331958 tw7907076718077087181 tw15938417218921083245 tw437979616255424942 tw1102850702330524992 tw7284177307153452969 tw3126781783741979618 tw10635278308383435042 tw5453926038513766241 tw12686636610655797252 tw8002478156164112422 tw15788250914138339910 tw4454915866929326240 tw12555219124252139366 tw17379403165864038502 tw3332569085098666088 tw4808999578111464592 tw10833645401354428598 tw1939721478330127869 tw3794482234926708852 tw15989838816656844206 tw13694930184369369034
 tw4666763662895028 tw1593815970820390700 tw2585829766219895974 tw9065130548979117458 tw5496837239530599476 tw18106966039241848677 tw1383150870400333645 tw17080220880001892816 tw3256807770698942261 tw10127851735733185487 tw12553884233337923185 tw8283167210645286678 tw14737227802451838060 tw437632200925181135 tw17049760825049335037 tw17253091800357451415 tw3961439402892908793 tw9736066463674860468 tw6065676703733493057 tw2374402175756762517 tw10921153731040994463 tw626022705642418739 tw9454355927953644741 tw2069299710820686071 tw15545462100440548882 tw5633486490335156415 tw11467761511936139371 tw9300999908593580271 tw15385390454800099398 tw11531176698317729664 tw16615331133550691555 tw10341247779519594233 tw14795073065595192742 tw11644977512728114035 tw16083956446305854487 tw14434174013124637460 tw2037802829595132882 tw3678287425055391899 tw8583866078583322481 tw12812731594951875076 tw1649144910555132951 tw14388273308918911562 tw6521684874034402431 tw3158569886146799994 tw895929283020588739 tw15938336624992060525 tw6563668592831862842 tw13590251233648227698 tw17488074337798244373 tw15373554633030423605 tw14559058066937215377 tw7082988630462295336 tw6045907582170342044 tw10446643763153664016 tw17560028998083721814 tw10209293692403235627 tw11960489609233645932 tw4609554597935142520 tw6393360931489911448 tw2421837008444070974 tw5529971850945543815 tw15679412274946083230 tw6522898118175774652 tw14194413610934239852 tw16960587391287669059 tw9540376812106524669 tw12466871488543236947 tw5038808948690308624 tw15002863148587691187 tw10535459407962431760 tw2565119344730302141 tw8232954466090937411 tw2295705054224115550 tw2000439373661184194 tw4014252449789722381 tw12084087519217676313 tw12420814778798947201 tw10467187873921684583 tw12893998689208690669 tw18370785919414025870 tw2396984689199459228 tw17548431497832005714 tw7319579637802042452 tw15989045894028269114 tw5233664512533814729 tw5303752800231764633 tw10338754910168376726 tw1603099766570402622 tw5526314744986289942 tw13957977221215598646 tw14804299564318293094 tw3313602758200792021 tw9805425568910641082 tw2431312753470221186 tw10360444690332917290 tw10086520838204951326 tw13752532372427290267 tw3363634589203534467 tw5363895325874430366 tw7766376958931619987 tw1599341056886875175 tw11687439593997790610 tw1176901741223480995 tw2779899054034806399 tw15071613320186544415 tw3727338459141767021 tw7545829546095913080 tw14858521685411348497 tw10252786520702392221 tw1813622096835790639 tw15800225027425693267 tw11218369290720956511 tw10661728819585302179 tw16587853599752438352 tw12661571797867455762 tw1718347515334482393 tw12124438118062316055 tw616369182279780893 tw4132585608807511512 tw4355711026344042855 tw1221805371052301838 tw11606366634573481431 tw4282819042626907138 tw9737906995816742622 tw8730737648219099394 tw8937000419075021511 tw14957738837616411548 tw9314481796109316197 tw8207752223787217410 tw16928728550385185104 tw11714430594239591998 tw2243971953042969543 tw17879946651586658008 tw8874559777800996623
 tw3565923296638133995 tw2811974557568072833 tw3441739615498292686 tw15834074091873736292 tw6107250303187602349 tw2330288395393411837 tw12078959751939876833 tw12057378140952267205 tw14889881581732085930 tw12522428108087850954 tw6338671576880576658 tw13794743822030084712 tw1003108359898021455 tw7837820511909360058 tw15979059693867007329 tw4680747623806741839 tw7948093188655558419 tw4595978748838343989 tw4998313411038110554 tw16735148959171619649 tw8543493749310434124 tw11355120182658967656 tw12926532147927406552 tw18093236796821372606 tw10997711917587798933 tw13320173204601439353 tw14513969364717561317 tw3240379100822985000 tw10043597623293741817 tw8918929805007440456 tw1078067920747293745 tw18184534959459729425 tw8292012939423589544 tw16228374658987825311 tw3513763261454990537 tw6925112757769768803 tw3463979240562270435 tw10763364995265496894 tw17469074252937842464 tw13358145178998348763 tw3241811003243329130 tw11754830293910231067 tw11286976413542019980 tw14413228340882352778 tw10441617448054648337 tw8637779224968509906 tw5805462577887174991 tw10433961648980994163 tw519709434477389943 tw1747954368829415714 tw9142780272110666679 tw16362476789654662495 tw8910730022411086494 tw942803338254620946 tw12566497970702096003 tw12547577690518279113 tw17540244287628374545 tw10123978332308440845 tw15569824950417282125 tw12520302046468862838 tw5418756586682311472 tw1017081876928254867 tw17322390140231970794 tw15175497705316931097 tw3916255339166909573 tw9004833676747846818 tw17901365731518395942 tw4788657617321456596 tw1815282682247310308 tw15151397699368657090 tw13836595315927057550 tw10670803503125265765 tw4069475966695733396 tw18295055515043420260 tw14327882155444158955 tw4047377696958626645 tw3815694368562828072 tw16592226378791435622 tw8697125826390390494 tw11448700688885744704 tw7289155965776056705 tw18346757878868473535 tw12619045785917528912 tw13409091443112691200 tw9887592237320375730 tw11376179687190357112 tw7927622571894528449 tw15903627124920619651 tw13205437745804949134 tw17251696053363721399 tw12878262064875149504 tw5916690850078485232 tw8182419346537518476 tw14407370356878990737 tw2682690107385639366 tw5747814106976682196 tw17076756327152515935 tw3982759069951107147 tw15114747743722726312 tw17949044333443780364 tw11571496473713866634 tw16897308766999651096 tw4930085872338856153 tw11126882524105446792 tw7083029066353021576 tw15869741384789707044 tw16123226324075067629 tw9747558285139570346 tw5253892470402774046 tw4895127485079534065 tw18086941129572348960 tw457350111370426658 tw9641596728914254931 tw9276976510850641026 tw13106327014911299706 tw10498059510441241658 tw1660556051687070854 tw9594137251573236940 tw92934657885196680 tw16917291698416727344 tw12939035918229897292 tw10082301822111173103 tw2088425726007191285 tw220022482693280022 tw10830537756082459369 tw6267610288916569761 tw3179934967000405916 tw353058187728687156 tw1512581590983424379 tw12295178568936253687 tw12554485034512661626 tw14641268562200256126 tw3788055118895862296 tw10189695357798664159
 tw10786310231292948468 tw1339360377411125776 tw10206633453065899430 tw6310919974714000409 tw3614768892626866460 tw3362918069177419405 tw118047483798375405 tw1994658420601745198 tw17272909317068425187 tw8897749081093239248 tw2331070825533302091 tw10492185352368245433 tw8556204972487675564 tw16644489802404231643 tw6914141405780618108 tw9741845027219094080 tw9958845979249390951 tw6051181358009199103 tw17149651694386633567 tw11974482853895799932 tw8029410732032282822 tw9146135131371187402 tw16518761456514661500 tw7035895467568309898 tw8602144807186601203 tw14164604338202446769 tw612330010102381878 tw7548740342956746529 tw12684766360339225706 tw257274637917240201 tw14209956576305445861 tw11620070787059795633 tw4442835518783851326 tw13039924060274067680 tw11869055205852626824 tw11763328711084804086 tw13030313465038836190 tw16188494543072463597 tw7369419628581339711 tw16720510453420008047 tw6199872454559723481 tw9688196282904175644 tw14867677772483854881 tw11157737377293701059 tw13856869089142382743 tw11682753631510400576 tw9263035374577889324 tw13493507811869855472 tw12552498001617278019 tw15451707860293438129 tw2230023925851104242 tw13931631349639114051 tw17560955675443541036 tw13650059251330767259 tw8390106568044185452 tw12662881371430677941 tw3049793944705541543 tw14094317299888245268 tw11425239212604810188 tw1405692031637544260 tw5044628685359204045 tw10705745115359417022 tw7537015720985824426 tw17471263283060950405 tw10859623300549764553 tw2981097596925612711 tw587794568128118563 tw6603374660174136303 tw9123894268438205243 tw12017461596745673731 tw7523849769206240897 tw15122667035449498130 tw15440580321122136054 tw7068663893735444525 tw14564604114553562213 tw2612118074920787827 tw15850116424249258151 tw6631983050597147450 tw5051863688577754129 tw1783508554295120509 tw11458114821715318555 tw11497330994152809548 tw632266548072497969 tw2489213590064472701 tw14666286097928269149 tw17963991636427197835 tw1910591880099809987 tw11256661762568110928 tw4289743120140004095 tw9754688216004556975 tw16534979802838004121 tw2212770921115280711 tw15572377682775082324 tw10711753092283785776 tw4272254836579782724 tw15821414448892858698 tw7904447586705659743 tw10689372659910412714 tw9154960321873318913 tw7867566024915024678 tw8720649288926765803 tw8820216754422836420 tw3486170092583882552 tw5097059652521641813 tw1893694970815293717 tw16334526287867017722 tw4939101685220478269 tw17558109223853914137 tw3527073099414150211 tw10152796966812039831 tw2425545416090614179 tw7734899998539692477 tw10263497396214650819 tw12966582928323464807 tw595232532293730515 tw7107805982308074406 tw10282965566420054594 tw6872441821302392857 tw3554823606890362637 tw5343862839319052078 tw16819202498890433740 tw18355177949695988053 tw10513112901584869312 tw17814542061202576653 tw2367016415666043927 tw12784705932286753967 tw5776107614049155502 tw16943902316271868427 tw9527570127720563011 tw17156476880904976965 tw1012462650277796947 tw17468260150266811707 tw16577326315502121093 tw10920034443154268021
 tw8896017657702960961 tw13219939349261579663 tw14176413628458136838 tw7360899021733363229 tw4272501346231594195 tw12534590858213804681 tw9783221707759990203 tw9894421448599397481 tw3386439990249953506 tw795146357600347569 tw17621173537739795071 tw16461777783295542218 tw5664261715467850221 tw294441562006322679 tw6126234782828592211 tw5648907114652702131 tw13876086525657235711 tw15044769258365682589 tw8440854317908387765 tw13307057366088411294 tw1347901312271891740 tw10126769298818207977 tw13009979582680286678 tw9206826878268929344 tw7714960761120705001 tw11628725762791903030 tw6062836474276630791 tw11713077687122249414 tw4814840848750548318 tw7821714530083098670 tw11103996944786969383 tw14351814731376638318 tw10612458886470789565 tw3145626233638813335 tw5855497991951920499 tw8318768527427651056 tw2097992604812685492 tw2317580299595759347 tw2071013722174803114 tw1570512377081654368 tw4348673979378902449 tw13008682075593205075 tw5248677688677791014 tw10104104636635937301 tw11858149500153328193 tw12463558457279498307 tw1212042866695179978 tw17312612339198524961 tw4510921413846840087 tw15855231751622612949 tw11904865051897859655 tw434943777156218935 tw4504349932567258936 tw9953884690785170246 tw6754685042869958601 tw7677181750225557636 tw17201071315184447966 tw953330349203440287 tw6334718843977077377 tw8873261532697847966 tw12365654175593788825 tw7595487322844283201 tw16158900909566477991 tw16521003188650130163 tw12089741047490665489 tw11243173238199550795 tw5142704378415230305 tw9048562984343410443 tw251064296004665086 tw10217506535798698213 tw6806195830809875099 tw13847137719566321992 tw1171231108230057530 tw306883967662124037 tw15673381851052908812 tw17952935248694193542 tw12523475028178712603 tw18164204191139574233 tw4645077030468217335 tw9635742367124197281 tw13242739908486876538 tw15424981216043262404 tw7419974663382901365 tw18384650888342545876 tw6662709344296043023 tw9927346341558017598 tw1418543230284690100 tw14899504819607789663 tw8790113718675532980 tw16858330274892018826 tw2197951859240496436 tw10548169994625723006 tw18285449694708269139 tw12369047784337138941 tw16493985643326230605 tw10803913442876962341 tw17923110395904436796 tw14856382916737742789 tw7022304743377689630 tw735694557479990610 tw15890340362313066060 tw11730099566470341162 tw17937116127844182943 tw4128015329270963387 tw2332015490773837276 tw10831105963255341118 tw6696371365183210703 tw3703401202494456827 tw10722343629399165850 tw2914059567944828698 tw17129783876145078473 tw14012070975471889401 tw7402957521752490632
 tw11887409941324893443 tw5706573102616584259 tw18218344956384629516 tw1757627943580676453 tw1612414223945565456 tw10598841308980009678 tw6966799061703406666 tw3929274262963132707 tw16087820871631791 tw10384910468965415403 tw8394557240321657359 tw15976135310409546516 tw15735916550564226399 tw11923017486263235948 tw6015310345992969918 tw8407362396585061868 tw15817979407962251397 tw12076974942325839290 tw13189740916181253289 tw7231243190872737196 tw6258780416592891984 tw10350173260283417350 tw15546535592453096903 tw5019219250161429992 tw6338748378683912404 tw16467032618053548315 tw3553778729975632015 tw2695854121848439442 tw15288210391602779094 tw1548923799600786689 tw17952160326983666977 tw8255196219946009174 tw12541523414505234533 tw10676075494925543124 tw17354837768244019013 tw13239337725134401445 tw8863052930868679690 tw8391607649185749851 tw1284168830148816079 tw11972910742290745591 tw15308784960317188712 tw1913825497965364166 tw17223065503296765201 tw9608503136881458110 tw3852393628200710984 tw8577055494026331749 tw9321985830717537081 tw7155499800306225919 tw10736945191871834125 tw1371002356667487727 tw15560813476980551992 tw15141778900819081838 tw11522972036859922663 tw3060780219215980472 tw14847039848749199094 tw4705317058406207731 tw14187154494475299685 tw10757458112250736832 tw6866101276286483856 tw8362468724382722097 tw7828476030562405356 tw18149265154125412558 tw9338246187142676833 tw3792113130838017312 tw1258886811700329311 tw8045919971145167794 tw11070445687170770617 tw2499085292921226105 tw15141287667525101760 tw8184721005689447540 tw2056664795979109269 tw13846043679495257881 tw12336861481239221937 tw1035514142252851423 tw3063611511716931475 tw86168691761304568 tw7910421549260591804 tw11585659079276391579 tw4407827829278506707 tw13622512137765749003 tw4216200810442605105 tw14606289923597461090
 tw17372435584833663616 tw7027951916976223931:AAI)
open PySem PySem.W PyProof.Rows
local macro_rules| `(tactic|walk_at $s)=>do
 let i (w:xq):Lean.Ident:=Lean.mkIdent w.toName
 let p (f:Lean.Name) (l:xq):ABl (ABC `tactic):=do
  let hs:=(l.splitOn " ").map λx=>x.splitOn ":"
  let h<-hs.mapM fun
   | [w]=>pure (i w)
   |x=> `(?$(i x.head!))
  hs.foldlM (fun
   |t,[w,c]=> `(tactic|($t;case $(i w):ident=>walk_at $(Lean.Syntax.mkStrLit c)))
   |t,_=>pure t) (<- `(tactic|((try dsimp only[L2.KOf]);refine' $(zP (Lean.mkIdent f) h.toArray))))
 match s.getString with
 | "t"=> `(tactic|repeat' first|exact Mi.dZ|exact Mi.bS|exact Mi.gI|exact Mi.eA|exact Paired.nil|refine' Paired.cons ⟨⟨_,rfl⟩,?_⟩ ?_|refine' Paired.cons ?_ ?_|(refine' Mi.bW ?l ?z ?_;(case l=>k_is);(case z=>decide)))
 | "k"=>p `Mi.iF "KX G e:K r:t"
 | "h"=> `(tactic|repeat (first|exact xM|refine' And.intro ⟨_,_,rfl,rfl⟩ ?_))
 | "p"=>p `Mi.dX "KX G e:K l:K hk:h hne:D hp:t"
 | "f"=>p `Mi.Zv "KX G e:K l:K hk:h hne:D hp:q"
 | "q"=> `(tactic|((repeat (refine' Paired.cons ⟨⟨_,rfl⟩,_,rfl,?q⟩ ?_;(case q=>k_is)));exact Paired.nil))
 | "x"=> `(tactic|(dsimp only[L2.KOf];refine' Mi.pd $(i "KX") $(i "G") ?e ?q;(case e=>k_is);(case q=>k_exc)))
 | "m"=>p `Mi.gR "KX G e:K t:M"
 | "M"=> `(tactic|((repeat (refine' Mi.jT ?a ?b ?c ?_;(case a=>k_is);(case b=>kts_exm);(case c=>decide)));exact Mi.all_nil))
 | "z"=>p `PySem.W.mg_none_of "KX G z:K"
 | "a"=>p `Mi.gv "t1:K t2:K t3:R t4:K t5:R t6:R t7:R t8:R t9:R u1:R u2:R u3:D"
 | "K"=> `(tactic|k_is)
 | "D"=> `(tactic|decide)
 | "R"=> `(tactic|rfl)
 |w=> `(tactic|case $(i w):ident=>k_is)
set_option maxRecDepth 100000 in
set_option maxHeartbeats 0 in
theorem PySem.Challenge.cw_sharetrail_k71_a_leader_deed_by_deed_holds : PySem.Challenge.rw_sharetrail_k71_a_leader_deed_by_deed.Holds := by
 w_on;o_law;k_head;(case hw=>w_witness2)
 k_fill
 refine Mi.walk (l:=PySem.Challenge.rw_sharetrail_k71_a_leader_deed_by_deed) rfl rfl (by decide) (by decide) rfl rfl ?F
 case F=>
  intro w mg h KX G
  refine⟨?T,?_⟩
  case T=>
   intro z hz
   rcases List.mem_cons.mp hz with e|hz
   .subst e
    walk_at "a"
   cases hz
  have kM:Mi.QM (L2.KOf KX) mg "ALL" Mi.N9:=by walk_at "k"
  have Ri:Mi.QM (L2.KOf KX) mg "MAKERS" Mi.BS:=by walk_at "k"
  have Kv:Mi.QM (L2.KOf KX) mg "MOST_DEEDS" Mi.Fs:=by walk_at "k"
  have Kt:Mi.QM (L2.KOf KX) mg "MOST_FIRST" Mi.Ea:=by walk_at "k"
  have Js:Mi.QM (L2.KOf KX) mg "MOST_THROWS" Mi.Ey:=by walk_at "k"
  have QB:Mi.QM (L2.KOf KX) mg "NOTHING" Mi.Dy:=by walk_at "k"
  have Jq:Mi.QM (L2.KOf KX) mg "UNLIKE" Mi.Br:=by walk_at "k"
  have KG:Mi.fO (L2.KOf KX) w mg "FORMS" Mi.Em:=by walk_at "p"
  have Qd:Mi.lR w (L2.KOf KX) mg "PARTS" [("partner","is_partner"),("kind","is_kind"),("load","is_load_number"),("number","is_trade_number"),("pieces","are_pieces"),("worths","are_worths"),("share","is_sold_share")]:=by walk_at "f"
  have J4:Mi.XcD (L2.KOf KX) mg "NoDeed":=by walk_at "x"
  have NR:Mi.XcD (L2.KOf KX) mg "NoNumber":=by walk_at "x"
  have Hr:Mi.XcD (L2.KOf KX) mg "TooMany":=by walk_at "x"
  have Jr:Mi.XiR (L2.KOf KX) mg "NotDone" "TrailError" "NotDone.__init__" Mi.EU:=by
   dsimp only[L2.KOf]
   refine' Mi.iK KX G ?j1 ?j2 ?j3 ?jn ?jm ?j5 ?je ?j7 ?j8 ?j9 ?j10 ?j11 ?j12 ?j13 ?jl ?jo ?jc ?jk
   walk_at "j1"
   walk_at "j2"
   walk_at "j3"
   walk_at "jn"
   (case jm=>simp)
   walk_at "j5"
   (case je=>k_exc)
   walk_at "j7"
   walk_at "j8"
   walk_at "j9"
   walk_at "j10"
   walk_at "j11"
   walk_at "j12"
   walk_at "j13"
   walk_at "jl"
   (case jo=>rfl)
   walk_at "jc"
   walk_at "jk"
  have Jk:Mi.XmD (L2.KOf KX) mg ["NoDeed","NotDone","TooMany","NoNext","NothingDone"] "NoDeed":=by walk_at "m"
  have J3:Mi.XmD (L2.KOf KX) mg ["NoDeed","NotDone","TooMany","NoNext","NothingDone"] "NoNext":=by walk_at "m"
  have Hi:Mi.XmD (L2.KOf KX) mg ["NoDeed","NotDone","TooMany","NoNext","NothingDone"] "NotDone":=by walk_at "m"
  have Dv:Mi.XmD (L2.KOf KX) mg ["NoDeed","NotDone","TooMany","NoNext","NothingDone"] "NothingDone":=by walk_at "m"
  have HV:Mi.XmD (L2.KOf KX) mg ["NoDeed","NotDone","TooMany","NoNext","NothingDone"] "TooMany":=by walk_at "m"
  have Ap:Mi.ClD (L2.KOf KX) "Leader" ["kept","earlier"]:=by
   dsimp only[L2.KOf]
   refine' Mi.hV ?oa ?ob ?oc ?od ?oe ?on
   walk_at "oa"
   walk_at "ob"
   walk_at "oc"
   walk_at "od"
   walk_at "oe"
   case on=>
    refine' Mi.WM ?nh ?nt
    (case nh=>k_is)
    case nt=>
     refine' Mi.WM ?nh ?nt
     (case nh=>k_is)
     case nt=>
      exact Mi.iz
  have Bp:Mi.MkS (L2.KOf KX) mg "Leader" "Leader.__init__" Mi.Bp:=by
   dsimp only[L2.KOf]
   refine' Mi.jR KX G ?ma ?mb ?mc ?md ?me ?ml ?mo ?mk
   walk_at "ma"
   walk_at "mb"
   walk_at "mc"
   walk_at "md"
   walk_at "me"
   walk_at "ml"
   walk_at "mo"
   walk_at "mk"
  have A6:Mi.MeS (L2.KOf KX) "Leader" "turn_to" "Leader.turn_to" Mi.A6:=by
   dsimp only[L2.KOf]
   refine' Mi.R7 Ap ?ma ?mb ?mc ?ml ?mo ?mk
   walk_at "ma"
   walk_at "mb"
   walk_at "mc"
   walk_at "ml"
   walk_at "mo"
   walk_at "mk"
  have Bj:Mi.MeS (L2.KOf KX) "Leader" "do" "Leader.do" Mi.Bj:=by
   dsimp only[L2.KOf]
   refine' Mi.R7 Ap ?ma ?mb ?mc ?ml ?mo ?mk
   walk_at "ma"
   walk_at "mb"
   walk_at "mc"
   walk_at "ml"
   walk_at "mo"
   walk_at "mk"
  have Ba:Mi.MeS (L2.KOf KX) "Leader" "book" "Leader.book" Mi.Ba:=by
   dsimp only[L2.KOf]
   refine' Mi.R7 Ap ?ma ?mb ?mc ?ml ?mo ?mk
   walk_at "ma"
   walk_at "mb"
   walk_at "mc"
   walk_at "ml"
   walk_at "mo"
   walk_at "mk"
  have BB:Mi.MeS (L2.KOf KX) "Leader" "theirs" "Leader.theirs" Mi.BB:=by
   dsimp only[L2.KOf]
   refine' Mi.R7 Ap ?ma ?mb ?mc ?ml ?mo ?mk
   walk_at "ma"
   walk_at "mb"
   walk_at "mc"
   walk_at "ml"
   walk_at "mo"
   walk_at "mk"
  have z_abs:mg "abs"=none:=by walk_at "z"
  have z_all:mg "all"=none:=by walk_at "z"
  have z_bool:mg "bool"=none:=by walk_at "z"
  have z_enumerate:mg "enumerate"=none:=by walk_at "z"
  have z_int:mg "int"=none:=by walk_at "z"
  have z_isinstance:mg "isinstance"=none:=by walk_at "z"
  have z_len:mg "len"=none:=by walk_at "z"
  have z_list:mg "list"=none:=by walk_at "z"
  have z_min:mg "min"=none:=by walk_at "z"
  have z_range:mg "range"=none:=by walk_at "z"
  have z_sorted:mg "sorted"=none:=by walk_at "z"
  have z_str:mg "str"=none:=by walk_at "z"
  have z_sum:mg "sum"=none:=by walk_at "z"
  have z_tuple:mg "tuple"=none:=by walk_at "z"
  have z_zip:mg "zip"=none:=by walk_at "z"
  refine⟨⟨z_abs,z_all,z_bool,z_enumerate,z_int,z_isinstance,z_len,z_list,z_min,z_range,z_sorted,z_str,z_sum,z_tuple,z_zip⟩,kM,Ri,Kv,Kt,Js,QB,Jq,KG,Qd,J4,NR,Hr,Jr,Jk,J3,Hi,Dv,HV,Ap,Bp,A6,Bj,Ba,BB,?_,?_,?_,?_,?_,?_,?_,?_,?_,?_,?_,?_,?_,?_,?_,?_,?_,?_,?_,?_,?_,?_,?_,?_,?_,?_,?_,?_,?_,?_,?_,?_,?_,?_,?_,?_,?_,?_,?_,?_,?_,?_,?_,?_,?_,?_,?_,?_,?_,?_,?_,?_,?_,?_,?_,?_,?_,?_,?_,?_,?_,?_,?_,?_,?_,?_,?_,?_,?_,?_,?_,?_,?_,?_,?_,?_,?_,?_,?_,?_,?_,?_,?_,?_,?_,?_,?_,?_,?_,?_,?_,?_,?_⟩
  all_goals (refine' Mi.js KX G ?a ?l ?c ?k;(case a=>k_is);(case l=>k_is);(case c=>k_is);(case k=>k_is))
end
