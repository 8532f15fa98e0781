import PyProof.Rows.All
import Wide.All
import OpenK.AllK
import Wide.FinOn
import Lean
import PyProof.EqAt
import PyProof.EqKinds
import PyProof.TupleCall
import PyProof.Draws
import PyProof.EnumMake
import PyProof.EnumFor
import PyProof.ZipIter
import PyProof.ListMulRoad
import PyProof.NeData
import PyProof.SumWalkG
import KE.KSortedM
import KE.KItemsList
import PyProof.ExcInit
import PyProof.InstStoreFacts
import PyProof.RulesAs
import PySem.Challenge.RW_sharetrail_k71_a_leader_deed_by_deed
set_option Elab.async false
set_option linter.all false
set_option maxRecDepth 100000
set_option maxHeartbeats 4000000
set_option exponentiation.threshold 10000
set_option compiler.extract_closed false
open _root_ renaming List->Wp,Option->uS,of_decide_eq_true->uu,if_neg->vC,if_pos->vD,decide_eq_true_eq->vW,Bool->va,beq_eq_false_iff_ne->vc,or_false->ve,False->wI,beq_iff_eq->wJ,decide_eq_true->xP,String->yE,decide_eq_false->yJ,Array->ym,if_true->zZ,True->AAF,if_false->AAK,not_or->AAl,beq_self_eq_true->AAv,decide_eq_true_iff->ACE,autoParam->zn
open Array renaming getElem?_eq_some_iff->xU,getElem?_setIfInBounds_ne->zP,length_toList->zv,find?_toList->AB1
open Bool renaming and_eq_true->uc,false_ne_true->vZ,or_eq_true->vw,eq_iff_iff->wg,noConfusion->wt,or_eq_true_iff->xG,not_eq_true'->xo,and_false->AAO,false_eq_true->AB7
open False renaming elim->vY
open ForInStep renaming yield->zm
open Int renaming toNat_of_nonneg->vh,mul_pos->vz,natAbs_natCast->wu,emod_nonneg->xh,toNat_natCast->xj,natAbs_mul->yB,emod_lt_of_pos->yH,mul_le_mul_of_nonneg_right->zX,lt_of_lt_of_le->AAX,mul_ediv_cancel_left->AAm,natCast_mul->ABG
open Lean renaming mkIdent->AA8
open Lean.Syntax renaming mkApp->AAf
open List renaming getElem?_eq_getElem->uT,getElem?_append_left->uU,getElem?_set_ne->uW,mem_cons_of_mem->uX,mem_cons->uZ,getElem?_eq_some_iff->ua,getElem?_set_self->ui,mem_cons_self->um,getElem?_map->uo,replicate->uq,size_toArray->ur,not_mem_nil->uv,mem_of_getElem?->uw,map_cons->ux,getElem?_concat_length->uz,getD_eq_getElem?_getD->u4,range->u7,mem_append->vE,length_cons->vH,getElem?_append_right->vJ,nil_append->vK,length_map->vO,drop_eq_getElem_cons->vQ,mem_singleton->vR,mem_map->vT,lookup_cons->vU,cons_append->vV,mem_append_right->vX,filterMap_cons->vd,prefix_rfl->vk,lookup->vm,length_append->vq,append_nil->vv,drop_eq_nil_of_le->v5,map_map->wD,map_nil->wG,replicate_succ->wK,length_set->wV,map_append->wW,of_mem_zip->we,sum_cons->wx,nodup_cons->xE,any_cons->xK,prefix_append->xT,contains_cons->xV,mem_iff_getElem?->xW,mem_or_eq_of_mem_set->xY,find?_cons->xf,length_nil->xg,flatten_cons->xl,getElem_mem->yD,map_set->yI,mem_filter->yK,all_cons->yM,length_filter_le->yR,getElem?_inj->yV,nodup_append->yW,length->yZ,take_length->yf,getElem?_zip_eq_some->yi,getElem?_range->yl,map_take->yt,lookup_append->yv,getElem?_replicate->yz,append_assoc->zH,take_of_length_le->zJ,mem_range'_1->zN,length_take->zS,mem_append_left->zd,getElem?_zipWith_eq_some->zk,zipWith->z9,mem_range->AAG,mapM_cons->AAR,getElem_range->AAU,ext_getElem?->AAh,getElem?_take_of_lt->AAi,length_drop->AAs,ext_getElem->AAy,forIn_cons->ABF,length_singleton->ABM,set_append_right->ABO,getElem?_eq_none->ABP,forIn_nil->ABT,take_succ->ABW,drop_eq_nil_iff->ABY,set_append_left->ABe,mem_of_mem_take->ABf,length_pos_iff->ABn,mem_filterMap->AB0,foldl->AB5
open List.MergeSort.Internal renaming splitInTwo->ACD
open Nat renaming lt_of_lt_of_le->uV,le_trans->ub,le_refl->ue,ne_of_lt->vF,lt_of_le_of_lt->vM,pow_le_pow_right->vN,mul_le_mul_right->vf,lt_irrefl->v9,zero_le->wM,le_succ_of_le->xC,lt_or_ge->xp,mul_comm->yG,le_of_succ_le->yU,pos_of_ne_zero->yw,le_of_lt->y8,ne_of_gt->y9,min_eq_left->zu,gcd->z8,mul_le_mul->AAV,one_lt_two_pow->AAW,le_succ->AAb,mul_pos->AAg,mul_assoc->AAn,lt_succ_self->AAp,add_comm->AA5,gcd_comm->AA9,pow_succ->ABA,mul_le_mul_left->ABu
open Ne renaming symm->vi
open Option renaming some->Gc,map_eq_some_iff->xH,bind_some->AAx,map->AB9
open Option.some renaming inj->wU
open PyProof.Rows renaming envOfC->u5,slot_tuple_getitem->vg,callWith_type1->yS,joinParts_cons->yY,IntsAre->yo,AllBare->yx,assignInOrder_cons->AAH,subscriptTail_builtinR->AA3,entry_tuple_getitem->ABk,args_tuple_getitem->AB4,formatField_int_small->ACB
open PyProof.Rows.IsTup renaming new->yj
open PySem renaming wpAny_bind->uQ,Value->uY,starEach->uf,Addr->ug,wpAny_pure->uh,Shared->uj,Stmt->vI,mem_of_lookup->vS,Program->vb,Expr->vj,wpAny_mono->vp,Heap->vt,wpAny_holding->vx,wpAny_Call_Name_kw->wF,World->wH,wpAny_field->wN,wpAny_callSpecial?_slot->wX,Scope->wY,wpAny_pyIter_list->wc,wpAny_call_entry->wm,wpAny_pyIter_tuple->wq,Around->w9,wpAny_truthy_bool->xA,wpAny_newObj_type->xB,wpAny_standAt->xI,sizeLine_eq->xJ,wpAny_setField_rec->xS,wpAny_passesOwn->xZ,wpAny_call->xt,IsPair->xv,wpAny_execs_cons->xy,wpAny_setField->x8,wpAny_getItem_str_slice->x9,wpAny_loadPart_at->yX,wpAny_seqItems->ya,codeAny_mono->yd,wpAny_binaryOp_repeat_ref->yh,ExceptHandler->yq,strLen_append->yr,wpAny_execs_nil->yu,DictEntry->y7,wpAny_pyNext_list_item->zA,FuncData->zD,Builtin->zI,plainObj_wpAny_Assign_Attribute->zO,wpAny_pyNext_list_end->zQ,typeIs_int->zT,call_meets->zU,wpAny_updateSeq_pair->zf,codeAny_call_builtin->zg,boot_len->zh,post_val_or_str->zt,wpAny_newFunctionEnv_cells->AAJ,IsZip->AAP,wpAny_Return_some->AAZ,Keyword->AAc,wpAny_comprehension_free->AAj,wpAny_onRaise->AAk,NameKind->AAq,noFill_tuple_add->AAr,wpAny_rule->AA0,IsPart->AA1,wpAny_typeOf->AA2,typeIs_str->AA4,wpAny_pyIter_listiter->ABJ,codeAny_call_function->ABK,codeAny_handlers_test->ABN,wpAny_letGo->ABU,intBits_le_iff->ABX,wpAny_newFunctionEnv->ABa,wpAny_Tuple_spliced->ABj,wpAny_handleBy_cons->ABp,wpAny_isSubtype_exc->ABr,seq_tuple_add->ABv,wpAny_attempt->ABw
open PySem.Around renaming frames_deeper->ABR
open PySem.AutoSeq1 renaming wpAny_loadPart'->vA
open PySem.Builtin.List renaming listTooLong->wO
open PySem.Builtin.ObjectAttr renaming storeInDict->zW
open PySem.Builtin.Slice renaming slicePlaces->xX,sliceAdjust->yg,sliceApplied->AAL
open PySem.Builtin.SmallTypes renaming nextOf->vP,ownedTupleIsFree->wQ,ownedTupleHandOut->yk
open PySem.Builtin.Tuple renaming tupleExact->xu,tupleItemsOf->AAM,tupleTooMany->AAQ
open PySem.Calls renaming spliced_cons->xF,Name_function_global->xM,evalArgs_plain->xk,loadGlobal_global->yy,callWith_builtin->zG,spliced_nil->zy
open PySem.Challenge renaming pw_sharetrail_k71_a_leader_deed_by_deed->zl
open PySem.Code renaming quiet_builtin->ACA
open PySem.EntryCells renaming newEntry->ABo
open PySem.F renaming slot_tuple_iterator_next->xR,slot_str_getitem->xw,excBase_ValueError->yA,slot_int_rmul->yL,args_tuple_add_2->yn,entry_tuple_add->y0,slot_tuple_add->zF,slot_dict_get->zR,slot_tuple_mul->zV,args_tuple_iterator_next_1->zo,slot_zip_next->zq,entry_tuple_iterator_next->z6,args_int_rmul_2->AAd,slot_int_index->AAt,entry_int_rmul->AAu,args_dict_get_3->AAw,entry_dict_get->AA6,fills_int_mul->ABE,slot_list_append->ABL,args_list_extend_2->ABS,entry_list_extend->ABl,slot_list_extend->AB6,args_tuple_mul_2->AB8
open PySem.Heap renaming get?_push_of_some->uR,lt_size->uk,get?_push_size->uy,get?_update_other->vo,size_push->v7,get?_update_self->wC,SameBut->yF,IsTuple->z7,ExtBut->AAe,get?_none_of_le->ABQ,IsList->ABV,get?_update_ne->ABt
open PySem.Heap.SameBut renaming update->ABm
open PySem.NameKind renaming free->vy,cell->yN
open PySem.Obj renaming mapFields->wB,isFreed_of_fields->wj,data_mapFields->xQ,mapSeq->AAN
open PySem.PyData renaming strOk->yQ,canLayAll0->zK,depth->AAA,depthAll->ABI
open PySem.SeqAt.EqAt renaming int_str->ABy,str_int->ABz
open PySem.Shared renaming heap->xn
open PySem.Str renaming ofString->u9,ofString_eq_toList->ABB
open PySem.Txt renaming slice_le->AA7
open PySem.Value renaming ref->u6,none->vL,isStrOf->xq,int->AAB,str->AAC,bool->AAD,type->AAE,builtin->ABx
open PySem.W renaming Frag->W1,findIn->vB,nsIn->vG,keepIn->vn,kia_one->v8,emptyDict->wL,mg_of->wR,fnOf->wZ,callWith_K->wk,envX->wy,instObj->xD,kitOne->xO,mroIn->xr,codeIn->x5,clsIn->yO,methodCall_KW->yP,hasDictIn->yT,exmOne->yb,plainGet->yc,excIn->yp,InstAt->zB,specialIn->zC,cellsFrom_some->zE,tabObj->zL,kla_fn->zM,Looks->zc,looks_findIn->ze,KeysLit->zp,plainGet_of->zw,looks_clsIn->zx,isFn->z5,lookIn->AAI,isNs_of_in->AAS,tail_of_in->AAT,methodObj->AAY,plainOver->AAa,handedIn->AAo,OpenLaw->AAz,takerIn->ABC,makesIn->ABD,kla_obj->ABH,kla_callFunE->ABZ,kla_codeExpr->ABb,nsOkIn->ABc,tailIn->ABd,findObj_own->ABi,callWith_F0->ABq,looks_mroIn->ABs,kitx_tuple->AB2,codeRec_of->AB3,check_slot->ACC
open PySem.codeAmong renaming eq_def->ye
open Rat renaming intCast_eq_zero_iff->yC,mul_le_mul_of_nonneg_right->zY
open Sum renaming inl->ABg,inr->ABh
open True renaming intro->xN
theorem x0T(h:True:=by first|exact .inl rfl|exact .inr rfl|assumption):True:=h
def x0:=x0T._auto_1
theorem xzT(h:True:=by decide):True:=h
def xz:=xzT._auto_1
theorem xLT(h:True:=by intro _;rfl):True:=h
def xL:=xLT._auto_1
theorem wwT(h:True:=by rfl):True:=h
def ww:=wwT._auto_1
theorem wvT(h:True:=by intro _; rfl):True:=h
def wv:=wvT._auto_1
theorem wrT(h:True:=by with_unfolding_all rfl):True:=h
def wr:=wrT._auto_1
theorem wpT(h:True:=by exact λ_ _=>rfl):True:=h
def wp:=wpT._auto_1
theorem wnT(h:True:=by first|exact Or.inl rfl|exact Or.inr rfl):True:=h
def wn:=wnT._auto_1
theorem wfT(h:True:=by first|exact .inl rfl|exact .inr rfl):True:=h
def wf:=wfT._auto_1
theorem wTT(h:True:=by first|exact Or.inl rfl|exact Or.inr (Or.inl rfl)|exact Or.inr (Or.inr rfl)):True:=h
def wT:=wTT._auto_1
theorem wST(h:True:=by decide+kernel):True:=h
def wS:=wST._auto_1
theorem wPT(h:True:=by exact λ_ _ _ _ _ _ _=>rfl):True:=h
def wP:=wPT._auto_1
theorem wET(h:True:=by first|decide|lia):True:=h
def wE:=wET._auto_1
theorem v6T(h:True:=by exact rfl):True:=h
def v6:=v6T._auto_1
theorem v4T(h:True:=by first|exact Or.inl rfl|exact Or.inr (Or.inl rfl)):True:=h
def v4:=v4T._auto_1
theorem u8T(h:True:=by intro _ _ _ _;rfl):True:=h
def u8:=u8T._auto_1
open PyProof.Rows (boot_isinstance boot_int boot_bool boot_tuple boot_str boot_list boot_abs boot_all boot_any boot_sum boot_max boot_min boot_range boot_enumerate boot_zip boot_sorted boot_set boot_divmod)
noncomputable section
namespace L2
open PySem PySem.Spec PyProof.Rows
abbrev Key:=Sum Int Str
noncomputable def Td:Key->uY->va
 | .inl k,v=>Value.isInt k v
 | .inr x,v=>xq x v
noncomputable def tM(w:wH):Key->Int
 | .inl k=>hashInt k
 | .inr x=>hashStr w x
theorem CA:∀{k:Key} {v:uY},Td k v=true->(∃i t,k=ABg i/\v=AAB i t)\/(∃x t,k=ABh x/\v=AAC x t)
 | .inl i,v,h=>by
   obtain⟨t,e⟩:=Value.isInt_shape (k:=i) (v:=v) h
   exact .inl ⟨i,t,rfl,e⟩
 | .inr x,v,h=>by
   obtain⟨t,e⟩:=Value.isStrOf_shape (x:=x) (v:=v) h
   exact .inr ⟨x,t,rfl,e⟩
def UN(i:Int)(t:Tok):Td (.inl i) (.int i t)=true:=by simp[Td,Value.isInt]
def VO(x:Str)(t:Tok):Td (.inr x) (.str x t)=true:=by simp[Td,xq]
def iV(a b:Int):decide ((ABg a:Key)=ABg b)=(a==b):=by
 by_cases e:a=b
 .subst e;simp
 .have h:¬(ABg a:Key)=ABg b:=λq=>e (Sum.inl.inj q)
  rw[yJ h]
  exact(vc.mpr e).symm
def fO(a b:Str):decide ((ABh a:Key)=ABh b)=decide (a=b):=by
 by_cases e:a=b
 .subst e;simp
 .have h:¬(ABh a:Key)=ABh b:=λq=>e (Sum.inr.inj q)
  rw[yJ h,yJ e]
def iq(a:Int)(b:Str):decide ((ABg a:Key)=ABh b)=false:=yJ (λq=>nomatch q)
def gN(a:Str)(b:Int):decide ((ABh a:Key)=ABg b)=false:=yJ (λq=>nomatch q)
noncomputable def Ce(prog:vb)(w:wH):PySem.KeyKind prog w Key where
 is:=Td
 hash:=tM w
 inj:=λv a b ha hb=>by
  rcases CA ha with⟨i,t,rfl,rfl⟩|⟨x,t,rfl,rfl⟩
  .rcases CA hb with⟨j,u,rfl,e⟩|⟨y,u,rfl,e⟩
   .injection e with e1 _;rw[e1]
   .exact nomatch e
  .rcases CA hb with⟨j,u,rfl,e⟩|⟨y,u,rfl,e⟩
   .exact nomatch e
   .injection e with e1 _;rw[e1]
 byValue:=λk v h=>by
  rcases CA h with⟨i,t,rfl,rfl⟩|⟨x,t,rfl,rfl⟩<;>rfl
 pyHash:=λhv h=>by
  rcases CA hv with⟨i,t,rfl,rfl⟩|⟨x,t,rfl,rfl⟩
  .exact wpAny_pyHash_int h
  .exact wpAny_pyHash_str h
 eqBool:=λhu hv h=>by
  rcases CA hu with⟨i,t,rfl,rfl⟩|⟨x,t,rfl,rfl⟩
  .rcases CA hv with⟨j,u,rfl,rfl⟩|⟨y,u,rfl,rfl⟩
   .rw[iV]at h;exact wpAny_eqBool_int h
   .rw[iq]at h;exact ABy i t y u _ _ _ _ h
  .rcases CA hv with⟨j,u,rfl,rfl⟩|⟨y,u,rfl,rfl⟩
   .rw[gN]at h;exact ABz x t j u _ _ _ _ h
   .rw[fO]at h;exact wpAny_eqBool_str h
 «strs» :=λk x t v h=>by
  rcases CA h with⟨i,u,rfl,e⟩|⟨y,u,rfl,e⟩
  .exact nomatch e
  .injection e with e1 _
   subst e1
   cases v<;>rfl
def Q5 prog w(i:Int)(t:Tok):(Ce prog w).is (.inl i) (.int i t)=true:=UN i t
def Qq prog w(x:Str)(t:Tok):(Ce prog w).is (.inr x) (.str x t)=true:=VO x t
end L2
namespace L2
open PySem PySem.Spec PyProof.Rows
inductive V where
 |non|bl (b:va)|int (i:Int)|str (x:Str)|byt (b:ym UInt8)|flt (b:UInt64)|ref (a:ug)|ty (n:yE)
 deriving DecidableEq
def RelV:V->uY->Prop
 | .non,u=>u=vL
 | .bl b,u=>u=AAD b
 | .int i,u=>∃t,u=AAB i t
 | .str x,u=>∃t,u=AAC x t
 | .byt b,u=>∃t,u=Value.bytes b t
 | .flt b,u=>∃t,u=Value.float b t
 | .ref a,u=>u=u6 a
 | .ty n,u=>u=AAE n
abbrev Vals:Wp V->Wp uY->Prop:=Paired RelV
def Vals.length{xs:Wp V}{us:Wp uY}(r:Vals xs us):xs.length=us.length:=Paired.length r
theorem Vals.get:∀{xs} {us} {i:Nat} {x:V},Vals xs us->xs[i]?=Gc x->∃u,us[i]?=Gc u/\RelV x u
 |_,_,_,_,.nil,e=>by simp at e
 |_,_,0,_,.cons r _,e=>by simp at e;subst e;exact⟨_,rfl,r⟩
 |_,_,i+1,x,.cons _ t,e=>by
  obtain⟨u,h1,h2⟩:=Vals.get (i:=i) (x:=x) t (by simpa using e)
  exact⟨u,by simpa using h1,h2⟩
theorem Vals.set(r:RelV x u):∀{xs} {us} i,Vals xs us->Vals (xs.set i x) (us.set i u)
 |_,_,_,.nil=>.nil
 |_,_,0,.cons _ t=>.cons r t
 |_,_,i+1,.cons q t=>.cons q (Vals.set r i t)
theorem Vals.append:∀{xs ys:Wp V} {us ws:Wp uY},Vals xs us->Vals ys ws->Vals (xs++ys) (us++ws)
 |_,_,_,_,.nil,s=>s
 |_,_,_,_,.cons r t,s=>.cons r (Vals.append t s)
theorem Vals.take:∀{xs} {us} (n:Nat),Vals xs us->Vals (xs.take n) (us.take n)
 |_,_,0,_=>.nil
 |_,_,_+1,.nil=>.nil
 |_,_,n+1,.cons r t=>.cons r (Vals.take n t)
theorem Vals.drop:∀{xs} {us} (n:Nat),Vals xs us->Vals (xs.drop n) (us.drop n)
 |_,_,0,r=>r
 |_,_,_+1,.nil=>.nil
 |_,_,n+1,.cons _ t=>Vals.drop n t
def OY:uS V->uS uY->Prop
 |some v,Gc u=>RelV v u
 |none,none=>AAF
 |_,_=>wI
def KV{κ:Type}:Wp (κ×V)->Wp (κ×uY)->Prop:=Paired λ(p:κ×V) (q:κ×uY)=>p.1=q.1/\RelV p.2 q.2
noncomputable def kV:Key->V
 | .inl i=>.int i
 | .inr x=>.str x
inductive HO where
 |lst (xs:Wp V)
 |tup (xs:Wp V)
 |dK (kvs:Wp (Key×V))|dT (kvs:Wp (Wp Key×V))
 |set (S:Int->va) (n:Nat)
 |ins (C dx:ug) (fs:Wp (Str×V))
 |own (x:ug)
 |xd (fs:Wp (Str×V))
 |met (f x:ug)
 |rng (lo hi:Int)
 |frz (o:Obj) (u:HO)
 |tbl (ps:ym uY)
 |ext (φ:vt->Prop)
abbrev Hp:=ug->uS HO
noncomputable def upd(H:Hp)(a:ug)(o:HO):Hp:=λb=>if b=a then Gc o else H b
def AX{o:HO}:upd H a o a=Gc o:=by unfold upd;rw[vD rfl]
def AM{o:HO}(h:b≠a):upd H a o b=H b:=by unfold upd;rw[vC h]
def BB{H:Hp}{o:HO}(h:H a=Gc o)(h':H b=none):a≠b:=by
 intro e;subst e;rw[h]at h';cases h'
section
variable(P:vb)(w:wH)
def CU(H:Hp)(h:vt)(a:ug):HO->Prop
 | .lst xs=>xs.length<=sizeLine/\∃(its:Wp uY) (n:Nat),Vals xs its/\h.get? a=Gc {cls:=.type "list",data:=.seq its.toArray n}
 | .tup xs=>xs.length<=sizeLine/\∃its:Wp uY,Vals xs its/\IsTup h a its.toArray
 | .dK kvs=>kvs.length<=sizeLine/\(a==sysModules)=false/\∃vs,KV kvs vs/\h.DictOf (Ce P w) a vs
 | .dT kvs=>kvs.length<=sizeLine/\(a==sysModules)=false/\∃xs:Wp (Wp Key×ug×uY),
    Paired (λ(p:Wp Key×V) (q:Wp Key×ug×uY)=>p.1=q.1/\H q.2.1=Gc (.tup (p.1.map kV))/\RelV p.2 q.2.2) kvs xs/\
    ∃o es ep,h.get? a=Gc o/\o.ExactDict/\o.data=.dict es ep/\es.toList=xs.map (entryOfKey (tupleKind (Ce P w)))/\(xs.map (·.1)).Nodup
 | .set S n=>h.SetOf (intKind P w) a S n
 | .ins C dx fs=>H dx=Gc (.own a)/\fs.length<=1000/\dx≠a/\h.get? a=Gc (xD C dx)/\
    ∃mA,h.Ns1 dx mA/\(∀f,OY (fs.lookup f) (mA f))/\PySem.Within mA (fs.map (·.1))
 | .own _=>∃o,h.get? a=Gc o
 | .xd fs=>∃mA,h.Ns1 a mA/\∀f,OY (fs.lookup f) (mA f)
 | .rng lo hi=>∃t u v,h.get? a=Gc {cls:=.type "range",data:=.fields #[.int lo t,.int hi u,.int 1 v]}
 | .frz o u=>h.get? a=Gc o/\CU H h a u
 | .tbl ps=>h.get? a=Gc {cls:=.none,data:=.fields ps}
 | .met f x=>h.get? a=Gc (AAY (.ref f) (.ref x))
 | .ext φ=>φ h/\(∃o,h.get? a=Gc o)/\∀h1 h2:vt,φ h1->(∀o,h1.get? a=Gc o->h2.get? a=Gc o)->φ h2
def HOk(H:Hp)(h:vt):Prop:=∀a o,H a=Gc o->CU P w H h a o
end
section
variable{P:vb}{w:wH}{H H':Hp}{h h':vt}{a:ug}{o:HO}
def CU.lt(x:CU P w H h a o):a<h.objs.size:=by
 cases o with
 |lst xs=>obtain⟨_,_,_,_,e⟩:=x;exact uk e
 |tup xs=>obtain⟨_,_,_,p⟩:=x;exact p.lt
 |dK kvs=>obtain⟨_,_,_,_,o,_,_,e,_⟩:=x;exact uk e
 |dT kvs=>obtain⟨_,_,_,_,o,_,_,e,_⟩:=x;exact uk e
 |set S n=>obtain⟨o,_,_,_,e,_⟩:=x;exact uk e
 |ins C dx fs=>obtain⟨_,_,_,e,_⟩:=x;exact uk e
 |own y=>obtain⟨_,e⟩:=x;exact uk e
 |xd fs=>obtain⟨_,⟨_,_,_,e,_⟩,_⟩:=x;exact uk e
 |rng lo hi=>obtain⟨_,_,_,e⟩:=x;exact uk e
 |frz ob u=>obtain⟨e,_⟩:=x;exact uk e
 |tbl ps=>exact uk (show h.get? a=Gc _ from x)
 |met f y=>exact uk (show h.get? a=Gc _ from x)
 |ext φ=>obtain⟨_,⟨_,e⟩,_⟩:=x;exact uk e
theorem Paired.qz{α β:Type}{F G:α->β->Prop}:∀{l₁} {l₂:Wp β},Paired F l₁ l₂->(∀a b,F a b->G a b)->Paired G l₁ l₂
 |_,_,.nil,_=>.nil
 |_,_,.cons r t,f=>.cons (f _ _ r) (Paired.qz t f)
def CU.RL(x:CU P w H h a o)(k:∀b u,(b=a\/H b=Gc (.own a))->h.get? b=Gc u->h'.get? b=Gc u)(ho:∀b,H b=Gc (.own a)->H' b=Gc (.own a))(ht:∀b xs,H b=Gc (.tup xs)->H' b=Gc (.tup xs)):CU P w H' h' a o:=by
 induction o with
 |lst xs=>obtain⟨z,its,n,r,e⟩:=x;exact⟨z,its,n,r,k _ _ (.inl rfl) e⟩
 |tup xs=>obtain⟨z,its,r,ob,e,c⟩:=x;exact⟨z,its,r,ob,k _ _ (.inl rfl) e,c⟩
 |dK kvs=>obtain⟨z,y,vs,r,ob,es,ep,e,c⟩:=x;exact⟨z,y,vs,r,ob,es,ep,k _ _ (.inl rfl) e,c⟩
 |dT kvs=>
  obtain⟨z,y,xs,r,ob,es,ep,e,c⟩:=x
  exact⟨z,y,xs,Paired.qz r λp q z=>⟨z.1,ht _ _ z.2.1,z.2.2⟩,ob,es,ep,k _ _ (.inl rfl) e,c⟩
 |set S n=>obtain⟨ob,es,ep,t,e,c⟩:=x;exact⟨ob,es,ep,t,k _ _ (.inl rfl) e,c⟩
 |ins C dx fs=>
  obtain⟨d,z,ne,e,mA,⟨od,es,ep,e2,c⟩,r⟩:=x
  exact⟨ho _ d,z,ne,k _ _ (.inl rfl) e,mA,⟨od,es,ep,k _ _ (.inr d) e2,c⟩,r⟩
 |own y=>obtain⟨ob,e⟩:=x;exact⟨ob,k _ _ (.inl rfl) e⟩
 |xd fs=>obtain⟨mA,⟨od,es,ep,e,c⟩,r⟩:=x;exact⟨mA,⟨od,es,ep,k _ _ (.inl rfl) e,c⟩,r⟩
 |rng lo hi=>obtain⟨t,u,v,e⟩:=x;exact⟨t,u,v,k _ _ (.inl rfl) e⟩
 |frz ob u ih=>obtain⟨e,q⟩:=x;exact⟨k _ _ (.inl rfl) e,ih q⟩
 |tbl ps=>
  have e:h.get? a=Gc {cls:=.none,data:=.fields ps}:=x
  show h'.get? a=Gc {cls:=.none,data:=.fields ps}
  exact k a _ (.inl rfl) e
 |met f y=>
  have e:h.get? a=Gc (AAY (.ref f) (.ref y)):=x
  show h'.get? a=Gc (AAY (.ref f) (.ref y))
  exact k a _ (.inl rfl) e
 |ext φ=>obtain⟨p,⟨o,e⟩,st⟩:=x;exact⟨st _ _ p λo q=>k _ _ (.inl rfl) q,⟨o,k _ _ (.inl rfl) e⟩,st⟩
def HOk.lt(x:HOk P w H h)(e:H a=Gc o):a<h.objs.size:=(x a o e).lt
def HOk.fresh(x:HOk P w H h)(e:h.objs.size<=a):H a=none:=by
 cases q:H a with
 |none=>rfl
 |some u=>exact absurd (uV (x.lt q) e) (v9 _)
def HOk.kept(x:HOk P w H h)(k:∀b u,h.get? b=Gc u->h'.get? b=Gc u):HOk P w H h':=λa o e=>
 (x a o e).RL (λb u _ q=>k b u q) (λ_ q=>q) λ_ _ q=>q
def HOk.laid(x:HOk P w H h)(k:∀b u,h.get? b=Gc u->h'.get? b=Gc u)(hp:h.objs.size<=a)(new:CU P w (upd H a o) h' a o):HOk P w (upd H a o) h':=λb u e=>by
 have hn:=x.fresh hp
 by_cases hb:b=a
 .subst hb;rw[AX]at e;cases e;exact new
 .rw[AM hb]at e
  exact(x b u e).RL (λc v _ q=>k c v q) (λc q=>by rw[AM (BB q hn)];exact q) λc xs q=>by rw[AM (BB q hn)];exact q
end
def Rd(H:Hp)(a:ug)(u:HO):Prop:=H a=Gc u\/∃o,H a=Gc (.frz o u)
def Rd.ok(r:Rd H a u)(x:HOk P w H h):CU P w H h a u:=by
 rcases r with r|⟨o,r⟩
 .exact x a u r
 .obtain⟨_,q⟩:=x a _ r
  exact q
def Mut:uS HO->Prop
 |some (.lst _)=>AAF
 |some (.dK _)=>AAF
 |some (.dT _)=>AAF
 |some (.set _ _)=>AAF
 |some (.ins _ _ _)=>AAF
 |some (.ext _)=>AAF
 |_=>wI
section
variable{P:vb}{w:wH}{H:Hp}{h h':vt}{x e:ug}{o':HO}
def HOk.write(ok:HOk P w H h)(mu:Mut (H x))(he:e=x\/H e=Gc (.own x))(k:∀b u,b≠e->h.get? b=Gc u->h'.get? b=Gc u)(heo:∃u,h'.get? e=Gc u)(new:CU P w (upd H x o') h' x o'):HOk P w (upd H x o') h':=λb u q=>by
 have nown:∀c y,H c=Gc (.own y)->c≠x:=λc y r z=>by subst z;rw[r]at mu;exact mu
 have ntup:∀c xs,H c=Gc (.tup xs)->c≠x:=λc xs r z=>by subst z;rw[r]at mu;exact mu
 by_cases hb:b=x
 .subst hb;rw[AX]at q;cases q;exact new
 .rw[AM hb]at q
  by_cases hbe:b=e
  .have q':H b=Gc (.own x):=by
    rcases he with z|z
    .exact absurd (hbe.trans z) hb
    .rw[hbe];exact z
   rw[q]at q';cases q'
   obtain⟨v,hv⟩:=heo
   exact⟨v,by rw[hbe];exact hv⟩
  .refine(ok b u q).RL (λc v hc r=>k c v ?_ r) (λc r=>by rw[AM (nown c b r)];exact r) λc xs r=>by rw[AM (ntup c xs r)];exact r
   rcases hc with rfl|hc
   .exact hbe
   .rintro rfl
    rcases he with z|z
    .exact nown c b hc z
    .rw[hc]at z;cases z;exact hb rfl
end
structure Un(fs ex:Wp ug)(H H':Hp)(h h':vt):Prop where
 keep:∀b o,h.get? b=Gc o->H b=none->b∉fs->b∉ex->h'.get? b=Gc o
 slot:∀b o,h.get? b=Gc o->H b=none->b∈fs->b∉ex->∃sl,h'.get? b=Gc {o with slots:=sl}
 free:∀b o,h.get? b=Gc o->H b=none->b∉ex->H' b=none
 there:∀b o,h.get? b=Gc o->b∉ex->∃o',h'.get? b=Gc o'
 Tz:∀b xs,H b=Gc (.tup xs)->H' b=Gc (.tup xs)
 Rj:∀b o u,H b=Gc (.frz o u)->H' b=Gc (.frz o u)
 Tj:∀b ps,H b=Gc (.tbl ps)->∃more,H' b=Gc (.tbl (ps++more))
section
variable{fs fs' ex ex':Wp ug}{H H1 H2:Hp}{h h1 h2 h':vt}{a x e:ug}{o:HO}
def Un.any(u:Un fs ex H H1 h h1){b:ug}{ob:Obj}(q:h.get? b=Gc ob)(n:H b=none)(hx:b∉ex):∃sl,h1.get? b=Gc {ob with slots:=sl}:=by
 by_cases hb:b∈fs
 .exact u.slot b ob q n hb hx
 .exact⟨ob.slots,u.keep b ob q n hb hx⟩
def Un.kept(k:∀b u,h.get? b=Gc u->h'.get? b=Gc u):Un fs ex H H h h':=
 ⟨λb ob q _ _ _=>k b ob q,λb ob q _ _ _=>⟨ob.slots,k b ob q⟩,λ_ _ _ n _=>n,λb ob q _=>⟨ob,k b ob q⟩,λ_ _ q=>q,λ_ _ _ q=>q,λ_ ps q=>⟨#[],by rw[q];simp⟩⟩
def Un.refl:Un fs ex H H h h:=Un.kept λ_ _ q=>q
theorem Un.laid(k:∀b u,h.get? b=Gc u->h'.get? b=Gc u)(hp:h.objs.size<=a)(hn:H a=none):Un fs ex H (upd H a o) h h' where
 keep:=λb u q _ _ _=>k b u q
 slot:=λb u q _ _ _=>⟨u.slots,k b u q⟩
 free:=λb u q n _=>by rw[AM (vF (uV (uk q) hp))];exact n
 there:=λb u q _=>⟨u,k b u q⟩
 Tz:=λb xs q=>by rw[AM (BB q hn)];exact q
 Rj:=λb u xs q=>by rw[AM (BB q hn)];exact q
 Tj:=λb ps q=>⟨#[],by rw[AM (BB q hn),q];simp⟩
def Un.write(mu:Mut (H x))(he:e=x\/H e=Gc (.own x))(k:∀b u,b≠e->h.get? b=Gc u->h'.get? b=Gc u)(heo:∃u,h'.get? e=Gc u):Un fs ex H (upd H x o) h h':=by
 have hx:∀b,H b=none->b≠x:=λb n z=>by subst z;rw[n]at mu;exact mu
 have hb:∀b,H b=none->b≠e:=λb n z=>by
  subst z
  rcases he with r|r
  .exact hx b n r
  .rw[n]at r;cases r
 have hm:∀b u,H b=Gc u->¬Mut (Gc u)->b≠x:=λb u q nm z=>by subst z;rw[q]at mu;exact nm mu
 refine⟨λb u q n _ _=>k b u (hb b n) q,λb u q n _ _=>⟨u.slots,k b u (hb b n) q⟩,λb u q n _=>by rw[AM (hx b n)];exact n,λb u q _=>?_,
  λb xs q=>by rw[AM (hm b _ q λz=>z)];exact q,λb u xs q=>by rw[AM (hm b _ q λz=>z)];exact q,λb ps q=>⟨#[],by rw[AM (hm b _ q λz=>z),q];simp⟩⟩
 by_cases hbe:b=e
 .subst hbe;exact heo
 .exact⟨u,k b u hbe q⟩
end
noncomputable def trk(h:vt)(H:Hp):Wp ug:=(u7 h.objs.size).filter λa=>(H a).isSome
noncomputable def Wr(h:vt)(H:Hp):vt:=PySem.W.hideAll h (trk h H)
def WR(h:vt)(H:Hp):(Wr h H).objs.size=h.objs.size:=PySem.W.hideAll_size _ _
def Xf{o:Obj}(e:h.get? b=Gc o)(n:H b=none):(Wr h H).get? b=Gc o:=
 PySem.W.hideAll_get _ e λhm=>by
  have q:(H b).isSome=true:=(yK.mp hm).2
  rw[n]at q;simp at q
def Z6{o:Obj}(e:(Wr h H).get? b=Gc o):h.get? b=Gc o/\H b=none:=by
 have e':h.get? b=Gc o:=PySem.W.of_hideAll (trk h H) e
 refine⟨e',?_⟩
 cases q:H b with
 |none=>rfl
 |some x=>
  have hm:b∈trk h H:=yK.mpr ⟨AAG.mpr (uk e'),by simp[q]⟩
  have z:(Wr h H).get? b=none:=PySem.W.hideAll_none (trk h H) hm
  rw[z]at e;cases e
noncomputable def dQ(g h:vt)(L:ug):Wp (ug×Obj):=(u7 h.objs.size).filterMap λa=>if a=L\/(g.get? a).isSome=true then none else(h.get? a).map λo=>(a,o)
noncomputable def rest(g h:vt)(L d:ug):Wp (ug×Obj):=(dQ g h L).filter λp=>decide (p.1≠d)
end L2
namespace L2
open PySem PySem.Spec PyProof.Rows
structure Mod(K:W1)(mg:Str->uS uY)(base:vt):Prop where
 kin:K.In base
 glob:base.Ns mainGlobals mg
 blt:∃mb,base.Ns builtinsNs mb/\∀x:Str,x≠ "__name__"->mb x=bootBuiltins x
 nolimit:base.NoLimit
structure Cx where
 prog:vb
 w:wH
 K:W1
 mg:Str->uS uY
 base:vt
 A:w9
 N:Wp Str
 s₀:uj
 H₀:Hp
 env:Env
 outer:Wp Env
 stack:Wp Env
 ex:Wp ug
 fn:Str->va
 calm:va
 pn:Wp (ug×Obj)
 xe:uY->uj->Prop
noncomputable def frs(l:Wp Env):Wp ug:=l.filterMap (·.frame)
abbrev Cx.fs(X:Cx):Wp ug:=frs X.outer
def Vis(sc:wY)(x:Str):Prop:=sc.names.lookup x=Gc .local\/sc.names.lookup x=Gc .cell\/sc.names.lookup x=Gc .free
def Loc(sc:wY)(x:Str):Prop:=sc.names.lookup x=Gc .local\/sc.names.lookup x=Gc .cell
def Look(env:Env)(h:vt)(m:Str->uS uY)(x:Str)(u:uY):Prop:=
 (env.kindOf x=Gc .local/\m x=Gc u)\/((env.kindOf x=Gc .cell\/env.kindOf x=Gc .free)/\∃c,env.cells.lookup x=Gc c/\h.IsCell c (Gc u))
structure Cx.Ok(X:Cx):Prop where
 mod:Mod X.K X.mg X.base
 kind:X.env.scope.kind=.function
 glob:X.env.globals=mainGlobals
 blt:X.env.builtins=builtinsNs
 above:X.s₀.heap.objs.size<=X.env.locals
 inj:∀x y c,X.env.cells.lookup x=Gc c->X.env.cells.lookup y=Gc c->x=y
 has:∀x,(X.env.kindOf x=Gc .cell\/X.env.kindOf x=Gc .free)->∃c,X.env.cells.lookup x=Gc c
 cab:∀x c,X.fn x=true->X.env.cells.lookup x=Gc c->X.s₀.heap.objs.size<=c
 hd:X.calm=true->X.A.handled=none
 frames:X.A.frames=Gc X.stack
 stk:X.stack=X.outer\/(X.stack=X.env::X.outer/\X.env.frame=Gc X.env.locals)
 exf:∀b∈X.ex,b≠X.env.locals/\∀x c,X.env.cells.lookup x=Gc c->c≠b
 bs:∀b o,X.base.get? b=Gc o->X.s₀.heap.get? b=Gc o/\X.H₀ b=none
 bsz:X.base.objs.size<=X.s₀.heap.objs.size
 ZG:∀b o,X.base.get? b=Gc o->b∉X.ex
 az:∀b∈X.ex,b∉X.fs
 QO:X.s₀.heap.FunFrames X.base X.outer
 frf:∀b∈X.fs,X.H₀ b=none
structure Inv(X:Cx)(pins:Wp (ug×Obj))(σ:Wp (uS V))(H:Hp)(s:uj):Prop where
 ok:X.Ok
 os:s.os=X.s₀.os
 bare:yx s.gens
 base:Un X.fs X.ex X.H₀ H X.s₀.heap s.heap
 loc:∃m,s.heap.Ns X.env.locals m/\∀(i:Nat) (x:Str) (v:V),X.N[i]?=Gc x->σ[i]?=Gc (Gc v)->Vis X.env.scope x->∃u,RelV v u/\Look X.env s.heap m x u
 cell:∀x c,X.env.cells.lookup x=Gc c->∃v,s.heap.IsCell c v
 free:H X.env.locals=none
 H0:∀x c,X.env.cells.lookup x=Gc c->H c=none
 pin:∀p∈X.pn++pins,s.heap.get? p.1=Gc p.2/\H p.1=none/\p.1≠X.env.locals/\p.1∉X.fs/\∀v,p.2.data≠.cell v
 hok:HOk X.prog X.w H s.heap
 len:σ.length=X.N.length
section
variable{X:Cx}{pins:Wp (ug×Obj)}{σ:Wp (uS V)}{H H':Hp}{s:uj}{h':vt}
def Cx.Ok.tQ(ok:X.Ok){b:ug}{o:Obj}(e:X.base.get? b=Gc o):b∉X.fs:=λhb=>by
 have:=(ok.QO.mem hb).1
 rw[e]at this;cases this
def Inv.bs(I:Inv X pins σ H s):∀b o,X.base.get? b=Gc o->s.heap.get? b=Gc o/\H b=none:=λb o e=>
 ⟨I.base.keep b o (I.ok.bs b o e).1 (I.ok.bs b o e).2 (I.ok.tQ e) (I.ok.ZG b o e),I.base.free b o (I.ok.bs b o e).1 (I.ok.bs b o e).2 (I.ok.ZG b o e)⟩
def Inv.bk(I:Inv X pins σ H s):∀b o,X.base.get? b=Gc o->s.heap.get? b=Gc o:=λb o e=>(I.bs b o e).1
def Inv.mod(I:Inv X pins σ H s):Mod X.K X.mg X.base:=I.ok.mod
def Inv.kIn(I:Inv X pins σ H s):X.K.In s.heap:=I.ok.mod.kin.keeps I.bk
def Inv.nolimit(I:Inv X pins σ H s):s.heap.NoLimit:=I.ok.mod.nolimit.keeps I.bk
def Inv.lt(I:Inv X pins σ H s):X.env.locals<s.heap.objs.size:=let⟨_,hn,_⟩:=I.loc;hn.lt
def Inv.sz(I:Inv X pins σ H s):X.s₀.heap.objs.size<=s.heap.objs.size:=ub I.ok.above (y8 I.lt)
def Inv.sD(I:Inv X pins σ H s){a:ug}(h:s.heap.objs.size<=a):a∉X.fs:=λhb=>by
 obtain⟨_,o,ho,_⟩:=I.ok.QO.mem hb
 exact absurd (uV (uk ho) (ub I.sz h)) (v9 _)
def Inv.cne(I:Inv X pins σ H s):∀x c,X.env.cells.lookup x=Gc c->c≠X.env.locals:=λx c e z=>by
 obtain⟨v,o,ho,hd⟩:=I.cell x c e
 obtain⟨m,⟨o',es,ep,ho',hd',_⟩,_⟩:=I.loc
 rw[z,ho']at ho;cases ho;rw[hd']at hd;cases hd
def Inv.QO(I:Inv X pins σ H s):s.heap.FunFrames X.base X.outer:=by
 have all:∀(l:Wp Env),(∀b∈frs l,b∈X.fs)->X.s₀.heap.FunFrames X.base l->s.heap.FunFrames X.base l:=by
  intro l
  induction l with
  |nil=>intro _ _;trivial
  |cons env r ih=>
   intro hs hl
   obtain⟨hk,⟨L,o,hf,hn,ho,hd⟩,hr⟩:=hl
   have hL:L∈X.fs:=hs L (by unfold frs;rw[vd,hf];exact um)
   obtain⟨sl,e⟩:=I.base.slot L o ho (I.ok.frf L hL) hL λz=>I.ok.az L z hL
   exact⟨hk,⟨L,_,hf,hn,e,hd⟩,ih (λb hb=>hs b (by unfold frs;rw[vd,hf];exact uX _ hb)) hr⟩
 exact all X.outer (λ_ hb=>hb) I.ok.QO
def Inv.stack(I:Inv X pins σ H s):s.heap.FunFrames X.base X.stack:=by
 rcases I.ok.stk with e|⟨e,hf⟩
 .rw[e];exact I.QO
 .rw[e]
  obtain⟨m,hn,_⟩:=I.loc
  refine .cons (by rw[I.ok.kind];decide) hf hn ?_ I.QO
  exact ABQ (ub I.ok.bsz I.ok.above)
def Inv.VT(I:Inv X pins σ H s):∀b∈frs X.stack,b∈X.env.locals::X.fs:=λb hb=>by
 rcases I.ok.stk with e|⟨e,hf⟩
 .rw[e]at hb;exact uX _ hb
 .rw[e]at hb
  unfold frs at hb
  rw[vd,hf]at hb
  exact hb
def Inv.Q1(I:Inv X pins σ H s):∀b∈frs X.stack,H b=none:=λb hb=>by
 rcases uZ.mp (I.VT b hb)with e|hb
 .rw[e];exact I.free
 .obtain⟨_,o,ho,_⟩:=I.ok.QO.mem hb
  exact I.base.free b o ho (I.ok.frf b hb) λz=>I.ok.az b z hb
def Inv.step{ch:Wp ug}(I:Inv X pins σ H s)(hch:∀b∈ch,(b∈X.ex\/X.s₀.heap.objs.size<=b)/\b≠X.env.locals/\(∀x c,X.env.cells.lookup x=Gc c->c≠b)/\∀p∈X.pn++pins,p.1≠b)(keep:∀b o,b≠X.env.locals->b∉X.fs->b∉ch->s.heap.get? b=Gc o->H b=none->h'.get? b=Gc o)(slot:∀b o,b≠X.env.locals->b∈X.fs->b∉ch->s.heap.get? b=Gc o->H b=none->∃sl,h'.get? b=Gc {o with slots:=sl})(free:∀b o,b∉ch->s.heap.get? b=Gc o->H b=none->H' b=none)(there:∀b o,b∉ch->s.heap.get? b=Gc o->∃o',h'.get? b=Gc o')(Tz:∀b xs,H b=Gc (.tup xs)->H' b=Gc (.tup xs))(Rj:∀b o u,H b=Gc (.frz o u)->H' b=Gc (.frz o u))(Tj:∀b ps,H b=Gc (.tbl ps)->∃more,H' b=Gc (.tbl (ps++more)))(ns:∀m,s.heap.Ns X.env.locals m->h'.Ns X.env.locals m)(hok:HOk X.prog X.w H' h')(hg:yx g'):Inv X pins σ H' {s with heap:=h',gens:=g',drawn:=d',toks:=t'}:=by
 have neL:∀b o,X.s₀.heap.get? b=Gc o->b≠X.env.locals:=λb o e=>vF (uV (uk e) I.ok.above)
 have neC:∀b o,X.s₀.heap.get? b=Gc o->b∉X.ex->b∉ch:=λb o e hx hb=>by
  rcases(hch b hb).1 with z|z
  .exact hx z
  .exact absurd (uV (uk e) z) (v9 _)
 have cellK:∀x c,X.env.cells.lookup x=Gc c->∀v,s.heap.IsCell c v->h'.IsCell c v:=λx c e v ⟨o,ho,hd⟩=>by
  have nch:c∉ch:=λz=>(hch c z).2.2.1 x c e rfl
  by_cases hc:c∈X.fs
  .obtain⟨sl,q⟩:=slot c o (I.cne x c e) hc nch ho (I.H0 x c e)
   exact⟨_,q,hd⟩
  .exact⟨o,keep c o (I.cne x c e) hc nch ho (I.H0 x c e),hd⟩
 refine⟨I.ok,I.os,hg,⟨λb o e n hb hx=>?_,λb o e n hb hx=>?_,λb o e n hx=>?_,λb o e hx=>?_,λb xs e=>Tz b xs (I.base.Tz b xs e),λb o xs e=>Rj b o xs (I.base.Rj b o xs e),λb ps e=>?_⟩,?_,λx c e=>?_,?_,λx c e=>?_,λp hp=>?_,hok,I.len⟩
 .exact keep b o (neL b o e) hb (neC b o e hx) (I.base.keep b o e n hb hx) (I.base.free b o e n hx)
 .obtain⟨sl,e1⟩:=I.base.slot b o e n hb hx
  obtain⟨sl',e2⟩:=slot b _ (neL b o e) hb (neC b o e hx) e1 (I.base.free b o e n hx)
  exact⟨sl',e2⟩
 .obtain⟨o',e1⟩:=I.base.there b o e hx
  exact free b o' (neC b o e hx) e1 (I.base.free b o e n hx)
 .obtain⟨o',e1⟩:=I.base.there b o e hx
  exact there b o' (neC b o e hx) e1
 .obtain⟨m1,e1⟩:=I.base.Tj b ps e
  obtain⟨m2,e2⟩:=Tj b _ e1
  exact⟨m1++m2,by rw[e2,Array.append_assoc]⟩
 .obtain⟨m,hn,hl⟩:=I.loc
  refine⟨m,ns m hn,λi x v e1 e2 e3=>?_⟩
  obtain⟨u,r,l⟩:=hl i x v e1 e2 e3
  refine⟨u,r,?_⟩
  rcases l with l|⟨k,c,e,z⟩
  .exact .inl l
  .exact .inr ⟨k,c,e,cellK x c e _ z⟩
 .obtain⟨v,z⟩:=I.cell x c e
  exact⟨v,cellK x c e v z⟩
 .obtain⟨m,⟨o,_,_,ho,_⟩,_⟩:=I.loc
  exact free _ o (λz=>(hch _ z).2.1 rfl) ho I.free
 .obtain⟨v,o,ho,hd⟩:=I.cell x c e
  exact free c o (λz=>(hch c z).2.2.1 x c e rfl) ho (I.H0 x c e)
 .obtain⟨e,n,ne,nf,d⟩:=I.pin p hp
  have nch:p.1∉ch:=λz=>(hch p.1 z).2.2.2 p hp rfl
  exact⟨keep p.1 p.2 ne nf nch e n,free p.1 p.2 nch e n,ne,nf,d⟩
def Inv.un{t':Nat}(I:Inv X pins σ H s)(u:Un X.fs [] H H' s.heap h')(hok:HOk X.prog X.w H' h'):Inv X pins σ H' {s with heap:=h',toks:=t'}:=by
 obtain⟨m,⟨o,es,ep,ho,r⟩,_⟩:=id I.loc
 obtain⟨sl,hL⟩:=u.any ho I.free (by simp)
 exact I.step (g':=s.gens) (d':=s.drawn) (ch:=[]) (λ_ z=>nomatch z) (λb o _ hb _ e n=>u.keep b o e n hb (by simp)) (λb o _ hb _ e n=>u.slot b o e n hb (by simp)) (λb o _ e n=>u.free b o e n (by simp)) (λb o _ e=>u.there b o e (by simp)) u.Tz u.Rj u.Tj (λm' hm=>by
  obtain⟨o',es',ep',ho',r'⟩:=hm
  rw[ho]at ho';cases ho'
  exact⟨_,es',ep',hL,r'⟩) hok I.bare
def Inv.call{ch:Wp ug}(I:Inv X pins σ H s)(u:Un (frs X.stack) ch H H' s.heap h')(hok:HOk X.prog X.w H' h')(hg:yx g')(hch:∀b∈ch,(b∈X.ex\/X.s₀.heap.objs.size<=b)/\b≠X.env.locals/\(∀x c,X.env.cells.lookup x=Gc c->c≠b)/\∀p∈X.pn++pins,p.1≠b):Inv X pins σ H' {s with heap:=h',gens:=g',drawn:=d',toks:=t'}:=by
 obtain⟨m,⟨o,es,ep,ho,r⟩,_⟩:=id I.loc
 obtain⟨sl,hL⟩:=u.any ho I.free λz=>(hch _ z).2.1 rfl
 exact I.step (ch:=ch) hch (λb o hL hb hc e n=>u.keep b o e n (λz=>(uZ.mp (I.VT b z)).elim hL hb) hc) (λb o _ _ hc e n=>u.any e n hc) (λb o hc e n=>u.free b o e n hc) (λb o hc e=>u.there b o e hc) u.Tz u.Rj u.Tj (λm' hm=>by
  obtain⟨o',es',ep',ho',r'⟩:=hm
  rw[ho]at ho';cases ho'
  exact⟨_,es',ep',hL,r'⟩) hok hg
def Inv.turned{t':Nat}{it:ug}(I:Inv X pins σ H s)(k:∀b o,b≠it->s.heap.get? b=Gc o->h'.get? b=Gc o)(hn:H it=none)(hL:it≠X.env.locals)(h1:it∈X.ex\/X.s₀.heap.objs.size<=it)(h2:∀x c,X.env.cells.lookup x=Gc c->c≠it)(h3:∀p∈X.pn++pins,p.1≠it):Inv X pins σ H {s with heap:=h',toks:=t'}:=by
 have nit:∀b u,H b=Gc u->b≠it:=λb u e z=>by rw[z,hn]at e;cases e
 refine I.step (g':=s.gens) (d':=s.drawn) (ch:=[it]) (λb hb=>?_) (λb o _ _ hc e _=>k b o (λz=>hc (by simp[z])) e) (λb o _ _ hc e _=>⟨o.slots,k b o (λz=>hc (by simp[z])) e⟩) (λ_ _ _ _ n=>n)
  (λb o hc e=>⟨o,k b o (λz=>hc (by simp[z])) e⟩) (λ_ _ e=>e) (λ_ _ _ e=>e) (λb ps e=>⟨#[],by rw[e];simp⟩) (λm hm=>?_) (λb u e=>?_) I.bare
 .have e:b=it:=by simpa using hb
  subst e
  exact⟨h1,hL,h2,h3⟩
 .obtain⟨o,es,ep,ho,r⟩:=hm
  exact⟨o,es,ep,k _ o (vi hL) ho,r⟩
 .refine(I.hok b u e).RL (λc v hc q=>k c v ?_ q) (λ_ q=>q) λ_ _ q=>q
  rcases hc with z|z
  .rw[z];exact nit b u e
  .exact nit c _ z
def Inv.tok(I:Inv X pins σ H s)(t:Nat):Inv X pins σ H {s with toks:=t}:=I.un (h':=s.heap) (t':=t) Un.refl I.hok
def Inv.kept{t':Nat}(I:Inv X pins σ H s)(k:∀b u,s.heap.get? b=Gc u->h'.get? b=Gc u):Inv X pins σ H {s with heap:=h',toks:=t'}:=I.un (Un.kept k) (I.hok.kept k)
def Inv.laid{a:ug}{t':Nat}(I:Inv X pins σ H s)(k:∀b u,s.heap.get? b=Gc u->h'.get? b=Gc u)(hp:s.heap.objs.size<=a)(new:CU X.prog X.w (upd H a o) h' a o):Inv X pins σ (upd H a o) {s with heap:=h',toks:=t'}:=I.un (Un.laid k hp (I.hok.fresh hp)) (I.hok.laid k hp new)
def Inv.write{t':Nat}(I:Inv X pins σ H s)(mu:Mut (H x))(he:e=x\/H e=Gc (.own x))(k:∀b u,b≠e->s.heap.get? b=Gc u->h'.get? b=Gc u)(heo:∃u,h'.get? e=Gc u)(new:CU X.prog X.w (upd H x o) h' x o):Inv X pins σ (upd H x o) {s with heap:=h',toks:=t'}:=I.un (Un.write mu he k heo) (I.hok.write mu he k heo new)
def Inv.WL{pins':Wp (ug×Obj)}(I:Inv X pins σ H s)(h:∀p∈pins',s.heap.get? p.1=Gc p.2/\H p.1=none/\p.1≠X.env.locals/\p.1∉X.fs/\∀v,p.2.data≠.cell v):Inv X pins' σ H s:=
 ⟨I.ok,I.os,I.bare,I.base,I.loc,I.cell,I.free,I.H0,λp hp=>(vE.mp hp).elim (λz=>I.pin p (zd _ z)) (h p),I.hok,I.len⟩
def Rp{N:Wp Str}(hN:N.Nodup){i j:Nat}{x:Str}(a:N[i]?=Gc x)(b:N[j]?=Gc x):i=j:=by
 obtain⟨h1,e1⟩:=ua.mp a
 obtain⟨h2,e2⟩:=ua.mp b
 exact(List.getElem_inj hN).mp (e1.trans e2.symm)
def MM(I:Inv X pins σ H s)(hN:X.N.Nodup)(hi:X.N[i]?=Gc x)(hx:Loc X.env.scope x)(r:RelV v u)(h:∀s',Inv X pins (σ.set i (Gc v)) H s'->(∃a,yF a s.heap s'.heap/\(a=X.env.locals\/X.env.cells.lookup x=Gc a))->Q () s')(hf:zn (X.fn x=true\/X.env.scope.names.lookup x=Gc .local) x0):wpAny M A (storeName X.env x u) Q E s:=by
 obtain⟨m,hn,hl⟩:=id I.loc
 have hcls:(X.env.scope.kind== .class||(X.env.scope.kind== .module && X.env.locals !=X.env.globals))=false:=by rw[I.ok.kind];rfl
 have hiσ:i<σ.length:=by rw[I.len];exact(ua.mp hi).1
 have cne:=I.cne
 have tracked:∀{a:ug} {h':vt},(∃o,s.heap.get? a=Gc o/\H a=none)->yF a s.heap h'->HOk X.prog X.w H h':=λ{a h'} ha hs b ob e=>by
  obtain⟨_,_,hfree⟩:=ha
  refine(I.hok b ob e).RL (λc w' hc q=>(hs.2 c ?_).trans q) (λ_ q=>q) λ_ _ q=>q
  rintro rfl
  rcases hc with rfl|hc
  .rw[hfree]at e;cases e
  .rw[hfree]at hc;cases hc
 rcases hx with hk|hk
 .refine wpAny_storeName_local hk hn (λh' hn' hs=>?_) hcls
  obtain⟨oL,_,_,hoL,_⟩:=id hn
  refine h _ ⟨I.ok,I.os,I.bare,⟨λb o e n hb hx=>?_,λb o e n hb hx=>?_,I.base.free,λb o e hx=>?_,I.base.Tz,I.base.Rj,I.base.Tj⟩,⟨_,hn',λj y v' e1 e2 e3=>?_⟩,λy c e=>?_,I.free,I.H0,λp hp=>?_,tracked ⟨oL,hoL,I.free⟩ hs,by simpa using I.len⟩ ⟨_,hs,.inl rfl⟩
  .exact(hs.2 b (vF (uV (uk e) I.ok.above))).trans (I.base.keep b o e n hb hx)
  .obtain⟨sl,e1⟩:=I.base.slot b o e n hb hx
   exact⟨sl,(hs.2 b (vF (uV (uk e) I.ok.above))).trans e1⟩
  .obtain⟨o',e1⟩:=I.base.there b o e hx
   exact⟨o',(hs.2 b (vF (uV (uk e) I.ok.above))).trans e1⟩
  .by_cases hj:j=i
   .subst hj
    rw[hi]at e1;cases e1
    rw[ui hiσ]at e2
    cases e2
    exact⟨u,r,.inl ⟨hk,by simp⟩⟩
   .rw[uW (vi hj)]at e2
    obtain⟨u',r',q⟩:=hl j y v' e1 e2 e3
    refine⟨u',r',?_⟩
    rcases q with⟨k,e⟩|⟨k,c,e,z⟩
    .refine .inl ⟨k,?_⟩
     have:y≠x:=λe=>hj (Rp hN e1 (e▸hi))
     simp[this,e]
    .exact .inr ⟨k,c,e,z.sameBut hs (cne y c e)⟩
  .obtain⟨w',z⟩:=I.cell y c e
   exact⟨w',z.sameBut hs (cne y c e)⟩
  .obtain⟨e,n,ne,nf,d⟩:=I.pin p hp
   exact⟨(hs.2 p.1 ne).trans e,n,ne,nf,d⟩
 .have hfn:X.fn x=true:=by
   rcases hf with z|z
   .exact z
   .rw[z]at hk;cases hk
  obtain⟨c,hc⟩:=I.ok.has x (.inl hk)
  obtain⟨w',z⟩:=I.cell x c hc
  refine wpAny_storeName_cell I.ok.kind hk hc z (λh' hc' hs=>?_)
  obtain⟨oc,hoc,hocd⟩:=id z
  refine h {s with heap:=h'} ⟨I.ok,I.os,I.bare,⟨λb o e n hb hx=>?_,λb o e n hb hx=>?_,I.base.free,λb o e hx=>?_,I.base.Tz,I.base.Rj,I.base.Tj⟩,⟨m,hn.sameBut hs (vi (cne x c hc)),λj y v' e1 e2 e3=>?_⟩,λy c' e=>?_,I.free,I.H0,λp hp=>?_,tracked ⟨oc,hoc,I.H0 x c hc⟩ hs,by simpa using I.len⟩ ⟨c,hs,.inr hc⟩
  .exact(hs.2 b (vF (uV (uk e) (I.ok.cab x c hfn hc)))).trans (I.base.keep b o e n hb hx)
  .obtain⟨sl,e1⟩:=I.base.slot b o e n hb hx
   exact⟨sl,(hs.2 b (vF (uV (uk e) (I.ok.cab x c hfn hc)))).trans e1⟩
  .obtain⟨o',e1⟩:=I.base.there b o e hx
   exact⟨o',(hs.2 b (vF (uV (uk e) (I.ok.cab x c hfn hc)))).trans e1⟩
  .by_cases hj:j=i
   .subst hj
    rw[hi]at e1;cases e1
    rw[ui hiσ]at e2
    cases e2
    exact⟨u,r,.inr ⟨.inl hk,c,hc,hc'⟩⟩
   .rw[uW (vi hj)]at e2
    obtain⟨u',r',q⟩:=hl j y v' e1 e2 e3
    refine⟨u',r',?_⟩
    rcases q with q|⟨k,c',e,z'⟩
    .exact .inl q
    .refine .inr ⟨k,c',e,z'.sameBut hs ?_⟩
     rintro rfl
     exact hj (Rp hN e1 (I.ok.inj _ _ _ e hc▸hi))
  .by_cases hcc:c'=c
   .subst hcc;exact⟨_,hc'⟩
   .obtain⟨w2,z2⟩:=I.cell y c' e
    exact⟨w2,z2.sameBut hs hcc⟩
  .obtain⟨e,n,ne,nf,d⟩:=I.pin p hp
   refine⟨(hs.2 p.1 ?_).trans e,n,ne,nf,d⟩
   intro q
   rw[q,hoc]at e
   have q':oc=p.2:=wU e
   exact d w' (by rw[<-q'];exact hocd)
def LU(I:Inv X pins σ H s)(hN:X.N.Nodup)(hi:X.N[i]?=Gc x)(hx:Loc X.env.scope x)(r:RelV v u)(h:∀s',Inv X pins (σ.set i (Gc v)) H s'->Q () s')(hf:zn (X.fn x=true\/X.env.scope.names.lookup x=Gc .local) x0):wpAny M A (storeName X.env x u) Q E s:=
 MM I hN hi hx r (λs' I' _=>h s' I') hf
def Inv.Yo{s':uj}{ch:Wp ug}(I:Inv X pins σ H s)(ho:s'.os=s.os)(u:Un (frs X.stack) ch H H' s.heap s'.heap)(hok:HOk X.prog X.w H' s'.heap)(hg:yx s'.gens)(hch:∀b∈ch,(b∈X.ex\/X.s₀.heap.objs.size<=b)/\b≠X.env.locals/\(∀x c,X.env.cells.lookup x=Gc c->c≠b)/\∀p∈X.pn++pins,p.1≠b):Inv X pins σ H' s':=by
 obtain⟨h',g',d',t',o'⟩:=s'
 have e:o'=s.os:=ho
 subst e
 exact I.call (g':=g') (t':=t') (d':=d') u hok hg hch
end
abbrev XK:=uY->uS ug->Hp->Prop
abbrev St:=Wp (uS V)
abbrev VK:=V->Hp->Prop
abbrev TE:=St->Hp->VK->Prop
abbrev TT:=St->Hp->(va->Hp->Prop)->Prop
abbrev TA:=St->Hp->(Wp V->Hp->Prop)->Prop
structure Ends where
 nx:St->Hp->Prop
 rt:VK
 bk:St->Hp->Prop:=λ_ _=>wI
 ct:St->Hp->Prop:=λ_ _=>wI
abbrev TS:=Ends->St->Hp->Prop
def EP(X:Cx)(pins:Wp (ug×Obj))(σ:St)(Q:VK)(u:uY)(s':uj):Prop:=∃v H',Inv X pins σ H' s'/\RelV v u/\Q v H'
def TP(X:Cx)(pins:Wp (ug×Obj))(σ:St)(Q:va->Hp->Prop)(b:va)(s':uj):Prop:=∃H',Inv X pins σ H' s'/\Q b H'
def AP(X:Cx)(pins:Wp (ug×Obj))(σ:St)(Q:Wp V->Hp->Prop)(us:Wp uY)(s':uj):Prop:=∃vs H',Inv X pins σ H' s'/\Vals vs us/\Q vs H'
def SP(X:Cx)(pins:Wp (ug×Obj))(D:Ends)(f:Flow)(s':uj):Prop:=
 match f with
 | .next=>∃σ' H',Inv X pins σ' H' s'/\D.nx σ' H'
 | .brk=>∃σ' H',Inv X pins σ' H' s'/\D.bk σ' H'
 | .cont=>∃σ' H',Inv X pins σ' H' s'/\D.ct σ' H'
 | .ret u=>∃v σ' H',Inv X pins σ' H' s'/\RelV v u/\D.rt v H'
def PE(X:Cx)(e:vj)(t:TE):Prop:=
 ∀(pins:Wp (ug×Obj)) (s:uj) (σ:St) (H:Hp) (Q:VK),Inv X pins σ H s->t σ H Q->wpAny (model X.prog X.w) X.A (eval e X.env) (EP X pins σ Q) X.xe s
def PT(X:Cx)(e:vj)(t:TT):Prop:=
 ∀(pins:Wp (ug×Obj)) (s:uj) (σ:St) (H:Hp) (Q:va->Hp->Prop),Inv X pins σ H s->t σ H Q->wpAny (model X.prog X.w) X.A (isTrue e X.env (eval e X.env)) (TP X pins σ Q) X.xe s
def PW(X:Cx)(e:vj)(t:TT):Prop:=
 ∀(whole:Sem uY) (pins:Wp (ug×Obj)) (s:uj) (σ:St) (H:Hp) (Q:va->Hp->Prop),Inv X pins σ H s->t σ H Q->wpAny (model X.prog X.w) X.A (isTrue e X.env whole) (TP X pins σ Q) X.xe s
def PW.pt{t:TT}(h:PW X e t):PT X e t:=h _
def PA(X:Cx)(es:Wp vj)(t:TA):Prop:=
 ∀(pos:Pos) (pins:Wp (ug×Obj)) (s:uj) (σ:St) (H:Hp) (Q:Wp V->Hp->Prop),Inv X pins σ H s->t σ H Q->wpAny (model X.prog X.w) X.A (spliced (backTo pos (uf es X.env))) (AP X pins σ Q) X.xe s
def PS(X:Cx)(st:vI)(t:TS):Prop:=
 ∀(pins:Wp (ug×Obj)) (s:uj) (σ:St) (H:Hp) (D:Ends),Inv X pins σ H s->t D σ H->wpAny (model X.prog X.w) X.A (exec st X.env) (SP X pins D) X.xe s
def PSs(X:Cx)(st:Wp vI)(t:TS):Prop:=
 ∀(pins:Wp (ug×Obj)) (s:uj) (σ:St) (H:Hp) (D:Ends),Inv X pins σ H s->t D σ H->wpAny (model X.prog X.w) X.A (execs st X.env) (SP X pins D) X.xe s
def thn{t:Sem α}{Q Q':α->uj->Prop}(h:wpAny M A t Q E s)(hQ:∀a s,Q a s->Q' a s):wpAny M A t Q' E s:=vp h hQ λ_ _ x=>x
end L2
namespace L2
open PySem PySem.Spec PyProof.Rows
section
variable{X:Cx}
noncomputable def tP(i:Nat):TE:=λσ H Q=>∃v,σ[i]?=Gc (Gc v)/\Q v H
noncomputable def tC(v:V):TE:=λ_ H Q=>Q v H
def Ig{pos:Pos}(hN:X.N[i]?=Gc x)(hv:Vis X.env.scope x)(hd:zn ((x==("__debug__":Str))=false) xz)(hcd:zn ((x==("__classdict__":Str))=false) xz):PE X (.Name x pos) (tP i):=by
 intro pins s σ H Q I h
 obtain⟨v,e,h⟩:=h
 obtain⟨m,hn,hl⟩:=I.loc
 obtain⟨u,r,l⟩:=hl i x v hN e hv
 have fin:EP X pins σ Q u s:=⟨v,H,I,r,h⟩
 rcases l with⟨hk,hm⟩|⟨hk,c,hc,hcell⟩
 .exact wpAny_Name (wpAny_loadName_local I.ok.kind hk hn hm fin) hd
 .rcases hk with hk|hk
  .exact wpAny_Name (wpAny_loadName_cell I.ok.kind hk hc hcell fin) hd
  .exact wpAny_Name (wpAny_loadName_free I.ok.kind hk hc hcell fin hcd) hd
def jq{i j pos}:PE X (.Constant (.int i) j pos) (tC (.int i)):=λ_ _ _ H _ I h=>wpAny_Constant_int ⟨.int i,H,I.tok _,⟨_,rfl⟩,h⟩
def ni{b j pos}:PE X (.Constant (.bool b) j pos) (tC (.bl b)):=λ_ _ _ H _ I h=>Constant_bool ⟨.bl b,H,I,rfl,h⟩
def kJ{j pos}:PE X (.Constant .none j pos) (tC .non):=λ_ _ _ H _ I h=>Constant_none ⟨.non,H,I,rfl,h⟩
def Nf{x j pos}:PE X (.Constant (.str x) j pos) (tC (.str x)):=λ_ _ _ H _ I h=>Calls.Constant_str ⟨.str x,H,I.tok _,⟨_,rfl⟩,h⟩
def Gl(X:Cx)(x:Str):Prop:=X.env.kindOf x=Gc .globalImplicit
def IC{s:uj}{σ:St}(I:Inv X pins σ H s)(hg:Gl X x)(hm:X.mg x=Gc u)(h:Q u s)(hd:zn ((x==("__debug__":Str))=false) xz):wpAny (model X.prog X.w) X.A (eval (.Name x pos) X.env) Q E s:=
 xM I.ok.kind hg (yy (by rw[I.ok.glob];exact I.mod.glob.keeps I.bk) hm h) hd
def NW{E:uY->uj->Prop}{σ:St}{u:uY}{pos:Pos}(I:Inv X pins σ H s)(hg:Gl X x)(hm:X.mg x=none)(hv:bootBuiltins x=Gc u)(h:Q u s)(hn:zn (x≠ "__name__") xz)(hd:zn ((x==("__debug__":Str))=false) xz):wpAny (model X.prog X.w) X.A (eval (.Name x pos) X.env) Q E s:=by
 obtain⟨mb,h1,h2⟩:=I.mod.blt
 exact xM I.ok.kind hg (Calls.loadGlobal_builtin (by rw[I.ok.glob];exact I.mod.glob.keeps I.bk) hm (by rw[I.ok.blt];exact h1.keeps I.bk) ((h2 x hn).trans hv) h) hd
def OZ{pos:Pos}(hg:Gl X x)(hm:X.mg x=Gc u)(r:RelV v u)(hd:zn ((x==("__debug__":Str))=false) xz):PE X (.Name x pos) (tC v):=
 λ_ _ _ H _ I h=>IC I hg hm ⟨v,H,I,r,h⟩ hd
def aI{pos:Pos}(hg:Gl X x)(hm:X.mg x=none)(hv:bootBuiltins x=Gc u)(r:RelV v u)(hn:zn (x≠ "__name__") xz)(hd:zn ((x==("__debug__":Str))=false) xz):PE X (.Name x pos) (tC v):=
 λ_ _ _ H _ I h=>NW I hg hm hv ⟨v,H,I,r,h⟩ hn hd
def t2I(ta tb:TE)(k:Int->Int->Hp->Prop):St->Hp->Prop:=λσ H=>ta σ H λx H1=>tb σ H1 λy H2=>∃i j,x=.int i/\y=.int j/\k i j H2
variable{a b:vj}{ta tb:TE}{pos:Pos}
noncomputable def tB(t:TE):TT:=λσ H Q=>t σ H λx H1=>∃c,x=.bl c/\Q c H1
def ij{e:vj}{t:TE}(h:PE X e t)(he:zn (∀whole,isTrue e X.env whole=(do let v<-whole;standAt e.pos;holding [v] (truthy v))) xL):PT X e (tB t):=by
 intro pins s σ H Q I hw
 refine isTrue_plain (thn (h pins s σ H _ I hw) λv s1 z=>?_) (he _)
 obtain⟨x,H1,I1,r1,q1⟩:=z
 obtain⟨d,rfl,q⟩:=q1
 cases r1
 exact xA ⟨H1,I1,q⟩
variable{tA tB':TT}{rest:Wp vj}
noncomputable def sW(t u:TT):TT:=λσ H Q=>t σ H λc H1=>if c=true then u σ H1 Q else Q false H1
noncomputable def tOr(t u:TT):TT:=λσ H Q=>t σ H λc H1=>if c=true then Q true H1 else u σ H1 Q
noncomputable def rR(t:TT):TT:=λσ H Q=>t σ H λc H1=>Q (!c) H1
def eG(ha:PT X a tA):PW X (.BoolOp .And [a] pos) tA:=by
 intro wh pins s σ H Q I h
 refine isTrue_and (thn (ha pins s σ H Q I h) λc s1 e=>?_)
 cases c with
 |true=>exact isTrue_and_nil e
 |false=>exact e
def iF(ha:PT X a tA):PW X (.BoolOp .Or [a] pos) tA:=by
 intro wh pins s σ H Q I h
 refine isTrue_or (thn (ha pins s σ H Q I h) λc s1 e=>?_)
 cases c with
 |false=>exact isTrue_or_nil e
 |true=>exact e
def gQ(ha:PT X a tA)(hb:PW X (.BoolOp .And (b::rest) pos) tB'):PW X (.BoolOp .And (a::b::rest) pos) (sW tA tB'):=by
 intro wh pins s σ H Q I h
 refine isTrue_and (thn (ha pins s σ H _ I h) λc s1 ⟨H1,I1,q1⟩=>?_)
 cases c with
 |true=>exact hb wh pins s1 σ H1 Q I1 q1
 |false=>exact⟨H1,I1,q1⟩
def pS(ha:PT X a tA)(hb:PW X (.BoolOp .Or (b::rest) pos) tB'):PW X (.BoolOp .Or (a::b::rest) pos) (tOr tA tB'):=by
 intro wh pins s σ H Q I h
 refine isTrue_or (thn (ha pins s σ H _ I h) λc s1 ⟨H1,I1,q1⟩=>?_)
 cases c with
 |true=>exact⟨H1,I1,q1⟩
 |false=>exact hb wh pins s1 σ H1 Q I1 q1
def gq(ha:PT X a tA):PT X (.UnaryOp .Not a pos) (rR tA):=by
 intro pins s σ H Q I h
 exact isTrue_not (ha pins s σ H (λc H1=>Q (!c) H1) I h)
noncomputable def oP(ta tb:TE):TE:=λσ H Q=>ta σ H λx H1=>∃c,x=.bl c/\if c=true then tb σ H1 Q else Q (.bl false) H1
noncomputable def rS(ta tb:TE):TE:=λσ H Q=>ta σ H λx H1=>∃c,x=.bl c/\if c=true then Q (.bl true) H1 else tb σ H1 Q
noncomputable def nD(ta:TE):TE:=λσ H Q=>ta σ H λx H1=>∃c,x=.bl c/\Q (.bl (!c)) H1
def iU{op}{t:TE}(h:PE X a t):PE X (.BoolOp op [a] pos) t:=λpins s σ H Q I hw=>BoolOp_one (h pins s σ H Q I hw)
def gS(ha:PE X a ta)(hb:PE X (.BoolOp .And (b::rest) pos) tb):PE X (.BoolOp .And (a::b::rest) pos) (oP ta tb):=by
 intro pins s σ H Q I h
 refine BoolOp_and (thn (ha pins s σ H _ I h) λv s1 z=>?_)
 obtain⟨x,H1,I1,r1,q1⟩:=z
 obtain⟨c,rfl,q1⟩:=q1
 cases r1
 refine xA ?_
 cases c with
 |true=>exact hb pins s1 σ H1 Q I1 q1
 |false=>exact⟨.bl false,H1,I1,rfl,q1⟩
def oJ(ha:PE X a ta)(hb:PE X (.BoolOp .Or (b::rest) pos) tb):PE X (.BoolOp .Or (a::b::rest) pos) (rS ta tb):=by
 intro pins s σ H Q I h
 refine BoolOp_or (thn (ha pins s σ H _ I h) λv s1 z=>?_)
 obtain⟨x,H1,I1,r1,q1⟩:=z
 obtain⟨c,rfl,q1⟩:=q1
 cases r1
 refine xA ?_
 cases c with
 |false=>exact hb pins s1 σ H1 Q I1 q1
 |true=>exact⟨.bl true,H1,I1,rfl,q1⟩
def kQ(ha:PE X a ta):PE X (.UnaryOp .Not a pos) (nD ta):=by
 intro pins s σ H Q I h
 refine UnaryOp_ (thn (ha pins s σ H _ I h) λv s1 z=>?_)
 obtain⟨x,H1,I1,r1,q1⟩:=z
 obtain⟨c,rfl,q1⟩:=q1
 cases r1
 exact not_of (xA ⟨.bl (!c),H1,I1,rfl,q1⟩)
noncomputable def tIf(t:TT)(ta tb:TE):TE:=λσ H Q=>t σ H λc H1=>if c=true then ta σ H1 Q else tb σ H1 Q
def XQ{c:vj}(hc:PT X c tA)(ha:PE X a ta)(hb:PE X b tb):PE X (.IfExp c a b pos) (tIf tA ta tb):=by
 intro pins s σ H Q I h
 refine wpAny_IfExp (thn (hc pins s σ H _ I h) λd s1 ⟨H1,I1,q1⟩=>?_)
 cases d with
 |true=>exact ha pins s1 σ H1 Q I1 q1
 |false=>exact hb pins s1 σ H1 Q I1 q1
end
end L2
namespace L2
open PySem PySem.Spec PyProof.Rows
def SqL(K:W1)(H:Hp)(a:ug)(xs:Wp V):Prop:=
 Rd H a (.lst xs)∨
  ∃(o:Obj) (its:ym uY) (n:Nat),K.lookup a=Gc o/\o.cls=.type "list" /\o.dict=none/\o.data=.seq its n/\its.size<=sizeLine/\Vals xs its.toList
def SqT(K:W1)(H:Hp)(a:ug)(xs:Wp V):Prop:=
 Rd H a (.tup xs)∨
  ∃(o:Obj) (its:ym uY) (n:Nat),K.lookup a=Gc o/\o.cls=.type "tuple" /\o.data=.seq its n/\its.size<=sizeLine/\Vals xs its.toList
noncomputable def rZ:uY->uS V
 | .none=>Gc .non
 | .bool b=>Gc (.bl b)
 | .int i _=>Gc (.int i)
 | .str x _=>Gc (.str x)
 | .bytes b _=>Gc (.byt b)
 | .float b _=>Gc (.flt b)
 | .ref a=>Gc (.ref a)
 | .type n=>Gc (.ty n)
 |_=>none
def RelV.abs{x:V}{u:uY}(r:RelV x u):rZ u=Gc x:=by
 cases x with
 |non=>cases r;rfl
 |bl _=>cases r;rfl
 |int _=>obtain⟨t,rfl⟩:=r;rfl
 |str _=>obtain⟨t,rfl⟩:=r;rfl
 |byt _=>obtain⟨t,rfl⟩:=r;rfl
 |flt _=>obtain⟨t,rfl⟩:=r;rfl
 |ref _=>cases r;rfl
 |ty _=>cases r;rfl
def RelV.inj{x y:V}{u:uY}(r:RelV x u)(q:RelV y u):x=y:=wU (r.abs.symm.trans q.abs)
theorem Vals.inj:∀{xs ys:Wp V} {us:Wp uY},Vals xs us->Vals ys us->xs=ys
 |_,_,_,.nil,.nil=>rfl
 |_,_,_,.cons r t,.cons r' t'=>by rw[r.inj r',Vals.inj t t']
section
variable{X:Cx}{pins:Wp (ug×Obj)}{σ:St}{H:Hp}{s:uj}{a:ug}{xs ys:Wp V}
def SqL.of{K:W1}(h:H a=Gc (.lst xs)):SqL K H a xs:=.inl (.inl h)
def SqT.of{K:W1}(h:H a=Gc (.tup xs)):SqT K H a xs:=.inl (.inl h)
def Inv.list(I:Inv X pins σ H s)(h:SqL X.K H a xs):∃its:Wp uY,Vals xs its/\PlainL s.heap a its.toArray/\xs.length<=sizeLine:=by
 rcases h with h|⟨o,its,n,hk,hc,hd,hs,hz,r⟩
 .obtain⟨z,its,n,r,e⟩:=h.ok I.hok
  exact⟨its,r,⟨_,n,e,rfl,rfl,rfl⟩,z⟩
 .refine⟨its.toList,r,⟨o,n,I.kIn a o hk,hc,hd,by simpa using hs⟩,?_⟩
  have e:=r.length
  simp only[zv]at e
  lia
def Inv.tuple(I:Inv X pins σ H s)(h:SqT X.K H a xs):∃its:Wp uY,Vals xs its/\IsTup s.heap a its.toArray/\xs.length<=sizeLine:=by
 rcases h with h|⟨o,its,n,hk,hc,hs,hz,r⟩
 .obtain⟨z,its,r,p⟩:=h.ok I.hok
  exact⟨its,r,p,z⟩
 .refine⟨its.toList,r,⟨o,I.kIn a o hk,hc,n,by simpa using hs⟩,?_⟩
  have e:=r.length
  simp only[zv]at e
  lia
def Inv.RH(I:Inv X pins σ H s)(h:SqL X.K H a xs)(h':SqL X.K H a ys):xs=ys:=by
 obtain⟨its,r,⟨o,n,e,_,_,d⟩,_⟩:=I.list h
 obtain⟨its',r',⟨o',n',e',_,_,d'⟩,_⟩:=I.list h'
 rw[e]at e';cases e'
 rw[d]at d'
 injection d' with d1 _
 have:its=its':=by simpa using congrArg Array.toList d1
 subst this
 exact r.inj r'
def Inv.QF(I:Inv X pins σ H s)(h:SqT X.K H a xs)(h':SqT X.K H a ys):xs=ys:=by
 obtain⟨its,r,⟨o,e,_,n,d⟩,_⟩:=I.tuple h
 obtain⟨its',r',⟨o',e',_,n',d'⟩,_⟩:=I.tuple h'
 rw[e]at e';cases e'
 rw[d]at d'
 injection d' with d1 _
 have:its=its':=by simpa using congrArg Array.toList d1
 subst this
 exact r.inj r'
end
abbrev Cx.TM(X:Cx)(E:uY->uj->Prop):Cx:={X with xe:=E}
abbrev Cx.nox(X:Cx):Cx:=X.TM λ_ _=>wI
def Cx.Ok.TM{X:Cx}(ok:X.Ok)(E:uY->uj->Prop):(X.TM E).Ok:=
 ⟨ok.mod,ok.kind,ok.glob,ok.blt,ok.above,ok.inj,ok.has,ok.cab,ok.hd,ok.frames,ok.stk,ok.exf,ok.bs,ok.bsz,ok.ZG,ok.az,ok.QO,ok.frf⟩
def Cx.Ok.Kv{X:Cx}{E:uY->uj->Prop}(ok:(X.TM E).Ok):X.Ok:=
 ⟨ok.mod,ok.kind,ok.glob,ok.blt,ok.above,ok.inj,ok.has,ok.cab,ok.hd,ok.frames,ok.stk,ok.exf,ok.bs,ok.bsz,ok.ZG,ok.az,ok.QO,ok.frf⟩
section
variable{X:Cx}{pins:Wp (ug×Obj)}{σ:St}{H:Hp}{s:uj}{E:uY->uj->Prop}
def Inv.TM(I:Inv X pins σ H s)(E:uY->uj->Prop):Inv (X.TM E) pins σ H s:=⟨I.ok.TM E,I.os,I.bare,I.base,I.loc,I.cell,I.free,I.H0,I.pin,I.hok,I.len⟩
def Inv.Kv(I:Inv (X.TM E) pins σ H s):Inv X pins σ H s:=⟨I.ok.Kv,I.os,I.bare,I.base,I.loc,I.cell,I.free,I.H0,I.pin,I.hok,I.len⟩
def SP.Kv{s':uj}(h:SP (X.TM E) pins D f s'):SP X pins D f s':=by
 cases f with
 |next=>obtain⟨σ',H',I,q⟩:=h;exact⟨σ',H',I.Kv,q⟩
 |brk=>obtain⟨σ',H',I,q⟩:=h;exact⟨σ',H',I.Kv,q⟩
 |cont=>obtain⟨σ',H',I,q⟩:=h;exact⟨σ',H',I.Kv,q⟩
 |ret u=>obtain⟨v,σ',H',I,r,q⟩:=h;exact⟨v,σ',H',I.Kv,r,q⟩
def PSs.nox{st:Wp vI}{t:TS}(h:PSs X.nox st t):PSs X st t:=λpins s σ H D I hw=>
 vp (h pins s σ H D (I.TM _) hw) (λ_ _ q=>q.Kv) λ_ _ z=>vY z
end
section
variable{X:Cx}{st:vI}{rest:Wp vI}{t u:TS}{e:vj}{te:TE}{pos:Pos}
noncomputable def nN:TS:=λD σ H=>D.nx σ H
noncomputable def oZ(t u:TS):TS:=λD σ H=>t {D with nx:=u D} σ H
def bc:PSs X [] nN:=λ_ _ σ H _ I h=>yu ⟨σ,H,I,h⟩
def N1(h1:PS X st t)(h2:PSs X rest u):PSs X (st::rest) (oZ t u):=by
 intro pins s σ H D I h
 refine xy (thn (h1 pins s σ H {D with nx:=u D} I h) λf s1 q=>?_)
 cases f with
 |next=>
  obtain⟨σ',H',I',q⟩:=q
  exact h2 pins s1 σ' H' D I' q
 |ret v=>exact q
 |brk=>exact q
 |cont=>exact q
def KQ(h1:PS X st t):PSs X [st] t:=by
 intro pins s σ H D I h
 refine xy (thn (h1 pins s σ H D I h) λf s1 q=>?_)
 cases f with
 |next=>exact yu q
 |ret v=>exact q
 |brk=>exact q
 |cont=>exact q
def Inv.quiet{pins:Wp (ug×Obj)}{σ:St}{s:uj}(I:Inv X pins σ H s):interactive X.env=false:=by simp[interactive,I.ok.kind]
noncomputable def cS(te:TE):TS:=λD σ H=>te σ H λ_ H1=>D.nx σ H1
def Uc(he:PE X e te)(hs:zn (swapsWith e none pos.line X.env=pure false) ww):PS X (.Expr e pos) (cS te):=by
 intro pins s σ H D I h
 exact wpAny_Expr_any (thn (he pins s σ H _ I h) λv s1 ⟨x,H1,I1,r1,q1⟩=>⟨σ,H1,I1,q1⟩) I.quiet hs
noncomputable def rJ(te:TE):TS:=λD σ H=>te σ H D.rt
def Rq(he:PE X e te):PS X (.Return (Gc e) pos) (rJ te):=by
 intro pins s σ H D I h
 exact AAZ (thn (he pins s σ H _ I h) λv s1 ⟨x,H1,I1,r1,q1⟩=>⟨x,σ,H1,I1,r1,q1⟩)
noncomputable def rm(c:TT)(t u:TS):TS:=λD σ H=>c σ H λb H1=>if b=true then t D σ H1 else u D σ H1
def nZ{tc:TT}(hc:PT X c tc)(ha:PSs X a t)(hb:PSs X b u):PS X (.If c a b pos) (rm tc t u):=by
 intro pins s σ H D I h
 refine wpAny_If (thn (hc pins s σ H _ I h) λd s1 ⟨H1,I1,q1⟩=>?_)
 cases d with
 |true=>exact ha pins s1 σ H1 D I1 q1
 |false=>exact hb pins s1 σ H1 D I1 q1
end
abbrev TG:=V->St->Hp->(St->Hp->Prop)->Prop
abbrev TGs:=Wp V->St->Hp->(St->Hp->Prop)->Prop
def PG(X:Cx)(target:vj)(t:TG):Prop:=
 ∀(pins:Wp (ug×Obj)) (s:uj) (σ:St) (H:Hp) (v:V) (u:uY) (Q:St->Hp->Prop),Inv X pins σ H s->RelV v u->t v σ H Q->
  wpAny (model X.prog X.w) X.A (assign target X.env u) (λ_ s'=>∃σ' H',Inv X pins σ' H' s'/\Q σ' H') X.xe s
def PGs(X:Cx)(ts:Wp vj)(t:TGs):Prop:=
 ∀(pins:Wp (ug×Obj)) (s:uj) (σ:St) (H:Hp) (vs:Wp V) (us:Wp uY) (Q:St->Hp->Prop),Inv X pins σ H s->Vals vs us->t vs σ H Q->
  wpAny (model X.prog X.w) X.A (assignInOrder ((assignEach ts X.env).map (·.2)) us) (λ_ s'=>∃σ' H',Inv X pins σ' H' s'/\Q σ' H') X.xe s
abbrev nM:=V->V->V->Hp->(Hp->Prop)->Prop
def qL(X:Cx)(t:nM):Prop:=
 ∀(pins:Wp (ug×Obj)) (s:uj) (σ:St) (H:Hp) (o i v:V) (ov iv u:uY) (Q:Hp->Prop),Inv X pins σ H s->RelV o ov->RelV i iv->RelV v u->t o i v H Q->
  wpAny (model X.prog X.w) X.A (setItem ov iv u) (λ_ s'=>∃H',Inv X pins σ H' s'/\Q H') X.xe s
section
variable{X:Cx}{pos:Pos}
noncomputable def bu(i:Nat):TG:=λv σ H Q=>Q (σ.set i (Gc v)) H
def Z5{i:Nat}{x:Str}(hN:X.N.Nodup)(hi:X.N[i]?=Gc x)(hx:Loc X.env.scope x)(hf:zn (X.fn x=true\/X.env.scope.names.lookup x=Gc .local) x0):PG X (.Name x pos) (bu i):=by
 intro pins s σ H v u Q I r h
 exact wpAny_assign_Name (LU I hN hi hx r (λs' I'=>⟨_,H,I',h⟩) hf)
noncomputable def rE:TGs:=λvs σ H Q=>vs=[]/\Q σ H
noncomputable def kE(t:TG)(u:TGs):TGs:=λvs σ H Q=>∃v r,vs=v::r/\t v σ H λσ' H'=>u r σ' H' Q
def bf:PGs X [] rE:=by
 intro pins s σ H vs us Q I r h
 obtain⟨e,h⟩:=h
 subst e
 cases r
 exact assignInOrder_nil ⟨σ,H,I,h⟩
def Xa{u:TGs}(h1:PG X e t)(h2:PGs X es u)(hs:zn ((assignEach (e::es) X.env).map (·.2)=assign e X.env::(assignEach es X.env).map (·.2)) ww):PGs X (e::es) (kE t u):=by
 intro pins s σ H vs us Q I r h
 obtain⟨v,vr,e1,h⟩:=h
 subst e1
 cases r with
 |cons r rr=>
  rw[hs]
  refine AAH (thn (h1 pins s σ H _ _ _ I r h) λ_ s1 z=>?_)
  obtain⟨σ1,H1,I1,q1⟩:=z
  exact h2 pins s1 σ1 H1 _ _ Q I1 rr q1
noncomputable def sL(K:W1)(n:Nat)(t:TGs):TG:=λv σ H Q=>∃a xs,v=.ref a/\SqT K H a xs/\xs.length=n/\t xs σ H Q
def jC{es:Wp vj}{k:Nat}{n:Nat}(hc:X.calm=true)(h:PGs X es t)(hn:zn ((assignEach es X.env).length=n) ww)(hst:zn ((assignEach es X.env).findIdx? (·.1)=none) ww):PG X (.Tuple es k pos) (sL X.K n t):=by
 intro pins s σ H v u Q I r hw
 obtain⟨a,xs,e1,hq,hl,hw⟩:=hw
 subst e1
 cases r
 obtain⟨its,rv,ht,hz⟩:=I.tuple hq
 refine assign_Tuple_tuple (I.ok.hd hc) ht (by simp[hn,<-hl,rv.length]) hst λh' hx=>?_
 have I1:Inv X pins σ H {s with heap:=h'}:=I.kept (t':=s.toks) λb o e=>hx b o (vF (uk e)) e
 exact h pins _ σ H xs _ Q I1 (by simpa using rv) hw
noncomputable def sA(to ti:TE)(t:nM):TG:=λv σ H Q=>to σ H λo H1=>ti σ H1 λi H2=>t o i v H2 λH3=>Q σ H3
def iz {t:nM}(ho:PE X o to)(hi:PE X i ti)(hs:qL X t)(ha:zn (∀v,assign (.Subscript o i pos) X.env v=(do
      let ov ← holding [v] (eval o X.env)
      let iv ← holding [v, ov] (eval i X.env)
      standAt pos
      holding [v, ov, iv] (setItem ov iv v)
      release [v, ov, iv] [])) wv) : PG X (.Subscript o i pos) (sA to ti t) := by
  intro pins s σ H v u Q I r h
  rw [ha]
  refine uQ (vx (thn (ho pins s σ H _ I h) fun ov s1 ⟨x, H1, I1, r1, q1⟩ => ?_))
  refine uQ (vx (thn (hi pins s1 σ H1 _ I1 q1) fun iv s2 ⟨y, H2, I2, r2, q2⟩ => ?_))
  refine uQ (xI (uQ (vx (thn (hs pins s2 σ H2 x y v ov iv u _ I2 r1 r2 r q2) fun _ s3 ⟨H3, I3, q3⟩ => ?_))))
  exact wpAny_release ⟨σ, H3, I3, q3⟩
noncomputable def oF(te:TE)(g:TG):TS:=λD σ H=>te σ H λx H1=>g x σ H1 D.nx
def Ys{g:TG}(he:PE X e te)(hg:PG X tg g)(hs:zn (swapsWithSole [tg] e pos.line X.env=pure false) ww)(hw:zn (swappedStores [tg] e X.env=pure none) ww)(h1:zn ((assignEach [tg] X.env).map (·.2)=[assign tg X.env]) ww):PS X (.Assign [tg] e pos) (oF te g):=by
 intro pins s σ H D I h
 refine wpAny_Assign_stores (thn (he pins s σ H _ I h) λv s1 z=>?_) hs hw
 obtain⟨x,H1,I1,r1,q1⟩:=z
 rw[h1]
 exact thn (hg pins s1 σ H1 x v _ I1 r1 q1) λ_ s2 q=>q
def ZM(hN:X.N.Nodup)(hi:X.N[i]?=Gc x)(hx:Loc X.env.scope x)(he:PE X e te)(hs:zn (swapsWith e (Gc (.Name x pos')) pos.line X.env=pure false) ww)(hf:zn (X.fn x=true\/X.env.scope.names.lookup x=Gc .local) x0):PS X (.Assign [.Name x pos'] e pos) (oF te (bu i)):=by
 intro pins s σ H D I h
 refine wpAny_Assign_Name (thn (he pins s σ H _ I h) λv s1 z=>?_) hs
 obtain⟨y,H1,I1,r1,q1⟩:=z
 exact LU I1 hN hi hx r1 (λs2 I2=>⟨_,H1,I2,q1⟩) hf
noncomputable def tE(i j:Nat)(ta:TA):TS:=λD σ H=>ta σ H λvs H1=>∃v w,vs=[v,w]/\D.nx ((σ.set i (Gc v)).set j (Gc w)) H1
def iZ{kt k2 pt2}(hc:X.calm=true)(hN:X.N.Nodup)(hi:X.N[i]?=Gc x)(hj:X.N[j]?=Gc y)(hij:i≠j)(hx:X.env.scope.names.lookup x=Gc .local)(hy:X.env.scope.names.lookup y=Gc .local)(ha:PA X [a,b] ta)(hw:swappedStores [.Tuple [.Name x px,.Name y py] kt pt] (.Tuple [a,b] k2 pt2) X.env=pure (Gc [x,y]))(hs:zn (swapsWithSole [.Tuple [.Name x px,.Name y py] kt pt] (.Tuple [a,b] k2 pt2) pos.line X.env=pure false) ww):PS X (.Assign [.Tuple [.Name x px,.Name y py] kt pt] (.Tuple [a,b] k2 pt2) pos) (tE i j ta):=by
 intro pins s σ H D I h
 rw[exec_Assign_arm]
 refine uQ (xI ?_)
 rw[hs]
 refine uQ (uh ?_)
 rw[vC (by decide)]
 refine uQ (Tuple_ (thn (ha _ pins s σ H _ I h) λus s1 z=>?_))
 obtain⟨vs,H1,I1,r1,q1⟩:=z
 obtain⟨v,w,e1,q1⟩:=q1
 subst e1
 obtain⟨u1,u2,rfl,rv,rw'⟩:∃u1 u2,us=[u1,u2]/\RelV v u1/\RelV w u2:=by
  cases r1 with
  |cons p q=>
   cases q with
   |cons p' q'=>
    cases q'
    exact⟨_,_,rfl,p,p'⟩
 refine xB ?_ (by show 2<=sizeLine;decide)
 have I2:Inv X pins σ H1 {s1 with heap:=s1.heap.push {cls:=.type "tuple",data:=.seq [u1,u2].toArray}}:=I1.kept (t':=s1.toks) λb o e=>uR _ e
 rw[hw]
 refine uQ (uh ?_)
 show wpAny (model X.prog X.w) X.A (do rule "assign.swapped-stores"; let items<-unpackItems (.ref s1.heap.objs.size) 2 none;assignInOrder [λv=>bindName X.env y v,λv=>bindName X.env x v] items.reverse;pure Flow.next) _ _ _
 refine uQ (AA0 (uQ (unpackItems_tuple (items:= #[u1,u2]) (I.ok.hd hc) (yj s1.heap _) λh' hx'=>?_)))
 have I3:=I2.kept (h':=h') (t':=s1.toks) λb o e=>hx' b o (vF (uk e)) e
 show wpAny _ _ (assignInOrder [λv=>bindName X.env y v,λv=>bindName X.env x v] [u2,u1] >>= λ_=>pure Flow.next) _ _ _
 refine uQ (AAH (wpAny_bindName (LU I3 hN hj (.inl hy) rw' (λs2 I4=>?_) (.inr hy))))
 refine AAH (wpAny_bindName (LU I4 hN hi (.inl hx) rv (λs3 I5=>assignInOrder_nil (uh ?_)) (.inr hx)))
 rw[List.set_comm _ _ (vi hij)]at I5
 exact⟨_,H1,I5,q1⟩
end
section
variable{X:Cx}{pos:Pos}
noncomputable def gT(c:TT)(tb:TS):TS:=λD σ H=>∃W:Nat->St->Hp->Prop,(∃m,W m σ H)/\∀m σ H,W m σ H->
 c σ H λb H1=>if b=true then∃N:St->Hp->Prop,(∀σ' H',N σ' H'->∃m',m'<m/\W m' σ' H')/\tb {D with nx:=N,ct:=N,bk:=D.nx} σ H1 else D.nx σ H1
def Xl{tb:TS}(hp:PassesOwn (model X.prog X.w) X.A X.env X.xe)(hc:PT X c tc)(hb:PSs X body tb):PS X (.While c body [] pos) (gT tc tb):=by
 intro pins s σ H D I h
 obtain⟨W,⟨m0,w0⟩,turn⟩:=h
 refine wpAny_While (codeAny_whileLoop (λn s'=>∃σ' H',Inv X pins σ' H' s'/\W n σ' H') ?_ m0 ⟨σ,H,I,w0⟩)
 rintro n s1 ⟨σ1,H1,I1,w1⟩
 refine xZ hp (thn (hc pins s1 σ1 H1 _ I1 (turn n σ1 H1 w1)) λb s2 ⟨H2,I2,q2⟩=>?_)
 cases b with
 |true=>
  obtain⟨N,hN,q2⟩:=q2
  rw[vD rfl]
  refine xZ hp (thn (hb pins s2 σ1 H2 _ I2 q2) λf s3 q3=>?_)
  cases f with
  |next=>
   obtain⟨σ3,H3,I3,n3⟩:=q3
   obtain⟨m',hm,w3⟩:=hN σ3 H3 n3
   exact⟨m',hm,σ3,H3,I3,w3⟩
  |cont=>
   obtain⟨σ3,H3,I3,n3⟩:=q3
   obtain⟨m',hm,w3⟩:=hN σ3 H3 n3
   exact⟨m',hm,σ3,H3,I3,w3⟩
  |brk=>exact q3
  |ret v=>exact q3
 |false=>
  rw[vC vZ]
  exact yu ⟨σ1,H2,I2,q2⟩
end
structure It where
 go:Nat->Hp->Prop
 yld:Nat->Hp->V->Hp->Prop
 stop:Nat->Hp->Prop
def Qd(X:Cx)(pins:Wp (ug×Obj))(H:Hp)(b:ug):Prop:=
 H b=none/\b≠X.env.locals/\b∉X.fs/\(b∈X.ex\/X.s₀.heap.objs.size<=b)/\(∀x c,X.env.cells.lookup x=Gc c->c≠b)/\∀p∈X.pn++pins,p.1≠b
def Inv.dN{pins:Wp (ug×Obj)}{σ:St}{b:ug}(I:Inv X pins σ H s)(hb:s.heap.objs.size<=b)(hn:H' b=none):Qd X pins H' b:=by
 refine⟨hn,y9 (uV I.lt hb),I.sD hb,.inr (ub I.sz hb),λx c e z=>?_,λp hp z=>?_⟩
 .obtain⟨v,q⟩:=I.cell x c e
  exact absurd (uV q.lt (by rw[z];exact hb)) (v9 _)
 .exact absurd (uV (uk (I.pin p hp).1) (by rw[z];exact hb)) (v9 _)
structure Turn(P:vb)(w:wH)(K:W1)(tg:vj)(J:It)(fp:Wp ug)(it:ug)(tn:Nat->vt->Prop):Prop where
 mem:it∈fp
 obj:∀i h,tn i h->∀b∈fp,∃o,h.get? b=Gc o/\∀v,o.data≠.cell v
 keep:∀i h h',tn i h->(∀b∈fp,∀o,h.get? b=Gc o->h'.get? b=Gc o)->tn i h'
 item:∀(X:Cx),X.prog=P->X.w=w->X.K=K->X.calm=true->∀(i:Nat) (pins:Wp (ug×Obj)) (s:uj) (σ:St) (H:Hp) (E:uY->uj->Prop),Inv X pins σ H s->(∀b∈fp,Qd X pins H b)->tn i s.heap->J.go i H->
  wpAny (model P w) X.A (pyNext (.ref it)) (λr s1=>∃u,r=Gc u/\
   wpAny (model P w) X.A (letOwnedTupleGo tg (.ref it) u) (λ_ s2=>∃x H',Inv X pins σ H' s2/\RelV x u/\J.yld i H x H'/\tn (i+1) s2.heap/\∀b∈fp,H' b=none) E s1) E s
 done:∀(X:Cx),X.prog=P->X.w=w->X.K=K->X.calm=true->∀(i:Nat) (pins:Wp (ug×Obj)) (s:uj) (σ:St) (H:Hp) (E:uY->uj->Prop),Inv X pins σ H s->(∀b∈fp,Qd X pins H b)->tn i s.heap->J.stop i H->
  wpAny (model P w) X.A (pyNext (.ref it)) (λr s1=>r=none/\Inv X pins σ H s1) E s
 self:∀(A:w9) (i:Nat) (s:uj) (Q:uY->uj->Prop) (E:uY->uj->Prop),tn i s.heap->Q (.ref it) s->wpAny (model P w) A (pyIter (.ref it)) Q E s
abbrev TI:=St->Hp->(It->Hp->Prop)->Prop
def PIE(X:Cx)(pins:Wp (ug×Obj))(σ:St)(tg:vj)(R:It->Hp->Prop)(itv:uY)(s2:uj):Prop:=
 ∃(it:ug) (fp:Wp ug) (tn:Nat->vt->Prop) (J:It) (H':Hp),itv=.ref it/\Inv X pins σ H' s2/\Turn X.prog X.w X.K tg J fp it tn/\tn 0 s2.heap/\(∀b∈fp,Qd X pins H' b)/\R J H'
def PI(X:Cx)(tg iter:vj)(wi:TI):Prop:=
 ∀(pins:Wp (ug×Obj)) (s:uj) (σ:St) (H:Hp) (R:It->Hp->Prop),Inv X pins σ H s->wi σ H R->
  wpAny (model X.prog X.w) X.A (eval iter X.env) (λv s1=>wpAny (model X.prog X.w) X.A (pyIter v) (PIE X pins σ tg R) X.xe s1) X.xe s
def Z8(ho:s.heap.get? it=Gc o)(hc:o.cls=.type n)(hd:o.data=.fields vs)(hn:["enumerate","zip","dict_itemiterator","dict_reverseitemiterator","odict_iterator","itertools.zip_longest","itertools.pairwise"].contains n=false)(hQ:Q () s):wpAny M A (letOwnedTupleGo tg (.ref it) u) Q E s:=by
 unfold letOwnedTupleGo
 cases tg<;>first
  |exact uh hQ
  |(cases u<;>first
     |exact uh hQ
     |(refine uQ (wpAny_load ho ?_)
       rw[hc,hd]
       show wpAny M A (if(["enumerate","zip","dict_itemiterator","dict_reverseitemiterator","odict_iterator","itertools.zip_longest","itertools.pairwise"].contains n && vs[0]?==Gc (rawInt _))=true then _ else _) Q E s
       rw[vC (by intro h;rw[hn,Bool.false_and]at h;cases h)]
       exact uh hQ))
noncomputable def Itl(K:W1)(a:ug):It:=
 ⟨λi H=>∃xs x,SqL K H a xs/\xs[i]?=Gc x,λi H x H'=>H'=H/\∀xs,SqL K H a xs->xs[i]?=Gc x,λi H=>∃xs,SqL K H a xs/\xs.length<=i⟩
noncomputable def Itt(K:W1)(a:ug):It:=
 ⟨λi H=>∃xs x,SqT K H a xs/\xs[i]?=Gc x,λi H x H'=>H'=H/\∀xs,SqT K H a xs->xs[i]?=Gc x,λi H=>∃xs,SqT K H a xs/\xs.length<=i⟩
noncomputable def Itr(lo:Int)(n:Nat):It:=⟨λi _=>i<n,λi H x H'=>H'=H/\x=.int (lo+i),λi _=>n<=i⟩
theorem UY{K:W1}(a it:ug):Turn P w K tg (Itl K a) [it] it (λi h=>h.IsListIter it a i) where
 mem:=by simp
 obj:=λi h st b hb=>by
  have e:b=it:=by simpa using hb
  subst e
  obtain⟨o,e,c,d⟩:=st
  exact⟨o,e,λv z=>by rw[d]at z;cases z⟩
 keep:=λi h h' st k=>st.at λo e=>k it (by simp) o e
 item:=by
  intro X hP hw hK hc i pins s σ H E I hf st hg
  subst hP hw hK
  obtain⟨xs,x,hq,hx⟩:=hg
  obtain⟨its,rv,p,hz⟩:=I.list hq
  obtain⟨u,hu,ru⟩:=rv.get hx
  obtain⟨f0,f1,f2,f3,f4,f5⟩:=hf it (by simp)
  refine zA st p.isList (x:=u) (by simpa using hu) λh' st' sb=>?_
  have I1:Inv X pins σ H {s with heap:=h'}:=I.turned (t':=s.toks) (λb o hb e=>(sb.2 b hb).trans e) f0 f1 f3 f4 f5
  obtain⟨o,e,c,d⟩:=id st'
  exact⟨u,rfl,Z8 (s:={s with heap:=h'}) e c d (by decide) ⟨x,H,I1,ru,⟨rfl,λys hy=>by rw[I.RH hy hq];exact hx⟩,st',λb hb=>(hf b hb).1⟩⟩
 done:=by
  intro X hP hw hK hc i pins s σ H E I hf st hg
  subst hP hw hK
  obtain⟨xs,hq,hx⟩:=hg
  obtain⟨its,rv,p,hz⟩:=I.list hq
  obtain⟨f0,f1,f2,f3,f4,f5⟩:=hf it (by simp)
  have hl:=rv.length
  exact zQ (I.ok.hd hc) st p.isList (by simp;lia) λh' eb=>⟨rfl,I.turned (t':=s.toks) (λb o hb e=>eb b o hb e) f0 f1 f3 f4 f5⟩
 self:=λ_ _ _ _ _ st h=>ABJ st h
theorem TJ{K:W1}(a it:ug):Turn P w K tg (Itt K a) [it] it (λi h=>h.IsTupleIter it a i) where
 mem:=by simp
 obj:=λi h st b hb=>by
  have e:b=it:=by simpa using hb
  subst e
  obtain⟨o,e,c,d⟩:=st
  exact⟨o,e,λv z=>by rw[d]at z;cases z⟩
 keep:=λi h h' st k=>st.at λo e=>k it (by simp) o e
 item:=by
  intro X hP hw hK hc i pins s σ H E I hf st hg
  subst hP hw hK
  obtain⟨xs,x,hq,hx⟩:=hg
  obtain⟨its,rv,p,hz⟩:=I.tuple hq
  obtain⟨u,hu,ru⟩:=rv.get hx
  obtain⟨f0,f1,f2,f3,f4,f5⟩:=hf it (by simp)
  refine wpAny_pyNext_tuple_item st (show s.heap.IsTuple a its.toArray from p) (x:=u) (by simpa using hu) λh' st' sb=>?_
  have I1:Inv X pins σ H {s with heap:=h'}:=I.turned (t':=s.toks) (λb o hb e=>(sb.2 b hb).trans e) f0 f1 f3 f4 f5
  obtain⟨o,e,c,d⟩:=id st'
  exact⟨u,rfl,Z8 (s:={s with heap:=h'}) e c d (by decide) ⟨x,H,I1,ru,⟨rfl,λys hy=>by rw[I.QF hy hq];exact hx⟩,st',λb hb=>(hf b hb).1⟩⟩
 done:=by
  intro X hP hw hK hc i pins s σ H E I hf st hg
  subst hP hw hK
  obtain⟨xs,hq,hx⟩:=hg
  obtain⟨its,rv,p,hz⟩:=I.tuple hq
  obtain⟨f0,f1,f2,f3,f4,f5⟩:=hf it (by simp)
  have hl:=rv.length
  exact wpAny_pyNext_tuple_end (I.ok.hd hc) st (show s.heap.IsTuple a its.toArray from p) (by simp;lia) λh' eb=>⟨rfl,I.turned (t':=s.toks) (λb o hb e=>eb b o hb e) f0 f1 f3 f4 f5⟩
 self:=λ_ _ _ _ _ st h=>wpAny_pyIter_tupleiter st h
theorem SX{K:W1} it lo n:Turn P w K tg (Itr lo n) [it] it (λi h=>IsRangeIter h it (lo+(i:Nat)*1) ((n:Int)-(i:Nat)) 1) where
 mem:=by simp
 obj:=λi h st b hb=>by
  have e:b=it:=by simpa using hb
  subst e
  exact⟨_,st,λv z=>by
   have z':Data.fields _=Data.cell v:=z
   cases z'⟩
 keep:=λi h h' st k=>k it (by simp) _ st
 item:=by
  intro X hP hw hK hc i pins s σ H E I hf st hg
  subst hP hw hK
  obtain⟨f0,f1,f2,f3,f4,f5⟩:=hf it (by simp)
  have W:=Walks.range (prog:=X.prog) (w:=X.w) (I.ok.hd hc) it lo 1 n
  refine W.item i s _ _ hg st λv h' tk hv st' kk=>?_
  obtain⟨t,rfl⟩:=hv
  have I1:Inv X pins σ H {s with heap:=h',toks:=tk}:=I.turned (λb o hb e=>kk b o (by simpa using hb) e) f0 f1 f3 f4 f5
  refine⟨_,rfl,Z8 (s:={s with heap:=h',toks:=tk}) (n:="range_iterator") st' rfl rfl (by decide) ⟨.int (lo+i),H,I1,⟨t,?_⟩,⟨rfl,rfl⟩,st',λb hb=>(hf b hb).1⟩⟩
  rw[Int.mul_one]
 done:=by
  intro X hP hw hK hc i pins s σ H E I hf st hg
  subst hP hw hK
  obtain⟨f0,f1,f2,f3,f4,f5⟩:=hf it (by simp)
  exact wpAny_pyNext_range_end (I.ok.hd hc) st (by have:n<=i:=hg;lia) λh' eb=>⟨rfl,I.turned (t':=s.toks) (λb o hb e=>eb b o hb e) f0 f1 f3 f4 f5⟩
 self:=λ_ _ _ _ _ st h=>wpAny_pyIter_rangeiter st h
end L2
namespace L2
open PySem PySem.Spec PyProof.Rows
section
variable{X:Cx}{tg:vj}
def W9{σ:St}{lo hi:Int}(I:Inv X pins σ H s)(h1: -(2^62)<=lo)(h2:lo<2^62)(h3: -(2^62)<=hi)(h4:hi<2^62)(q:R (Itr lo (hi-lo).toNat) H):wpAny (model X.prog X.w) X.A (pyIter (.ref s.heap.objs.size)) (PIE X pins σ tg R) E {s with heap:=s.heap.push {cls:=.type "range",data:=.fields #[.int lo t,.int hi u,.int 1 v]},toks:=tk}:=by
 refine wpAny_pyIter_range (IsRange.new ..) (small_one h1 h2 h3 h4) ?_
 have I1:Inv X pins σ H {s with heap:=s.heap.push {cls:=.type "range",data:=.fields #[.int lo t,.int hi u,.int 1 v]},toks:=tk}:=I.kept λb o e=>uR _ e
 refine⟨(s.heap.push {cls:=.type "range",data:=.fields #[.int lo t,.int hi u,.int 1 v]}).objs.size,[(s.heap.push {cls:=.type "range",data:=.fields #[.int lo t,.int hi u,.int 1 v]}).objs.size],_,_,H,rfl,
  I1.kept (t':=tk) λb o e=>uR _ e,SX _ lo (hi-lo).toNat,?_,λb hb=>?_,q⟩
 .have e1:lo+((0:Nat):Int)*1=lo:=by simp
  have e2:(((hi-lo).toNat:Nat):Int)-((0:Nat):Int)=Builtin.Range.rangeSize lo hi 1:=by rw[rangeSize_one];split<;>lia
  show IsRangeIter _ _ (lo+((0:Nat):Int)*1) ((((hi-lo).toNat:Nat):Int)-((0:Nat):Int)) 1
  rw[e1,e2]
  exact uy _ rfl
 .have e:b=(s.heap.push {cls:=.type "range",data:=.fields #[.int lo t,.int hi u,.int 1 v]}).objs.size:=by simpa using hb
  subst e
  exact I1.dN (ue _) (I1.hok.fresh (ue _))
noncomputable def nP(ta:TA):TI:=λσ H R=>ta σ H λvs H1=>∃j:Int,vs=[.int j]/\ -(2^62)<=j/\j<2^62/\R (Itr 0 j.toNat) H1
def UZ{p pos:Pos}(hg:Gl X "range")(hm:X.mg "range"=none)(ha:PA X [a] ta)(hs:zn (uf [a] X.env=[(false,eval a X.env)]) ww):PI X tg (.Call (.Name "range" p) [a] [] pos) (nP ta):=by
 intro pins s σ H R I h
 refine Call_ (NW I hg hm boot_range (yS (thn (ha pos pins s σ H _ I h) λus s1 z=>?_) hs rfl))
 obtain⟨vs,H1,I1,r1,q1⟩:=z
 obtain⟨j,e,q1,q2,q⟩:=q1
 subst e
 cases r1 with
 |cons r rr=>
  cases rr
  obtain⟨t,rfl⟩:=r
  exact call_range_1 (W9 I1 (by lia) (by lia) q1 q2 (by simpa using q))
noncomputable def sM(wi:TI)(g:TG)(tb:TS):TS:=λD σ H=>wi σ H λJ H1=>∃W:Nat->Nat->St->Hp->Prop,(∃m,W 0 m σ H1)/\∀i m σ H,W i m σ H->
 (J.stop i H/\D.nx σ H)\/(J.go i H/\∃N:St->Hp->Prop,(∀σ' H',N σ' H'->∃m',m'<m/\W (i+1) m' σ' H')/\∀x H',J.yld i H x H'->g x σ H' λσ2 H2=>tb {D with nx:=N,ct:=N,bk:=D.nx} σ2 H2)
noncomputable def Py(fp:Wp ug)(h:vt):Wp (ug×Obj):=fp.filterMap λb=>(h.get? b).map λo=>(b,o)
def IM{o:Obj}(hb:b∈fp)(e:h.get? b=Gc o):(b,o)∈Py fp h:=AB0.mpr ⟨b,hb,by rw[e];rfl⟩
def Uy{p:ug×Obj}(hp:p∈Py fp h):p.1∈fp/\h.get? p.1=Gc p.2:=by
 obtain⟨b,hb,e⟩:=AB0.mp hp
 cases q:h.get? b with
 |none=>rw[q]at e;cases e
 |some o=>
  rw[q]at e
  have e':(b,o)=p:=wU e
  subst e'
  exact⟨hb,q⟩
def Inv.pinned{σ:St}(I:Inv X pins σ H s)(hf:∀b∈fp,Qd X pins H b)(ho:∀b∈fp,∃o,s.heap.get? b=Gc o/\∀v,o.data≠.cell v):Inv X (pins++Py fp s.heap) σ H s:=
 I.WL λp hp=>(vE.mp hp).elim (λz=>I.pin p (vX _ z)) λz=>by
  obtain⟨hb,e⟩:=Uy z
  obtain⟨f0,f1,f2,_⟩:=hf p.1 hb
  obtain⟨o,e',d⟩:=ho p.1 hb
  rw[e]at e';cases e'
  exact⟨e,f0,f1,f2,d⟩
def Inv.LK{pins pl:Wp (ug×Obj)}{σ:St}{s:uj}(I:Inv X (pins++pl) σ H s):Inv X pins σ H s:=I.WL λp hp=>I.pin p (vX _ (zd _ hp))
def fN(hp:PassesOwn (model X.prog X.w) X.A X.env X.xe)(hc:X.calm=true)(hi:PI X tg iter wi)(hg:PG X tg g)(hb:PSs X body tb)(hs:zn (∀x,foldedSetIterable iter X.env x=pure x) xL):PS X (.For tg iter body [] pos) (sM wi g tb):=by
 intro pins s σ H D I h
 refine wpAny_For (thn (hi pins s σ H _ I h) λv s1 h1=>thn h1 λitv s2 h2=>?_) hs
 obtain⟨it,fp,tn,J,H2,e,I2,T,st2,f2,W,⟨m0,w0⟩,turn⟩:=h2
 subst e
 have stat:∀{H':Hp},(∀b∈fp,H' b=none)->∀b∈fp,Qd X pins H' b:=λhn b hb=>⟨hn b hb,(f2 b hb).2⟩
 refine codeAny_forLoop_any (λn s'=>∃i σ' H',Inv X pins σ' H' s'/\tn i s'.heap/\(∀b∈fp,H' b=none)/\W i n σ' H') ?_ m0 ⟨0,σ,H2,I2,st2,λb hb=>(f2 b hb).1,w0⟩
 rintro n s3 ⟨i,σ3,H3,I3,st3,fr3,w3⟩
 rcases turn i n σ3 H3 w3 with⟨stop,qn⟩|⟨go,N,hN,step⟩
 .refine xZ hp (thn (T.done X rfl rfl rfl hc i pins s3 σ3 H3 X.xe I3 (stat fr3) st3 stop) λr s4 ⟨hr,I4⟩=>?_)
  subst hr
  exact yu ⟨σ3,H3,I4,qn⟩
 .refine xZ hp (thn (T.item X rfl rfl rfl hc i pins s3 σ3 H3 X.xe I3 (stat fr3) st3 go) λr s4 ⟨u,hr,h4⟩=>?_)
  subst hr
  refine xZ hp (thn h4 λ_ s5 z=>?_)
  obtain⟨x,H5,I5,r5,y5,st5,fr5⟩:=z
  have I5':=I5.pinned (stat fr5) (T.obj _ _ st5)
  refine xZ hp (thn (hg _ s5 σ3 H5 x u _ I5' r5 (step x H5 y5)) λ_ s6 z=>?_)
  obtain⟨σ6,H6,I6,q6⟩:=z
  refine xZ hp (thn (hb _ s6 σ6 H6 _ I6 q6) λf s7 q7=>?_)
  have again:∀{σ7:St} {H7:Hp},Inv X (pins++Py fp s5.heap) σ7 H7 s7->N σ7 H7->∃m,m<n/\∃i σ' H',Inv X pins σ' H' s7/\tn i s7.heap/\(∀b∈fp,H' b=none)/\W i m σ' H':=λ{σ7 H7} I7 n7=>by
   obtain⟨m',hm,w7⟩:=hN σ7 H7 n7
   refine⟨m',hm,i+1,σ7,H7,I7.LK,T.keep _ _ _ st5 λb hb o e=>(I7.pin (b,o) (vX _ (vX _ (IM hb e)))).1,λb hb=>?_,w7⟩
   obtain⟨o,e,d⟩:=T.obj _ _ st5 b hb
   exact(I7.pin (b,o) (vX _ (vX _ (IM hb e)))).2.1
  cases f with
  |next=>obtain⟨σ7,H7,I7,n7⟩:=q7;exact again I7 n7
  |cont=>obtain⟨σ7,H7,I7,n7⟩:=q7;exact again I7 n7
  |brk=>obtain⟨σ7,H7,I7,q7⟩:=q7;exact⟨σ7,H7,I7.LK,q7⟩
  |ret v=>obtain⟨x7,σ7,H7,I7,r7,q7⟩:=q7;exact⟨x7,σ7,H7,I7.LK,r7,q7⟩
end
end L2
namespace L2
open PySem PySem.Spec PyProof.Rows
abbrev R2:=V->V->Hp->VK->Prop
def OpR(X:Cx)(f:uY->uY->Sem uY)(r:R2):Prop:=
 ∀(pins:Wp (ug×Obj)) (s:uj) (σ:St) (H:Hp) (x y:V) (v u:uY) (Q:VK),Inv X pins σ H s->RelV x v->RelV y u->r x y H Q->
  wpAny (model X.prog X.w) X.A (f v u) (EP X pins σ Q) X.xe s
def UnR(X:Cx)(f:uY->Sem uY)(r:V->Hp->VK->Prop):Prop:=
 ∀(pins:Wp (ug×Obj)) (s:uj) (σ:St) (H:Hp) (x:V) (v:uY) (Q:VK),Inv X pins σ H s->RelV x v->r x H Q->
  wpAny (model X.prog X.w) X.A (f v) (EP X pins σ Q) X.xe s
def Eg(X:Cx)(f:uY)(r:Wp V->Hp->VK->Prop):Prop:=
 ∀(pins:Wp (ug×Obj)) (s:uj) (σ:St) (H:Hp) (xs:Wp V) (us:Wp uY) (Q:VK),Inv X pins σ H s->Vals xs us->r xs H Q->
  wpAny (model X.prog X.w) X.A (call f us) (EP X pins σ Q) X.xe s
noncomputable def tOp(r:R2)(ta tb:TE):TE:=λσ H Q=>ta σ H λx H1=>tb σ H1 λy H2=>r x y H2 Q
noncomputable def tUn(r:V->Hp->VK->Prop)(ta:TE):TE:=λσ H Q=>ta σ H λx H1=>r x H1 Q
noncomputable def rI(C:Int->Int->Prop)(g:Int->Int->V):R2:=λx y H Q=>∃i j,x=.int i/\y=.int j/\C i j/\Q (g i j) H
noncomputable def rI0(g:Int->Int->V):R2:=λx y H Q=>∃i j,x=.int i/\y=.int j/\Q (g i j) H
def rU(g:Int->V):V->Hp->VK->Prop:=λx H Q=>∃i,x=.int i/\Q (g i) H
section
variable{X:Cx}{a b c:vj}{ta tb tc:TE}{pos:Pos}
def oy(ha:PE X a ta)(hb:PE X b tb){σ:St}{R:V->V->Hp->Prop}(I:Inv X pins σ H s)(h:ta σ H λx H1=>tb σ H1 λy H2=>R x y H2){f:uY->uY->Sem uY}(hf:∀v u s2 x y H2,Inv X pins σ H2 s2->RelV x v->RelV y u->R x y H2->wpAny (model X.prog X.w) X.A (f v u) Q X.xe s2):wpAny (model X.prog X.w) X.A (eval a X.env) (λv s₁=>wpAny (model X.prog X.w) X.A (eval b X.env) (λu s₂=>wpAny (model X.prog X.w) X.A (f v u) Q X.xe s₂) X.xe s₁) X.xe s:=by
 refine thn (ha pins s σ H _ I h) λv s1 z=>?_
 obtain⟨x,H1,I1,r1,q1⟩:=z
 refine thn (hb pins s1 σ H1 _ I1 q1) λu s2 z=>?_
 obtain⟨y,H2,I2,r2,q2⟩:=z
 exact hf v u s2 x y H2 I2 r1 r2 q2
def oG{op:Operator}{r:R2}(ho:OpR X (binaryOp op) r)(ha:PE X a ta)(hb:PE X b tb):PE X (.BinOp a op b pos) (tOp r ta tb):=by
 intro pins s σ H Q I h
 exact wpAny_BinOp (oy ha hb I h λv u s2 x y H2 I2 rx ry q=>ho pins s2 σ H2 x y v u Q I2 rx ry q)
def qA{op:UnaryOp}{r:V->Hp->VK->Prop}(ho:UnR X (unaryOp op) r)(ha:PE X a ta):PE X (.UnaryOp op a pos) (tUn r ta):=by
 intro pins s σ H Q I h
 exact UnaryOp_ (thn (ha pins s σ H _ I h) λv s1 ⟨x,H1,I1,r1,q1⟩=>ho pins s1 σ H1 x v Q I1 r1 q1)
def opI{C:Int->Int->Prop}{g:Int->Int->Int}(rule:∀i j (t u:Tok) s Q E,C i j->Q (.int (g i j) s.toks) {s with toks:=s.toks+1}->wpAny (model X.prog X.w) X.A (f (.int i t) (.int j u)) Q E s):OpR X f (rI C λi j=>.int (g i j)):=by
 intro pins s σ H x y v u Q I rx ry h
 obtain⟨i,j,rfl,rfl,hc,q⟩:=h
 obtain⟨t,rfl⟩:=rx
 obtain⟨t',rfl⟩:=ry
 exact rule i j t t' s _ _ hc ⟨.int (g i j),H,I.tok _,⟨_,rfl⟩,q⟩
def qd{g:Int->Int->Int}(rule:∀i j (t u:Tok) s Q E,Q (.int (g i j) s.toks) {s with toks:=s.toks+1}->wpAny (model X.prog X.w) X.A (f (.int i t) (.int j u)) Q E s):OpR X f (rI0 λi j=>.int (g i j)):=by
 intro pins s σ H x y v u Q I rx ry h
 obtain⟨i,j,rfl,rfl,q⟩:=h
 obtain⟨t,rfl⟩:=rx
 obtain⟨t',rfl⟩:=ry
 exact rule i j t t' s _ _ ⟨.int (g i j),H,I.tok _,⟨_,rfl⟩,q⟩
def lU{g:Int->Int->va}(rule:∀i j (t u:Tok) s Q E,Q (.bool (g i j)) s->wpAny (model X.prog X.w) X.A (f (.int i t) (.int j u)) Q E s):OpR X f (rI0 λi j=>.bl (g i j)):=by
 intro pins s σ H x y v u Q I rx ry h
 obtain⟨i,j,rfl,rfl,q⟩:=h
 obtain⟨t,rfl⟩:=rx
 obtain⟨t',rfl⟩:=ry
 exact rule i j t t' s _ _ ⟨.bl (g i j),H,I,rfl,q⟩
def rg(i j:Int):Prop:=0<=j/\j<=1000000/\i.natAbs<2^64
def pf(i j:Int):Prop:=(-(2^64)<i/\i<2^64)\/(-(2^64)<j/\j<2^64)
def pf.ok{i j:Int}(h:pf i j):IntMulOk i j:=by
 rcases h with⟨h1,h2⟩|⟨h1,h2⟩
 .exact .of_left (intBits_le_64 h1 h2)
 .exact .of_right (intBits_le_64 h1 h2)
def gX:OpR X (binaryOp .Add) (rI0 λi j=>.int (i+j)):=qd λ_ _ _ _ _ _ _ q=>add_int q
def iI:OpR X (binaryOp .Sub) (rI0 λi j=>.int (i-j)):=qd λ_ _ _ _ _ _ _ q=>sub_int q
def ZH:OpR X (binaryOp .Mult) (rI pf λi j=>.int (i*j)):=opI λ_ _ _ _ _ _ _ hc q=>mul_int q hc.ok
def i0:OpR X (binaryOp .Mod) (rI (λ_ j=>0<j) λi j=>.int (i % j)):=opI λi j _ _ _ _ _ hc q=>by
 have h1:(0:Int)<j:=hc
 exact mod_int' (by lia) (by rw[Int.fmod_eq_emod_of_nonneg i (by lia)];exact q)
def iX:OpR X (binaryOp .Pow) (rI rg λi j=>.int (i^j.toNat)):=opI λ_ _ _ _ _ _ _ hc q=>pow_int_small hc.1 hc.2.1 hc.2.2 q
def unI{g:Int->Int}(rule:∀i (t:Tok) s Q E,Q (.int (g i) s.toks) {s with toks:=s.toks+1}->wpAny (model X.prog X.w) X.A (f (.int i t)) Q E s):UnR X f (rU λi=>.int (g i)):=by
 intro pins s σ H x v Q I rx h
 obtain⟨i,rfl,q⟩:=h
 obtain⟨t,rfl⟩:=rx
 exact rule i t s _ _ ⟨.int (g i),H,I.tok _,⟨_,rfl⟩,q⟩
def jW:UnR X (unaryOp .USub) (rU λi=>.int (-i)):=unI λ_ _ _ _ _ q=>neg_int q
end
section
variable{X:Cx}{a b c:vj}{ta tb tc:TE}{pos:Pos}
def ZQ{σ:St}(I:Inv X pins σ H s)(q:Q (.bl k) H)(e:k=k'):EP X pins σ Q (.bool k') s:=by
 subst e
 exact⟨.bl k,H,I,rfl,q⟩
def iO:OpR X (compareOp .Lt) (rI0 λi j=>.bl (decide (i<j))):=lU λ_ _ _ _ _ _ _ q=>lt_int q
def Xe:OpR X (compareOp .LtE) (rI0 λi j=>.bl (decide (i<=j))):=lU λ_ _ _ _ _ _ _ q=>le_int q
def nX:OpR X (compareOp .Gt) (rI0 λi j=>.bl (decide (j<i))):=lU λ_ _ _ _ _ _ _ q=>gt_int q
def nB:OpR X (compareOp .GtE) (rI0 λi j=>.bl (decide (j<=i))):=lU λ_ _ _ _ _ _ _ q=>ge_int q
def jI:OpR X (compareOp .Is) (λx y H Q=>y=.non/\Q (.bl (decide (x=.non))) H):=by
 intro pins s σ H x y v u Q I rx ry h
 obtain⟨rfl,q⟩:=h
 cases ry
 refine is_none_gen (ZQ I q ?_)
 cases x<;>first
  |(cases rx;rfl)
  |(obtain⟨t,rfl⟩:=rx;rfl)
def bT:OpR X (compareOp .IsNot) (λx y H Q=>y=.non/\Q (.bl (!decide (x=.non))) H):=by
 intro pins s σ H x y v u Q I rx ry h
 obtain⟨rfl,q⟩:=h
 cases ry
 refine isnot_none_gen (ZQ I q ?_)
 cases x<;>first
  |(cases rx;rfl)
  |(obtain⟨t,rfl⟩:=rx;rfl)
def bw{op:CmpOp}{r:R2}(ho:OpR X (compareOp op) r)(ha:PE X a ta)(hb:PE X b tb)(hm:behindInMarks op b=false):PE X (.Compare a [op] [b] pos) (tOp r ta tb):=by
 intro pins s σ H Q I h
 exact wpAny_Compare1 (oy ha hb I h λv u s2 x y H2 I2 rx ry q=>ho pins s2 σ H2 x y v u Q I2 rx ry q) hm
noncomputable def jK(t:TE):TT:=λσ H Q=>t σ H λx H'=>∃k,x=.bl k/\Q k H'
def VZ{op:CmpOp}{r:R2}(ho:OpR X (compareOp op) r)(ha:PE X a ta)(hb:PE X b tb)(hm:behindInMarks op b=false):PT X (.Compare a [op] [b] pos) (jK (tOp r ta tb)):=by
 intro pins s σ H Q I h
 refine wpAny_isTrue_Compare1 (thn (ha pins s σ H _ I h) λv s1 ⟨x,H1,I1,r1,q1⟩=>thn (hb pins s1 σ H1 _ I1 q1) λu s2 ⟨y,H2,I2,r2,q2⟩=>
  thn (ho pins s2 σ H2 x y v u _ I2 r1 r2 q2) λc s3 ⟨z,H3,I3,r3,k,e,q3⟩=>?_) hm
 subst e
 cases r3
 exact xA ⟨H3,I3,q3⟩
noncomputable def WO(r r':R2)(ta tb tc:TE):TE:=λσ H Q=>ta σ H λx H1=>tb σ H1 λy H2=>r x y H2 λz H3=>∃k,z=.bl k/\
 (if k=true then tc σ H3 λw' H4=>r' y w' H4 Q else Q (.bl false) H3)
def R4{op op':CmpOp}{r r':R2}(ho:OpR X (compareOp op) r)(ho':OpR X (compareOp op') r')(ha:PE X a ta)(hb:PE X b tb)(hc:PE X c tc)(hm:zn (lastMarks [op,op'] [b,c]=false) wr):PE X (.Compare a [op,op'] [b,c] pos) (WO r r' ta tb tc):=by
 intro pins s σ H Q I h
 refine Compare_chain (thn (ha pins s σ H _ I h) λv s1 ⟨x,H1,I1,r1,q1⟩=>chain_link (thn (hb pins s1 σ H1 _ I1 q1) λu s2 ⟨y,H2,I2,r2,q2⟩=>
  thn (ho pins s2 σ H2 x y v u _ I2 r1 r2 q2) λd s3 ⟨z,H3,I3,r3,k,e,q3⟩=>?_)) hm
 subst e
 cases r3
 refine xA ?_
 cases k with
 |false=>exact ite_ff ⟨.bl false,H3,I3,rfl,q3⟩
 |true=>exact ite_tt (chain_last (thn (hc pins s3 σ H3 _ I3 q3) λw' s4 ⟨z',H4,I4,r4,q4⟩=>ho' pins s4 σ H4 y z' u w' Q I4 r2 r4 q4))
def P8:(sizeLine:Nat)<2^63:=by rw[xJ];decide
def SU:OpR X (binaryOp .Add) (λx y H Q=>∃i j,x=.str i/\y=.str j/\i.length+j.length<=sizeLine/\Q (.str (i++j)) H):=by
 intro pins s σ H x y v u Q I rx ry h
 obtain⟨i,j,rfl,rfl,hz,q⟩:=h
 obtain⟨t,rfl⟩:=rx
 obtain⟨t',rfl⟩:=ry
 exact add_str (λt' tk=>⟨.str (i++j),H,I.tok _,⟨_,rfl⟩,q⟩) hz
def vals1{x:V}{us:Wp uY}(r:Vals [x] us):∃u,us=[u]/\RelV x u:=by
 cases r with
 |cons r1 r2=>cases r2;exact⟨_,rfl,r1⟩
def vals2{x y:V}{us:Wp uY}(r:Vals [x,y] us):∃u w',us=[u,w']/\RelV x u/\RelV y w':=by
 cases r with
 |cons r1 r2=>
  cases r2 with
  |cons r3 r4=>cases r4;exact⟨_,_,rfl,r1,r3⟩
def Yl:Eg X (.builtin "abs") (λxs H Q=>∃i,xs=[.int i]/\Q (.int (if i<0 then-i else i)) H):=by
 intro pins s σ H xs us Q I r h
 obtain⟨i,rfl,q⟩:=h
 obtain⟨u,rfl,t,rfl⟩:=vals1 r
 exact call_abs_int λu tk=>⟨.int (if i<0 then-i else i),H,I.tok _,⟨_,rfl⟩,q⟩
def UM(hc:X.calm=true):Eg X (.builtin "min") (λxs H Q=>∃i j,xs=[.int i,.int j]/\Q (.int (if j<i then j else i)) H):=by
 intro pins s σ H xs us Q I r h
 obtain⟨i,j,rfl,q⟩:=h
 obtain⟨u,w',rfl,⟨t,rfl⟩,⟨t',rfl⟩⟩:=vals2 r
 refine min_two_ints (I.ok.hd hc) λh' tk k=>⟨_,H,I.kept k,?_,q⟩
 by_cases hj:j<i
 .rw[vD hj,vD hj];exact⟨_,rfl⟩
 .rw[vC hj,vC hj];exact⟨_,rfl⟩
def Pe:Eg X (.type "int") (λxs H Q=>(∃i,xs=[.int i]/\Q (.int i) H)\/∃k,xs=[.bl k]/\Q (.int (if k then 1 else 0)) H):=by
 intro pins s σ H xs us Q I r h
 rcases h with⟨i,rfl,q⟩|⟨k,rfl,q⟩
 .obtain⟨u,rfl,t,rfl⟩:=vals1 r
  exact call_int_int ⟨.int i,H,I,⟨_,rfl⟩,q⟩
 .obtain⟨u,rfl,r1⟩:=vals1 r
  cases r1
  exact call_int_bool ⟨.int (if k then 1 else 0),H,I.tok _,⟨_,rfl⟩,q⟩
end
end L2
namespace L2
open PySem PySem.Spec PyProof.Rows
structure bO(h:vt)(x dx C:ug)(mA:Str->uS uY):Prop where
 obj:h.get? x=Gc (xD C dx)
 ns:h.Ns1 dx mA
 ne:dx≠x
def QC{h:vt}{mA:Str->uS uY}(n:h.Ns1 dx mA):∃od,h.get? dx=Gc od/\∀name,AAI name od=Gc (mA name):=by
 obtain⟨o,es,ep,ho,hd,hk,_,hm⟩:=n
 refine⟨o,ho,λname=>?_⟩
 have e:=hm name
 unfold nsFind findBy at e
 rw[<-AB1]at e
 unfold AAI
 rw[hd]
 dsimp only
 split
 .rename_i y q
  rw[q]at e
  exact congrArg Gc e
 .rename_i q
  rw[q]at e
  have a:es.toList.any (·.refKey)=false:=by
   rw[List.any_eq_false]
   intro y hy
   obtain⟨z,t,hkey⟩:=hk y (Array.mem_toList_iff.mp hy)
   simp[DictEntry.refKey,hkey]
  have a':¬es.toList.any (·.refKey)=true:=by rw[a];exact vZ
  rw[vC a']
  exact congrArg Gc e
def bO.look{mA:Str->uS uY}(I:bO h x dx C mA):∃od,zB h x (xD C dx) C (Gc od)/\∀name,AAI name od=Gc (mA name):=
 let⟨od,ho,hl⟩:=QC I.ns
 ⟨od,⟨I.obj,rfl,rfl,ho⟩,hl⟩
section
variable{prog:vb}{w:wH}{A:w9}{E:uY->uj->Prop}{s:uj}{K:W1}{x dx C f:ug}{mA:Str->uS uY}{name:Str}{v:uY}
def get_map{expr:va}{Q:uY->uj->Prop}(X:K.In s.heap)(I:bO s.heap x dx C mA)(hg:yc K C name=true)(hh:yT K C=true)(ha:vB K (.ref C) name=Gc none)(hv:mA name=Gc v)(hv':AAo v=true)(h:Q v {s with toks:=s.toks+1}):wpAny (model prog w) A (getAttr (.ref x) name expr) Q E s:=by
 obtain⟨od,J,hl⟩:=I.look
 exact PySem.W.get_value X J (zw hg).1 (ABi hh ha rfl (by rw[hl,hv])) hv' h
def XB{pl:Sem va}{Q:uY×Wp uY->uj->Prop}(X:K.In s.heap)(I:bO s.heap x dx C mA)(hg:yc K C name=true)(hf:vB K (.ref C) name=Gc (Gc (.ref f)))(ht:z5 K (.ref f)=true)(hv:mA name=none)(h:Q (.ref f,[.ref x]) s):wpAny (model prog w) A (getMethod (.ref x) name pl) Q E s:=by
 obtain⟨od,J,hl⟩:=I.look
 exact PySem.W.method_fn X J (zw hg).1 (zw hg).2 hf (wJ.mp ht) (by show(AAI name od).map (·.isSome)=Gc false;rw[hl,hv];rfl) h
def d8{ns:Wp Str}{Q:Unit->uj->Prop}(X:K.In s.heap)(I:bO s.heap x dx C mA)(hs:vB K (.ref C) "__setattr__"=Gc (Gc (.builtin "object.__setattr__")))(hp:AAa K C=true)(ht:ABC K C name=Gc none)(hh:yT K C=true)(hw:PySem.Within mA ns)(hsz:ns.length<=sizeLine)(h:∀h',bO h' x dx C (λy=>if y=name then Gc v else mA y)->yF dx s.heap h'->Q () {s with heap:=h',toks:=s.toks+2}):wpAny (model prog w) A (setAttr (.ref x) name v) Q E s:=by
 obtain⟨od,J,hl⟩:=I.look
 refine PySem.W.set_plain X J hs (PySem.W.osa_open (s:={s with toks:=s.toks+1}) (r:=none) X J hp ht λb=>?_)
 obtain⟨cd,hc,hd'⟩:=PySem.W.any_some hh
 have hx:s.heap.get? x=Gc ⟨.ref C,Gc dx,.plain, #[]⟩:=I.obj
 refine uQ (uh (uQ (uQ (wpAny_loadPart hx (uQ (PySem.W.Looks.here (s:={s with toks:=s.toks+1}) (zx X hc) ?_))))))
 rw[hd']
 refine uh (a:=Gc dx) (uQ (uh (uQ ?_)))
 refine wpAny_nsSet1 (s:={s with toks:=s.toks+1}) I.ns λh' hn2 hs2=>?_
 obtain⟨oD,esD,epD,hoD,hdD,hcD⟩:=hn2.count (PySem.Within.cons name v hw)
 refine uQ (wpAny_lookBehind hoD (by rw[hdD];exact pastItsLine_dict (ub hcD (by rw[vH];lia))) ?_)
 exact uh (h _ ⟨(hs2.2 _ (vi I.ne)).trans I.obj,hn2,I.ne⟩ hs2)
def YA{kw:Wp (Str×uY)}(X:K.In s.heap)(hm:ABD K C=true)(hi:vB K (.ref C) "__init__"=Gc (Gc (.ref f)))(hf:PySem.W.typeIn K (.ref f)=Gc (.type "function"))(h:codeAny (model prog w) (A.under (.builtin "type.__call__" ⟨.ref C::vs,kw⟩)) (.call (.ref f) ⟨.ref (s.heap.objs.size+1)::vs,kw⟩) (PySem.W.InitBack (s.heap.objs.size+1) R) {s with heap:=(s.heap.push wL).push (xD C s.heap.objs.size)}):codeAny (model prog w) A (.call (.ref C) ⟨vs,kw⟩) R s:=by
 obtain⟨hh,g,d,t,os⟩:=s
 exact PySem.W.make_core (PySem.W.makes_of X hm) (ze X hi) (λself=>PySem.W.bind_fn X self hf) (.inl rfl) h
end
noncomputable def Nq(f:Str)(v:V):Wp (Str×V)->Wp (Str×V)
 | []=>[(f,v)]
 |(g,x)::r=>if g=f then(g,v)::r else(g,x)::Nq f v r
theorem ME f g(v:V):∀fs,(Nq f v fs).lookup g=if g=f then Gc v else fs.lookup g
 | []=>by
   show vm g [(f,v)]=_
   by_cases h:g=f
   .have hb:(g==f)=true:=wJ.mpr h
    simp only[vm,hb,vD h]
   .have hb:(g==f)=false:=vc.mpr h
    simp only[vm,hb,vC h]
 |(k,x)::r=>by
  have ih:=ME f g v r
  rw[show Nq f v ((k,x)::r)=(if k=f then(k,v)::r else(k,x)::Nq f v r)from rfl]
  by_cases hk:k=f
  .rw[vD hk]
   by_cases h:g=k
   .have hb:(g==k)=true:=wJ.mpr h
    simp only[vm,hb,vD (h.trans hk)]
   .have hb:(g==k)=false:=vc.mpr h
    simp only[vm,hb,vC (λe:g=f=>h (e.trans hk.symm))]
  .rw[vC hk]
   by_cases h:g=k
   .have hb:(g==k)=true:=wJ.mpr h
    simp only[vm,hb,vC (λe:g=f=>hk (h.symm.trans e))]
   .have hb:(g==k)=false:=vc.mpr h
    simp only[vm,hb]
    exact ih
theorem MT f(v:V):∀fs,f∈(Nq f v fs).map (·.1)/\∀g,g∈fs.map (·.1)->g∈(Nq f v fs).map (·.1)
 | []=>⟨by simp[Nq],λg h=>by simp at h⟩
 |(k,x)::r=>by
  obtain⟨i1,i2⟩:=MT f v r
  rw[show Nq f v ((k,x)::r)=(if k=f then(k,v)::r else(k,x)::Nq f v r)from rfl]
  by_cases hk:k=f
  .rw[vD hk]
   subst hk
   exact⟨by simp,λg h=>by simpa using h⟩
  .rw[vC hk]
   refine⟨?_,λg h=>?_⟩
   .rw[ux]
    exact uX _ i1
   .rw[ux]at h⊢
    rcases uZ.mp h with e|e
    .exact uZ.mpr (.inl e)
    .exact uX _ (i2 g e)
theorem Lu f(v:V):∀fs,(Nq f v fs).length<=fs.length+1
 | []=>by simp[Nq]
 |(k,x)::r=>by
  have ih:=Lu f v r
  rw[show Nq f v ((k,x)::r)=(if k=f then(k,v)::r else(k,x)::Nq f v r)from rfl]
  by_cases hk:k=f
  .rw[vD hk,vH,vH];lia
  .rw[vC hk,vH,vH];lia
def OY.some_of{v:V}{o:uS uY}(r:OY (Gc v) o):∃u,o=Gc u/\RelV v u:=by
 cases o with
 |none=>exact(show wI from r).elim
 |some u=>exact⟨u,rfl,r⟩
def OY.none_of{o:uS uY}(r:OY none o):o=none:=by
 cases o with
 |none=>rfl
 |some u=>exact(show wI from r).elim
def VH{v:V}{u:uY}(r:RelV v u):AAo u=true:=by
 cases v with
 |non=>cases (show u=vL from r);rfl
 |bl b=>cases (show u=AAD b from r);rfl
 |int i=>obtain⟨t,e⟩:=(show∃t,u=AAB i t from r);cases e;rfl
 |str x=>obtain⟨t,e⟩:=(show∃t,u=AAC x t from r);cases e;rfl
 |byt b=>obtain⟨t,e⟩:=(show∃t,u=Value.bytes b t from r);cases e;rfl
 |flt b=>obtain⟨t,e⟩:=(show∃t,u=Value.float b t from r);cases e;rfl
 |ref a=>cases (show u=u6 a from r);rfl
 |ty n=>cases (show u=AAE n from r);rfl
section
variable{P:vb}{w:wH}{H H':Hp}{h h':vt}{a C dx:ug}{fs fs':Wp (Str×V)}
def OP(hok:HOk P w H h)(e:H a=Gc (.ins C dx fs)):∃mA,bO h a dx C mA/\(∀f,OY (fs.lookup f) (mA f))/\PySem.Within mA (fs.map (·.1))/\fs.length<=1000/\H dx=Gc (.own a):=by
 obtain⟨d,z,ne,ob,mA,n,r,q⟩:=(show CU P w H h a (.ins C dx fs)from hok a _ e)
 exact⟨mA,⟨ob,n,ne⟩,r,q,z,d⟩
end
structure Cls(K:W1)(C:ug):Prop where
 pg:yc K C Str.empty=true
 hd:yT K C=true
 po:AAa K C=true
 sa:vB K (.ref C) "__setattr__"=Gc (Gc (.builtin "object.__setattr__"))
def Cls.get{K:W1}(c:Cls K C)(f:Str):yc K C f=true:=c.pg
def Hw(K:W1)(C:ug)(f:Str):Prop:=vB K (.ref C) f=Gc none
def Hw.oM{K:W1}{f:Str}(n:Hw K C f):ABC K C f=Gc none:=by
 unfold ABC
 rw[show vB K (.ref C) f=Gc none from n]
 rfl
structure Con(K:W1)(C:ug)(f:Str)(v:V)(u:uY):Prop where
 at_:vB K (.ref C) f=Gc (Gc u)
 rel:RelV v u
 get:zC K u "__get__"=Gc none
 cp:PySem.W.copiedNames.contains f=false
structure Meth(K:W1)(C:ug)(m:Str)(f:ug):Prop where
 at_:vB K (.ref C) m=Gc (Gc (.ref f))
 fn:z5 K (.ref f)=true
 kp:vn K (.ref f)=true
section
variable{X:Cx}{pins:Wp (ug×Obj)}{σ:St}{H:Hp}{s:uj}{a C dx:ug}{fs:Wp (Str×V)}{f:Str}{v:V}{A:w9}{E:uY->uj->Prop}
def Ss{b:va}{Q:uY->uj->Prop}(I:Inv X pins σ H s)(e:H a=Gc (.ins C dx fs))(c:Cls X.K C)(n:Hw X.K C f)(l:fs.lookup f=Gc v)(h:∀u s',Inv X pins σ H s'->RelV v u->Q u s'):wpAny (model X.prog X.w) A (getAttr (.ref a) f b) Q E s:=by
 obtain⟨mA,O,r,_,_,_⟩:=OP I.hok e
 obtain⟨u,hu,ru⟩:=OY.some_of (v:=v) (o:=mA f) (by rw[<-l];exact r f)
 exact get_map I.kIn O (c.get f) c.hd n hu (VH ru) (h u _ (I.tok _) ru)
def J8{Q:uY×Wp uY->uj->Prop}(I:Inv X pins σ H s)(e:H a=Gc (.ins C dx fs))(c:Cls X.K C)(k:Meth X.K C m g)(l:fs.lookup m=none)(h:Q (.ref g,[.ref a]) s):wpAny (model X.prog X.w) A (getMethod (.ref a) m pl) Q E s:=by
 obtain⟨mA,O,r,_,_,_⟩:=OP I.hok e
 have hn:mA m=none:=OY.none_of (by rw[<-l];exact r m)
 exact XB I.kIn O (c.get m) k.at_ k.fn hn h
def TX{Q:Unit->uj->Prop}(I:Inv X pins σ H s)(e:H a=Gc (.ins C dx fs))(c:Cls X.K C)(n:Hw X.K C f)(hl:fs.length<1000)(ry:RelV y u)(h:∀s',Inv X pins σ (upd H a (.ins C dx (Nq f y fs))) s'->Q () s'):wpAny (model X.prog X.w) A (setAttr (.ref a) f u) Q E s:=by
 obtain⟨mA,O,r,wi,_,ho⟩:=OP I.hok e
 have hz:(fs.map (·.1)).length<=sizeLine:=by rw[vO,xJ];lia
 refine d8 I.kIn O c.sa c.po n.oM c.hd wi hz λh' O' sb=>h _ ?_
 have hd:∃o,h'.get? dx=Gc o:=let⟨o,_,_,e',_⟩:=O'.ns;⟨o,e'⟩
 refine I.write (x:=a) (e:=dx) (by rw[e];exact xN) (.inr ho) (λb q hb z=>(sb.2 b hb).trans z) hd ?_
 refine⟨by rw[AM O.ne];exact ho,?_,O.ne,O'.obj,_,O'.ns,λg=>?_,λg hg=>?_⟩
 .have:=Lu f y fs;lia
 .show OY ((Nq f y fs).lookup g) (if g=f then Gc u else mA g)
  rw[ME]
  by_cases q:g=f
  .rw[vD q,vD q];exact ry
  .rw[vC q,vC q];exact r g
 .by_cases q:g=f
  .rw[q];exact(MT f y fs).1
  .refine(MT f y fs).2 g (wi g λz=>hg ?_)
   show(if g=f then Gc u else mA g)=none
   rw[vC q];exact z
def Inv.made(I:Inv X pins σ H s):Inv X pins σ (upd (upd H s.heap.objs.size (.own (s.heap.objs.size+1))) (s.heap.objs.size+1) (.ins C s.heap.objs.size [])) {s with heap:=(s.heap.push wL).push (xD C s.heap.objs.size)}:=by
 have e1:(s.heap.push wL).get? s.heap.objs.size=Gc wL:=uy s.heap rfl
 have e2:((s.heap.push wL).push (xD C s.heap.objs.size)).get? (s.heap.objs.size+1)=Gc (xD C s.heap.objs.size):=by
  have:=uy (s.heap.push wL) (o:=xD C s.heap.objs.size) rfl
  rwa [v7]at this
 have e3:(s.heap.push wL).Ns s.heap.objs.size (λ_=>none):=⟨wL, #[],_,e1,rfl,(λe he=>absurd he (by simp)),λ_=>rfl⟩
 have I1:=I.laid (a:=s.heap.objs.size) (o:=.own (s.heap.objs.size+1)) (h':=s.heap.push wL) (t':=s.toks) (λb u q=>uR _ q) (ue _) ⟨_,e1⟩
 refine I1.laid (a:=s.heap.objs.size+1) (o:=.ins C s.heap.objs.size []) (t':=s.toks) (λb u q=>uR _ q) (Nat.le_of_eq (v7 _ _)) ?_
 have ne:s.heap.objs.size≠s.heap.objs.size+1:=vF (AAp _)
 refine⟨by rw[AM ne,AX],wM _,ne,e2,λ_=>none,(Heap.Ns1.of_empty e3).at λo q=>uR _ q,λ_=>xN,λy hy=>absurd rfl hy⟩
def Vk(hb:attributeBase e f env (eval e env)=eval e env)(h:wpAny (model prog w) A (eval e env) (λo s₁=>wpAny (model prog w) A (getAttr o f true) Q E s₁) E s):wpAny (model prog w) A (eval (.Attribute e f pos) env) Q E s:=
 Attribute_any_ h (by rw[arm_eval_Attribute,hb])
end
noncomputable def rT(K:W1)(ta:TE)(f:Str):TE:=λσ H Q=>ta σ H λx H1=>∃a C dx fs v,x=.ref a/\H1 a=Gc (.ins C dx fs)/\Cls K C/\Hw K C f/\fs.lookup f=Gc v/\Q v H1
noncomputable def rh(K:W1)(ta tv:TE)(f:Str):TS:=λD σ H=>tv σ H λy H1=>ta σ H1 λx H2=>∃a C dx fs,x=.ref a/\H2 a=Gc (.ins C dx fs)/\Cls K C/\Hw K C f/\fs.length<1000/\
 D.nx σ (upd H2 a (.ins C dx (Nq f y fs)))
section
variable{X:Cx}{o e value:vj}{f:Str}{pos pos' tpos:Pos}{ta tv:TE}
def iY(he:PE X e ta)(hb:attributeBase e f X.env (eval e X.env)=eval e X.env):PE X (.Attribute e f pos) (rT X.K ta f):=by
 intro pins s σ H Q I h
 refine Vk hb (thn (he pins s σ H _ I h) λu s1 z=>?_)
 obtain⟨x,H1,I1,rx,a,C,dx,fs,v,ex,ea,c,n,l,q⟩:=z
 subst ex
 obtain rfl:u=u6 a:=rx
 exact Ss I1 ea c n l λu' s2 I2 ru=>⟨v,H1,I2,ru,q⟩
def kR(ha:PE X o ta)(hv:PE X value tv)(hs:swapsWith value (Gc (.Attribute o f pos')) pos.line X.env=pure false):PS X (.Assign [.Attribute o f pos'] value pos) (rh X.K ta tv f):=by
 intro pins s σ H D I h
 refine zO (thn (hv pins s σ H _ I h) λu s1 ⟨y,H1,I1,ry,q⟩=>thn (ha pins s1 σ H1 _ I1 q) λov s2 z=>?_) hs
 obtain⟨x,H2,I2,rx,a,C,dx,fs,ex,ea,c,n,l,q2⟩:=z
 subst ex
 obtain rfl:ov=u6 a:=rx
 exact TX I2 ea c n l ry λs3 I3=>⟨σ,_,I3,q2⟩
end
section
variable{X:Cx}{pins:Wp (ug×Obj)}{σ:St}{H:Hp}{s:uj}{A:w9}{E:uY->uj->Prop}{Q:uY->uj->Prop}{c:uY}{b:va}
inductive Tu(K:W1)(H:Hp):V->uY->Prop where
 |non:Tu K H .non (.type "NoneType")
 |bl (x:va):Tu K H (.bl x) (.type "bool")
 |int (i:Int):Tu K H (.int i) (.type "int")
 |str (x:Str):Tu K H (.str x) (.type "str")
 |flt (x:UInt64):Tu K H (.flt x) (.type "float")
 |lst {a:ug} {xs:Wp V} (e:H a=Gc (.lst xs)):Tu K H (.ref a) (.type "list")
 |frz {a:ug} {o:Obj} {xs:Wp V} (e:H a=Gc (.frz o (.lst xs))):Tu K H (.ref a) (.type "list")
 |tup {a:ug} {xs:Wp V} (e:H a=Gc (.tup xs)):Tu K H (.ref a) (.type "tuple")
 |dK {a:ug} {kvs:Wp (Key×V)} (e:H a=Gc (.dK kvs)):Tu K H (.ref a) (.type "dict")
 |dT {a:ug} {kvs:Wp (Wp Key×V)} (e:H a=Gc (.dT kvs)):Tu K H (.ref a) (.type "dict")
 |ins {a C dx:ug} {fs:Wp (Str×V)} (e:H a=Gc (.ins C dx fs)) (cl:Cls K C) (ha:vB K (.ref C) "__class__"=Gc (Gc (.builtin "object.__class__")))
   (hn:zC K (.builtin "object.__class__") "__get__"=Gc (Gc (.builtin "getset_descriptor.__get__"))) (htk:PySem.W.takesIn K (.builtin "object.__class__")=Gc true)
   (hm:xr K C (.type "object")=Gc true):Tu K H (.ref a) (.ref C)
def FI{x:V}{u t:uY}(I:Inv X pins σ H s)(rx:RelV x u)(ty:Tu X.K H x t)(e:xO X.K t c=Gc b)(h:∀tk,Q (.bool b) {s with toks:=tk}):wpAny (model X.prog X.w) A (call (.builtin "isinstance") [u,c]) Q E s:=by
 cases ty with
 |non=>cases (show u=vL from rx);exact v8 PySem.W.kitx_none I.kIn xN e (λz=>nomatch z) h
 |bl y=>cases (show u=AAD y from rx);exact v8 PySem.W.kitx_bool I.kIn xN e (λz=>nomatch z) h
 |int i=>obtain⟨t,q⟩:=(show∃t,u=AAB i t from rx);cases q;exact v8 PySem.W.kitx_int I.kIn xN e (λz=>nomatch z) h
 |str y=>obtain⟨t,q⟩:=(show∃t,u=AAC y t from rx);cases q;exact v8 PySem.W.kitx_str I.kIn xN e (λz=>nomatch z) h
 |flt y=>obtain⟨t,q⟩:=(show∃t,u=Value.float y t from rx);cases q;exact v8 PySem.W.kitx_float I.kIn xN e (λz=>nomatch z) h
 | @lst a xs ea=>
   cases (show u=u6 a from rx)
   obtain⟨_,_,n,_,h1⟩:=(show CU X.prog X.w H s.heap a (.lst xs)from I.hok a _ ea)
   exact v8 PySem.W.kitx_list I.kIn ⟨_,h1,rfl⟩ e (λz=>nomatch z) h
 | @frz a ob xs ea=>
   cases (show u=u6 a from rx)
   obtain⟨_,_,_,n,_,h1⟩:=(show CU X.prog X.w H s.heap a (.frz ob (.lst xs))from I.hok a _ ea)
   exact v8 PySem.W.kitx_list I.kIn ⟨_,h1,rfl⟩ e (λz=>nomatch z) h
 | @tup a xs ea=>
   cases (show u=u6 a from rx)
   obtain⟨_,_,_,p⟩:=(show CU X.prog X.w H s.heap a (.tup xs)from I.hok a _ ea)
   obtain⟨o,h1,h2,_⟩:=p
   exact v8 AB2 I.kIn ⟨o,h1,h2⟩ e (λz=>nomatch z) h
 | @dK a kvs ea=>
   cases (show u=u6 a from rx)
   obtain⟨_,_,vs,_,p⟩:=(show CU X.prog X.w H s.heap a (.dK kvs)from I.hok a _ ea)
   obtain⟨o,es,ep,h1,h2,_⟩:=p
   exact v8 PySem.W.kitx_dict I.kIn ⟨o,h1,h2.1⟩ e (λz=>nomatch z) h
 | @dT a kvs ea=>
   cases (show u=u6 a from rx)
   obtain⟨_,_,xs,_,o,es,ep,h1,h2,_⟩:=(show CU X.prog X.w H s.heap a (.dT kvs)from I.hok a _ ea)
   exact v8 PySem.W.kitx_dict I.kIn ⟨o,h1,h2.1⟩ e (λz=>nomatch z) h
 | @ins a C dx fs ea cl ha hn htk hm=>
   cases (show u=u6 a from rx)
   obtain⟨mA,O,_⟩:=OP I.hok ea
   obtain⟨od,J,_⟩:=O.look
   exact v8 (PySem.W.kitx_own (cl.get _) cl.hd ha hn htk hm) I.kIn J e (λz=>nomatch z) h
end
end L2
namespace L2
open PySem PySem.Spec PyProof.Rows
structure Cg(k:Nat)(A:w9):Prop where
 hd:A.handled=none
 dp:A.depth+3*k+5<recursionLimit
 un:A.units+16*k+200<cLine
def Cg.mono{j k:Nat}{A:w9}(r:Cg k A)(h:j<=k):Cg j A:=⟨r.hd,by have:=r.dp;lia,by have:=r.un;lia⟩
def Cg.deeper(r:Cg (k+1) A)(env:Env):Cg k (A.deeper env):=
 ⟨r.hd,by have:=r.dp;show A.depth+1+3*k+5<_;lia,by have:=r.un;show A.units+3+16*k+200<_;lia⟩
def Sk{A:w9}{kw:Wp (Str×uY)}:(A.under (.builtin "type.__call__" ⟨.ref C::us,kw⟩)).depth=A.depth+1:=by
 first|rfl|simp[Around.under,Code.weight,Code.isCreation,Code.isGuard,Code.isCaller,Code.frames,Code.isFrame,guardIds]
def SR{A:w9}{kw:Wp (Str×uY)}:(A.under (.builtin "type.__call__" ⟨.ref C::us,kw⟩)).units=A.units+1:=by
 first|rfl|simp[Around.under,Code.cUnits,Code.frames,Code.isFrame]
def Cg.make(r:Cg (k+1) A) C us kw:Cg k (A.under (.builtin "type.__call__" ⟨.ref C::us,kw⟩)):=
 ⟨r.hd,by have:=r.dp;rw[Sk];lia,by have:=r.un;rw[SR];lia⟩
def Cg.depth{k:Nat}{A:w9}(r:Cg k A):A.depth<recursionLimit:=by have:=r.dp;lia
noncomputable def ou:TA:=λ_ H Q=>Q [] H
noncomputable def iR(ta:TE)(tr:TA):TA:=λσ H Q=>ta σ H λx H1=>tr σ H1 λxs H2=>Q (x::xs) H2
section
variable{X:Cx}{e:vj}{es:Wp vj}{te:TE}{t:TA}{pos:Pos}
def NR:PA X [] ou:=λ_ _ _ _ H Q I h=>zy ⟨[],H,I,.nil,h⟩
def F6(ha:PE X e te)(hr:PA X es t)(hs:zn (uf (e::es) X.env=(false,eval e X.env)::uf es X.env) ww):PA X (e::es) (iR te t):=by
 intro pos pins s σ H Q I h
 rw[hs]
 show wpAny _ _ (spliced ((false,eval e X.env)::backTo pos (uf es X.env))) _ _ s
 refine xF (thn (ha pins s σ H _ I h) λu s1 z=>?_)
 obtain⟨x,H1,I1,r1,q1⟩:=z
 exact thn (hr pos pins s1 σ H1 _ I1 q1) λus s2 ⟨xs,H2,I2,r2,q2⟩=>⟨x::xs,H2,I2,.cons r1 r2,q2⟩
noncomputable def sN(t:TA):TE:=λσ H Q=>t σ H λxs H1=>xs.length<=sizeLine/\∀p,H1 p=none->Q (.ref p) (upd H1 p (.tup xs))
noncomputable def sV(t:TA):TE:=λσ H Q=>t σ H λxs H1=>xs.length<=sizeLine/\∀p,H1 p=none->Q (.ref p) (upd H1 p (.lst xs))
def Uh{x1}(h:PA X es t):PE X (.Tuple es x1 pos) (sN t):=by
 intro pins s σ H Q I hq
 refine ABj (thn (h pos pins s σ H _ I hq) λus s1 ⟨xs,H1,I1,r,z,q⟩=>⟨by rw[<-r.length];exact z,?_⟩)
 have hf:H1 s1.heap.objs.size=none:=I1.hok.fresh (ue _)
 refine⟨.ref s1.heap.objs.size,upd H1 s1.heap.objs.size (.tup xs),I1.laid (t':=s1.toks) (λb u e=>uR _ e) (ue _) ?_,rfl,q _ hf⟩
 exact⟨z,us,r,⟨_,uy _ rfl,rfl,_,rfl⟩⟩
def iC(h:PA X es t):PE X (.List es pos) (sV t):=by
 intro pins s σ H Q I hq
 refine wpAny_List_spliced (thn (h pos pins s σ H _ I hq) λus s1 ⟨xs,H1,I1,r,z,q⟩=>⟨by rw[<-r.length];exact z,?_⟩)
 have hf:H1 s1.heap.objs.size=none:=I1.hok.fresh (ue _)
 refine⟨.ref s1.heap.objs.size,upd H1 s1.heap.objs.size (.lst xs),I1.laid (t':=s1.toks) (λb u e=>uR _ e) (ue _) ?_,rfl,q _ hf⟩
 exact⟨z,us,0,r,uy _ rfl⟩
end
abbrev Sp:=Wp V->Hp->VK->XK->Prop
abbrev CXT:=Wp Env->Hp->uj->XK->uY->uj->Prop
structure ZI(P:vb)(w:wH)(K:W1)(mg:Str->uS uY)(base:vt)(A:w9)(outer:Wp Env)(s:uj)(H:Hp):Prop where
 frames:A.frames=Gc outer
 mod:Mod K mg base
 bs:∀b o,base.get? b=Gc o->s.heap.get? b=Gc o/\H b=none
 bsz:base.objs.size<=s.heap.objs.size
 QO:s.heap.FunFrames base outer
 frf:∀b∈frs outer,H b=none
 hok:HOk P w H s.heap
 bare:yx s.gens
def CE(outer:Wp Env)(P:vb)(w:wH)(H:Hp)(s:uj)(Q:VK)(u:uY)(s':uj):Prop:=
 ∃v H',s'.os=s.os/\yx s'.gens/\Un (frs outer) [] H H' s.heap s'.heap/\HOk P w H' s'.heap/\RelV v u/\Q v H'
def CR(CX:CXT)(outer:Wp Env)(P:vb)(w:wH)(H:Hp)(s:uj)(Q:VK)(E:XK)(r:Result)(s':uj):Prop:=
 match r with
 | .ok (.ret u)=>CE outer P w H s Q u s'
 | .ok _=>wI
 | .error e=>CX outer H s E e s'
structure Jm(P:vb)(w:wH)(K:W1)(mg:Str->uS uY)(base:vt)(CX:CXT)(k:Nat)(f:ug)(fd:zD)(ps:Wp Str)(sp:Sp):Prop where
 len:∀vs H Q E,sp vs H Q E->vs.length=ps.length
 run:∀(A:w9) (outer:Wp Env) (s:uj) (H:Hp) (args:Args) (us:Wp uY) (vs:Wp V) (Q:VK) (E:XK),Cg k A->ZI P w K mg base A outer s H->BindsTo s fd args (ps.zip us)->Vals vs us->sp vs H Q E->
  codeAny (model P w) A (.call (.ref f) args) (CR CX outer P w H s Q E) s
def Jm.mono{K:W1}(F:Jm P w K mg base CX j f fd ps sp)(h:j<=k):Jm P w K mg base CX k f fd ps sp:=⟨F.len,λA outer s H args us vs Q E hr=>F.run A outer s H args us vs Q E (hr.mono h)⟩
def ZI.make{K:W1}(e:ZI P w K mg base A outer s H)(C:ug) us kw:ZI P w K mg base (A.under (.builtin "type.__call__" ⟨.ref C::us,kw⟩)) outer s H:=⟨by first|exact e.frames|(simpa[Around.under,Code.envs,Code.isFrame,pushEnvs]using e.frames),e.mod,e.bs,e.bsz,e.QO,e.frf,e.hok,e.bare⟩
section
variable{X:Cx}{pins:Wp (ug×Obj)}{σ:St}{H:Hp}{s s':uj}
def Inv.Zd(I:Inv X pins σ H s):ZI X.prog X.w X.K X.mg X.base X.A X.stack s H:=
 ⟨I.ok.frames,I.ok.mod,I.bs,ub I.ok.bsz I.sz,I.stack,I.Q1,I.hok,I.bare⟩
def Inv.after{Q:VK}{u:uY}(I:Inv X pins σ H s)(h:CE X.stack X.prog X.w H s Q u s'):EP X pins σ Q u s':=by
 obtain⟨v,H',os,bare,un,hok,r,q⟩:=h
 obtain⟨hh,g,d,t,os'⟩:=s'
 obtain rfl:os'=s.os:=os
 exact⟨v,H',I.call (h':=hh) (g':=g) (d':=d) (t':=t) (ch:=[]) un hok bare (λb z=>absurd z (by simp)),r,q⟩
end
noncomputable def dc(sp:Sp)(dvs:Wp V)(E:XK)(t:TA):TE:=λσ H Q=>t σ H λvs H1=>sp (vs++dvs) H1 Q E
noncomputable def ji(C:ug)(m:Str)(sp:Sp)(dvs:Wp V)(E:XK)(ta:TE)(t:TA):TE:=λσ H Q=>ta σ H λx H1=>∃a dx fs,x=.ref a/\H1 a=Gc (.ins C dx fs)/\fs.lookup m=none/\
 t σ H1 λvs H2=>sp (x::(vs++dvs)) H2 Q E
noncomputable def oB(C:ug)(sp:Sp)(dvs:Wp V)(E:XK)(t:TA):TE:=λσ H Q=>t σ H λvs H1=>∀x dx,H1 x=none->H1 dx=none->dx≠x->
 sp (.ref x::(vs++dvs)) (upd (upd H1 dx (.own x)) x (.ins C dx [])) (λv H2=>v=.non/\Q (.ref x) H2) E
def Binds(K:W1)(fd:zD)(ps:Wp Str)(ds:Wp uY):Prop:=
 ∀(s:uj) (us:Wp uY),K.In s.heap->(us++ds).length=ps.length->BindsTo s fd ⟨us,[]⟩ (ps.zip (us++ds))
def Binds.all{K:W1}(h:∀us:Wp uY,us.length=ps.length->bindArgs fd ⟨us,[]⟩=pure (ps.zip us)):Binds K fd ps []:=λs us _ hl=>by
 rw[vv]at hl⊢
 exact .of_eq (h us hl)
def Passes(CX:CXT)(X:Cx)(E:XK):Prop:=∀(pins:Wp (ug×Obj)) (σ:St) (H:Hp) (s:uj) (e:uY) (s':uj),Inv X pins σ H s->CX X.stack H s E e s'->X.xe e s'
section
variable{X:Cx}{CX:CXT}{k:Nat}{f C:ug}{fd:zD}{ps:Wp Str}{sp:Sp}{dvs:Wp V}{ds:Wp uY}{E:XK}{x m:Str}{p pos apos:Pos}{e o:vj}{es:Wp vj}{ta:TE}{t:TA}
def RM{σ:St}(F:Jm X.prog X.w X.K X.mg X.base CX k f fd ps sp)(hr:Cg k X.A)(hb:Binds X.K fd ps ds)(hd:Vals dvs ds)(hx:Passes CX X E)(I:Inv X pins σ H s)(r:Vals vs us)(h:sp (vs++dvs) H Q E):wpAny (model X.prog X.w) X.A (call (.ref f) us) (EP X pins σ Q) X.xe s:=by
 have r2:Vals (vs++dvs) (us++ds):=r.append hd
 have hl:(us++ds).length=ps.length:=by rw[<-r2.length];exact F.len _ _ _ _ h
 refine xt (yd (F.run X.A X.stack s H ⟨us,[]⟩ (us++ds) (vs++dvs) Q E hr I.Zd (hb s us I.kIn hl) r2 h) λr s' hq=>?_)
 cases r with
 |error e=>exact hx pins σ H s e s' I hq
 |ok fl=>
  cases fl with
  |ret u=>exact I.after hq
  |next=>exact vY hq
  |brk=>exact vY hq
  |cont=>exact vY hq
def cG(F:Jm X.prog X.w X.K X.mg X.base CX k f fd ps sp)(hr:Cg k X.A)(hg:Gl X x)(hm:X.mg x=Gc (.ref f))(hk:vn X.K (.ref f)=true)(hb:Binds X.K fd ps ds)(hd:Vals dvs ds)(hx:Passes CX X E)(ha:PA X (e::es) t)(hdb:zn ((x==("__debug__":Str))=false) xz)(he:zn (uf (e::es) X.env=(false,eval e X.env)::uf es X.env) ww)(hpl:zn ((backTo pos (uf es X.env)).any (·.1)=false) ww):PE X (.Call (.Name x p) (e::es) [] pos) (dc sp dvs E t):=by
 intro pins s σ H Q I h
 refine wF (IC I hg hm ?_ hdb)
 refine wk (h₀:=X.base) I.ok.mod.kin hk (thn (ha pos pins s σ H _ I h) λus s1 ⟨vs,H1,I1,r,q⟩=>⟨I1.kIn,?_⟩) he hpl
 exact RM F hr hb hd hx I1 r q
def aK {pl:Sem va}(he:PE X o ta)(c:Cls X.K C)(hm:Meth X.K C m f)(F:Jm X.prog X.w X.K X.mg X.base CX k f fd ps sp)(hr:Cg k X.A)(hb:Binds X.K fd ps ds)(hd:Vals dvs ds)(hx:Passes CX X E)(ha:PA X (e::es) t)(hst:zn (uf (e::es) X.env=(false,eval e X.env)::uf es X.env) ww)(hpl:zn ((backTo pos (uf es X.env)).any (·.1)=false) ww)(ht:zn (eval (.Call (.Attribute o m apos) (e::es) [] pos) X.env=(do
      let ov ← eval o X.env
      standAt apos.atName
      let (f, first) ← holding [ov] (getMethod ov m pl)
      callWith pos f first (backTo pos (uf (e :: es) X.env)) (backToKw pos (keywordEach [] X.env)))) ww) :
    PE X (.Call (.Attribute o m apos) (e::es) [] pos) (ji C m sp dvs E ta t):=by
  intro pins s σ H Q I h
  refine yP (pl:=pl) (thn (he pins s σ H _ I h) λu s1 z=>?_) ht
  obtain⟨x,H1,I1,rx,a,dx,fs,ex,ea,l,q⟩:=z
  subst ex
  obtain rfl:u=u6 a:=rx
  refine J8 I1 ea c hm l ?_
  refine wk (first:=[.ref a]) (h₀:=X.base) I.ok.mod.kin hm.kp (thn (ha pos pins s1 σ H1 _ I1 q) λus s2 ⟨vs,H2,I2,r,q2⟩=>⟨I2.kIn,?_⟩) hst hpl
  exact RM (us:=.ref a::us) (vs:=.ref a::vs) F hr hb hd hx I2 (.cons rfl r) q2
def Yd {pl:Sem va}(he:PE X o ta)(c:Cls X.K C)(hm:Meth X.K C m f)(F:Jm X.prog X.w X.K X.mg X.base CX k f fd ps sp)(hr:Cg k X.A)(hb:Binds X.K fd ps ds)(hd:Vals dvs ds)(hx:Passes CX X E)(ht:zn (eval (.Call (.Attribute o m apos) [] [] pos) X.env=(do
      let ov ← eval o X.env
      standAt apos.atName
      let (f, first) ← holding [ov] (getMethod ov m pl)
      callWith pos f first (backTo pos (uf [] X.env)) (backToKw pos (keywordEach [] X.env)))) ww) :
    PE X (.Call (.Attribute o m apos) [] [] pos) (ji C m sp dvs E ta ou):=by
  intro pins s σ H Q I h
  refine yP (pl:=pl) (thn (he pins s σ H _ I h) λu s1 z=>?_) ht
  obtain⟨x,H1,I1,rx,a,dx,fs,ex,ea,l,q⟩:=z
  subst ex
  obtain rfl:u=u6 a:=rx
  refine J8 I1 ea c hm l ?_
  exact PySem.W.callWith_K0 (first:=[.ref a]) I1.kIn hm.kp (RM (us:=[.ref a]) (vs:=[.ref a]) F hr hb hd hx I1 (.cons rfl .nil) q)
structure Mk(K:W1)(C f:ug):Prop where
 makes:ABD K C=true
 init:vB K (.ref C) "__init__"=Gc (Gc (.ref f))
 fn:z5 K (.ref f)=true
 kp:vn K (.ref C)=true
def YX{σ:St}(M:Mk X.K C f)(F:Jm X.prog X.w X.K X.mg X.base CX k f fd ps sp)(hr:Cg (k+1) X.A)(hb:Binds X.K fd ps ds)(hd:Vals dvs ds)(hx:Passes CX X E)(I:Inv X pins σ H s)(r:Vals vs us)(h:∀x dx,H x=none->H dx=none->dx≠x->sp (.ref x::(vs++dvs)) (upd (upd H dx (.own x)) x (.ins C dx [])) (λv H2=>v=.non/\Q (.ref x) H2) E):wpAny (model X.prog X.w) X.A (call (.ref C) us) (EP X pins σ Q) X.xe s:=by
 have hq:=h (s.heap.objs.size+1) s.heap.objs.size (I.hok.fresh (AAb _)) (I.hok.fresh (ue _)) (vF (AAp _))
 have I2:=Inv.made (C:=C) I
 have r2:Vals (V.ref (s.heap.objs.size+1)::(vs++dvs)) (u6 (s.heap.objs.size+1)::(us++ds)):=.cons rfl (r.append hd)
 have hl:(u6 (s.heap.objs.size+1)::us++ds).length=ps.length:=by
  have e:=r2.length
  rw[F.len _ _ _ _ hq]at e
  exact e.symm
 refine xt (YA (f:=f) I.kIn M.makes M.init (wJ.mp M.fn) (yd (F.run _ X.stack _ _ ⟨u6 (s.heap.objs.size+1)::us,[]⟩ (u6 (s.heap.objs.size+1)::(us++ds)) _ _ E (hr.make C us [])
  (I2.Zd.make C us []) (hb _ (u6 (s.heap.objs.size+1)::us) I2.kIn hl) r2 hq) λr s' hq'=>?_))
 cases r with
 |error e=>exact hx pins σ _ _ e s' I2 hq'
 |ok fl=>
  cases fl with
  |ret u=>
   obtain⟨v,H',I3,rv,ev,q3⟩:=I2.after hq'
   subst ev
   exact⟨rv,⟨V.ref (s.heap.objs.size+1),H',I3,rfl,q3⟩⟩
  |next=>exact vY hq'
  |brk=>exact vY hq'
  |cont=>exact vY hq'
def dA(M:Mk X.K C f)(F:Jm X.prog X.w X.K X.mg X.base CX k f fd ps sp)(hr:Cg (k+1) X.A)(hg:Gl X x)(hm:X.mg x=Gc (.ref C))(hb:Binds X.K fd ps ds)(hd:Vals dvs ds)(hx:Passes CX X E)(ha:PA X (e::es) t)(hdb:zn ((x==("__debug__":Str))=false) xz)(he:zn (uf (e::es) X.env=(false,eval e X.env)::uf es X.env) ww)(hpl:zn ((backTo pos (uf es X.env)).any (·.1)=false) ww):PE X (.Call (.Name x p) (e::es) [] pos) (oB C sp dvs E t):=by
 intro pins s σ H Q I h
 refine wF (IC I hg hm ?_ hdb)
 refine wk (h₀:=X.base) I.ok.mod.kin M.kp (thn (ha pos pins s σ H _ I h) λus s1 ⟨vs,H1,I1,r,q⟩=>⟨I1.kIn,?_⟩) he hpl
 exact YX M F hr hb hd hx I1 r q
end
section
variable{X:Cx}{CX:CXT}{k:Nat}{f C:ug}{fd:zD}{ps ks:Wp Str}{sp:Sp}{E:XK}{x m:Str}{p pos apos kpos:Pos}{e o:vj}{es:Wp vj}{kws:Wp AAc}{te ta:TE}{t tk:TA}{nm:uS Str}
structure qe(K:W1)(fd:zD)(ps ks:Wp Str)(g:Wp uY->Wp uY->Wp uY)(gV:Wp V->Wp V->Wp V):Prop where
 to:∀(s:uj) (us ws:Wp uY),K.In s.heap->(g us ws).length=ps.length->BindsTo s fd ⟨us,ks.zip ws⟩ (ps.zip (g us ws))
 rel:∀{vs:Wp V} {us:Wp uY} {zs:Wp V} {ws:Wp uY},Vals vs us->Vals zs ws->Vals (gV vs zs) (g us ws)
variable{g:Wp uY->Wp uY->Wp uY}{gV:Wp V->Wp V->Wp V}
end
structure Aj(N P:Wp Str)(sc:wY):Prop where
 kind:sc.kind=.function
 co:sc.isCoroutine=false
 gen:sc.isGenerator=false
 nd:N.Nodup
 pre:N.take P.length=P
 par:∀x∈P,sc.names.lookup x=Gc .local\/sc.names.lookup x=Gc .cell
 gR:∀y∈sc.names,y.2≠.free
theorem Pr{kindOf:Str->uS AAq}:∀{binds} {m:Str->uS uY},(∀v,(x,v)∉binds)->bindL kindOf binds m x=m x
 | [],_,_=>rfl
 |(n,v)::r,m,h=>by
  unfold bindL
  rw[Pr λw hw=>h w (uX _ hw)]
  split
  .have:x≠n:=by rintro rfl;exact h v um
   simp[this]
  .rfl
theorem PF{kindOf:Str->uS AAq}:∀{binds} {m:Str->uS uY},(∀v,(x,v)∉binds)->bindC kindOf binds m x=m x
 | [],_,_=>rfl
 |(n,v)::r,m,h=>by
  unfold bindC
  rw[PF λw hw=>h w (uX _ hw)]
  split
  .rfl
  .have:x≠n:=by rintro rfl;exact h v um
   simp[this]
theorem QE{kindOf:Str->uS AAq}:∀{P:Wp Str} {vs:Wp uY} {i:Nat} {m},P.Nodup->P[i]?=Gc x->vs[i]?=Gc v->kindOf x=Gc .local->bindL kindOf (P.zip vs) m x=Gc v
 | [],_,_,_,_,h,_,_=>by simp at h
 |_::_,[],_,_,_,_,h,_=>by simp at h
 |p::P,w::vs,0,m,nd,h1,h2,hk=>by
  simp at h1 h2;subst h1;subst h2
  show bindL kindOf ((p,w)::P.zip vs) m p=_
  unfold bindL
  rw[Pr λv hv=>(xE.mp nd).1 (we hv).1,vD hk]
  simp
 |p::P,w::vs,i+1,m,nd,h1,h2,hk=>by
  show bindL kindOf ((p,w)::P.zip vs) m x=_
  unfold bindL
  exact QE (i:=i) (xE.mp nd).2 (by simpa using h1) (by simpa using h2) hk
theorem Ph{kindOf:Str->uS AAq}:∀{P:Wp Str} {vs:Wp uY} {i:Nat} {m},P.Nodup->P[i]?=Gc x->vs[i]?=Gc v->kindOf x≠Gc .local->bindC kindOf (P.zip vs) m x=Gc v
 | [],_,_,_,_,h,_,_=>by simp at h
 |_::_,[],_,_,_,_,h,_=>by simp at h
 |p::P,w::vs,0,m,nd,h1,h2,hk=>by
  simp at h1 h2;subst h1;subst h2
  show bindC kindOf ((p,w)::P.zip vs) m p=_
  unfold bindC
  rw[PF λv hv=>(xE.mp nd).1 (we hv).1,vC hk]
  simp
 |p::P,w::vs,i+1,m,nd,h1,h2,hk=>by
  show bindC kindOf ((p,w)::P.zip vs) m x=_
  unfold bindC
  exact Ph (i:=i) (xE.mp nd).2 (by simpa using h1) (by simpa using h2) hk
noncomputable def start(N:Wp Str)(vs:Wp V):St:=vs.map Gc++uq (N.length-vs.length) none
noncomputable def IW(CX:CXT)(P:vb)(w:wH)(K:W1)(mg:Str->uS uY)(base:vt)(N:Wp Str)(qual:Str)(scope:wY)(f:ug)(cd:uY)(A:w9)(outer:Wp Env)(s:uj)(H:Hp)(E:XK):Cx where
 prog:=P
 w:=w
 K:=K
 mg:=mg
 base:=base
 A:=A.deeper (envOfC qual scope s.heap.objs.size f cd)
 N:=N
 s₀:=s
 H₀:=H
 env:=envOfC qual scope s.heap.objs.size f cd
 outer:=outer
 stack:=envOfC qual scope s.heap.objs.size f cd::outer
 ex:=[]
 calm:=true
 fn:=λ_=>true
 pn:=[]
 xe:=λe s'=>wpAny (model P w) (A.deeper (envOfC qual scope s.heap.objs.size f cd)) (leaving (envOfC qual scope s.heap.objs.size f cd) e) (λ_ s''=>CX outer H s E e s'') (λe' s''=>CX outer H s E e' s'') s'
def LJ{sc:wY}{x:Str}(h:sc.names.lookup x=Gc .cell):∃c,(cellsFrom n sc.names []).lookup x=Gc c:=by
 have q:=zE sc.names n [] (.inl h)
 exact Option.isSome_iff_exists.mp q
def QB{CX:CXT}{P:vb}{w:wH}{K:W1}{mg:Str->uS uY}{base:vt}{N ps:Wp Str}{qual:Str}{scope:wY}{f:ug}{cd:uY}{A:w9}{outer:Wp Env}{s s1:uj}{H:Hp}{E:XK}{us:Wp uY}{vs:Wp V}(S:Aj N ps scope)(hd:A.handled=none)(e0:ZI P w K mg base A outer s H)(hl:vs.length=ps.length)(r:Vals vs us)(x:InCallC s s.heap.objs.size (bindL (envOfC qual scope s.heap.objs.size f cd).kindOf (ps.zip us) λ_=>none) (cellsFrom (s.heap.objs.size+1) scope.names []) (bindC (envOfC qual scope s.heap.objs.size f cd).kindOf (ps.zip us) λ_=>none) s1):Inv (IW CX P w K mg base N qual scope f cd A outer s H E) [] (start N vs) H s1:=by
 have hpl:ps.length<=N.length:=by have:=congrArg yZ S.pre;rw[zS]at this;lia
 obtain⟨h1,tk,rfl,hk⟩:=x.done
 have noA:∀b:ug,b∉(IW CX P w K mg base N qual scope f cd A outer s H E).ex:=λb z=>absurd (show b∈([]:Wp ug)from z) (by simp)
 refine⟨⟨e0.mod,S.kind,rfl,rfl,ue _,λy z c h1 h2=>?_,λy hy=>?_,λy c _ h=>?_,λ_=>hd,ABR e0.frames,.inr ⟨rfl,rfl⟩,λb z=>absurd z (noA b),e0.bs,e0.bsz,λb _ _=>noA b,λb z=>absurd z (noA b),e0.QO,e0.frf⟩,
  rfl,e0.bare,Un.kept hk,⟨_,x.toInCall.ns,λi y v h1 h2 h3=>?_⟩,λy c h=>⟨_,x.cell y c h⟩,e0.hok.fresh (ue _),λy c h=>?_,λp hp=>absurd (show p∈([]:Wp (ug×Obj))from hp) (by simp),e0.hok.kept hk,?_⟩
 .exact name_of_addr x.apart (vS h1) (vS h2)
 .have hy:scope.names.lookup y=Gc .cell\/scope.names.lookup y=Gc .free:=hy
  rcases hy with hy|hy
  .exact LJ hy
  .exact absurd rfl (S.gR _ (vS hy))
 .exact y8 (x.above y c (vS h))
 .have hi:i<vs.length:=by
   unfold start at h2
   by_cases hi:i<vs.length
   .exact hi
   .rw[vJ (by simpa using hi)]at h2
    rw[yz]at h2
    split at h2<;>cases h2
  have ha:vs[i]?=Gc v:=by
   unfold start at h2
   rw[uU (by simpa using hi),uo]at h2
   cases e:vs[i]? with
   |none=>rw[e]at h2;cases h2
   |some a=>rw[e]at h2;cases h2;rfl
  obtain⟨u,hu,rv⟩:=r.get ha
  have hp:ps[i]?=Gc y:=by
   rw[<-S.pre,AAi (by lia)];exact h1
  have ndP:ps.Nodup:=by rw[<-S.pre];exact S.nd.sublist (List.take_sublist _ _)
  refine⟨u,rv,?_⟩
  rcases S.par y (uw hp)with k|k
  .exact .inl ⟨k,QE ndP hp hu k⟩
  .obtain⟨c,e⟩:=LJ (n:=s.heap.objs.size+1) k
   refine .inr ⟨.inl k,c,e,?_⟩
   have q:=x.cell y c e
   rw[Ph ndP hp hu (by show scope.names.lookup y≠_;rw[k];decide)]at q
   exact q
 .exact e0.hok.fresh (y8 (x.above y c (vS h)))
 .unfold start
  show _=N.length
  rw[vq,vO,List.length_replicate]
  lia
def Xy{CX:CXT}{P:vb}{w:wH}{K:W1}{mg:Str->uS uY}{base:vt}{k:Nat}{f:ug}{name qual:Str}{params:Arguments}{body:Wp vI}{scope:wY}{dV kV doc pm cdv ct oc:uY}{an od:uS ug}{osl:ym (uS uY)}{N ps:Wp Str}{sp:Sp}(lk:K.lookup f=Gc ⟨oc,od,.func (wZ name qual params body scope dV kV doc pm an cdv ct),osl⟩)(hcd:x5 K cdv qual=true)(S:Aj N ps scope)(len:∀vs H Q E,sp vs H Q E->vs.length=ps.length)(hbody:∀(A:w9) (outer:Wp Env) (s:uj) (H:Hp) (vs:Wp V) (Q:VK) (E:XK),Cg k (A.deeper (envOfC qual scope s.heap.objs.size f cdv))->sp vs H Q E->∃t,PSs (IW CX P w K mg base N qual scope f cdv A outer s H E) body t/\t {nx:=λ_ H'=>Q .non H',rt:=Q} (start N vs) H):Jm P w K mg base CX (k+1) f (wZ name qual params body scope dV kV doc pm an cdv ct) ps sp:=by
 refine⟨len,λA outer s H args us vs Q E hr e0 hb r hsp=>?_⟩
 have hl:=len _ _ _ _ hsp
 have KX:K.In s.heap:=e0.mod.kin.keeps λb o e=>(e0.bs b o e).1
 have lim:s.heap.NoLimit:=e0.mod.nolimit.keeps λb o e=>(e0.bs b o e).1
 have hkind:∀y∈ps.zip us,scope.names.lookup y.1=Gc .local\/(scope.names.lookup y.1=Gc .cell/\((cellsFrom (s.heap.objs.size+1) scope.names []).lookup y.1).isSome=true):=λ⟨n,v⟩ hy=>by
  rcases S.par n (we hy).1 with q|q
  .exact .inl q
  .exact .inr ⟨q,zE _ _ _ (.inl q)⟩
 refine ABK hr.depth (KX _ _ lk) rfl S.co S.gen rfl (AB3 KX hcd) (hb _ _ _ _ ?_)
 refine AAJ S.kind hkind λenv he s1 x=>?_
 subst he
 refine⟨lim.keeps x.toInCall.keep,codeAny_func ?_⟩
 obtain⟨t,ht,hq⟩:=hbody A outer s H vs Q E (hr.deeper _) hsp
 have I:Inv (IW CX P w K mg base N qual scope f cdv A outer s H E) [] (start N vs) H s1:=QB S hr.hd e0 hl r x
 refine vp (ht [] s1 (start N vs) H _ I hq) (λfl s' hs=>?_) λe s' hs=>hs
 have fin:∀{σ':St} {H':Hp} {v:V} {u:uY},Inv (IW CX P w K mg base N qual scope f cdv A outer s H E) [] σ' H' s'->RelV v u->Q v H'->CE outer P w H s Q u s':=
  λ{σ' H' v u} J rv q=>⟨v,H',J.os,J.bare,J.base,J.hok,rv,q⟩
 cases fl with
 |ret u=>
  obtain⟨v,σ',H',J,rv,q⟩:=hs
  exact fin J rv q
 |next=>
  obtain⟨σ',H',J,q⟩:=hs
  exact fin (v:=V.non) (u:=vL) J rfl q
 |brk=>
  obtain⟨_,_,_,q⟩:=hs
  exact vY q
 |cont=>
  obtain⟨_,_,_,q⟩:=hs
  exact vY q
end L2
namespace L2
open PySem PySem.Spec PyProof.Rows
section
variable{X:Cx}{x:Str}{p pos:Pos}{e:vj}{es:Wp vj}{t:TA}{id T:yE}{r:Wp V->Hp->VK->Prop}
noncomputable def tCB(r:Wp V->Hp->VK->Prop)(t:TA):TE:=λσ H Q=>t σ H λvs H1=>r vs H1 Q
def XM(hc:Eg X (.builtin id) r)(hg:Gl X x)(hm:X.mg x=none)(hv:bootBuiltins x=Gc (.builtin id))(ha:PA X (e::es) t)(hn:zn (x≠ "__name__") xz)(hdb:zn ((x==("__debug__":Str))=false) xz)(he:zn (uf (e::es) X.env=(false,eval e X.env)::uf es X.env) ww)(hpl:zn ((backTo pos (uf es X.env)).any (·.1)=false) ww):PE X (.Call (.Name x p) (e::es) [] pos) (tCB r t):=by
 intro pins s σ H Q I h
 refine wF (NW I hg hm hv ?_ hn hdb)
 exact PyProof.Rows.callWith_builtin1 (thn (ha pos pins s σ H _ I h) λus s1 ⟨vs,H1,I1,r1,q1⟩=>hc pins s1 σ H1 vs us Q I1 r1 q1) he hpl
def Vz(hc:Eg X (.type T) r)(hg:Gl X x)(hm:X.mg x=none)(hv:bootBuiltins x=Gc (.type T))(ha:PA X (e::es) t)(hn:zn (x≠ "__name__") xz)(hdb:zn ((x==("__debug__":Str))=false) xz)(he:zn (uf (e::es) X.env=(false,eval e X.env)::uf es X.env) ww)(hpl:zn ((backTo pos (uf es X.env)).any (·.1)=false) ww):PE X (.Call (.Name x p) (e::es) [] pos) (tCB r t):=by
 intro pins s σ H Q I h
 refine wF (NW I hg hm hv ?_ hn hdb)
 exact yS (thn (ha pos pins s σ H _ I h) λus s1 ⟨vs,H1,I1,r1,q1⟩=>hc pins s1 σ H1 vs us Q I1 r1 q1) he hpl
end
end L2
namespace HT
open PySem PyProof.Rows
section
open PySem.SeqAt
open PySem.AutoSeq1 (wpAny_loadPart')
open PySem.MeetsSeq PySem.MeetsSeq2 PySem.MeetsSeq3
end
section
variable{prog:vb}{w:wH}{A:w9}{E:uY->uj->Prop}{s:uj}
def bN{Q:uY->uj->Prop}(ht:IsTup s.heap t vs.toArray)(hb:IsTup s.heap b ws.toArray)(hv:vs≠[])(h1:ws=[]->Q (.ref t) s)(h2:ws≠[]->Q (.ref s.heap.objs.size) {s with heap:=s.heap.push {cls:=.type "tuple",data:=.seq (vs++ws).toArray}})(hsz:vs.length+ws.length<=sizeLine):wpAny (model prog w) A (binaryOp .Add (.ref t) (.ref b)) Q E s:=by
 obtain⟨⟨cls,dd,data,sl⟩,ho,hc,n,hd⟩:=id ht
 obtain⟨⟨cls2,dd2,data2,sl2⟩,ho2,hc2,n2,hd2⟩:=id hb
 simp only at hc hd hc2 hd2
 subst hc hd hc2 hd2
 have e:vs.toArray++ws.toArray=(vs++ws).toArray:=by simp
 by_cases hw:ws=[]
 .exact concat_meets ⟨_,ho,rfl⟩ ⟨_,ho2,rfl⟩ AAr ABv zF y0 (yn _ _)
   (tuple_addW1 t b vs.toArray ws.toArray n n2 dd dd2 sl sl2 (by simpa using hv) (by simp[hw])) ⟨ho,ho2,h1 hw⟩
 .refine concat_meets ⟨_,ho,rfl⟩ ⟨_,ho2,rfl⟩ AAr ABv zF y0 (yn _ _)
   (tuple_addW2 t b vs.toArray ws.toArray n n2 dd dd2 sl sl2 (by simpa using hv) (by simpa using hw) (by rw[ur,ur];exact hsz)) ⟨ho,ho2,?_⟩
  rw[e]
  exact h2 hw
noncomputable def sIx(n d:Nat):uS Int->Nat
 |none=>d
 |some v=>if v<0 then(v+(n:Int)).toNat else min v.toNat n
def Qz(n d k:Nat):sIx n d (Gc (k:Int))=min k n:=by
 show(if(k:Int)<0 then((k:Int)+(n:Int)).toNat else min (k:Int).toNat n)=min k n
 rw[vC (by lia),xj]
def gB(n d:Nat)(hd:d<=n)(o:uS Int):sIx n d o<=n:=by
 cases o with
 |none=>exact hd
 |some v=>
  show(if v<0 then(v+(n:Int)).toNat else min v.toNat n)<=n
  by_cases hv:v<0
  .rw[vD hv];lia
  .rw[vC hv];exact Nat.min_le_right _ _
def T6(v:Int)(n d:Nat):(if v<0 then max (v+(n:Int)) 0 else min v (n:Int))=((sIx n d (Gc v):Nat):Int):=by
 show(if v<0 then max (v+(n:Int)) 0 else min v (n:Int))=(((if v<0 then(v+(n:Int)).toNat else min v.toNat n):Nat):Int)
 by_cases hv:v<0
 .simp only[vD hv];lia
 .simp only[vC hv];lia
def Sv(lo hi:uS Int)(n:Nat):yg lo hi 1 (n:Int)=(((sIx n 0 lo:Nat):Int),((sIx n n hi:Nat):Int)):=by
 have h1:¬((1:Int)<0):=by lia
 unfold yg
 simp only[h1,AAK]
 refine Prod.ext ?_ ?_
 .cases lo with
  |none=>rfl
  |some v=>exact T6 v n 0
 .cases hi with
  |none=>rfl
  |some v=>exact T6 v n n
def Sx(i j:Nat):xX (i:Int) (j:Int) 1=j-i:=by
 unfold xX
 have h1:(1:Int)>0:=by lia
 simp only[h1,zZ,Int.ediv_one]
 split<;>lia
def Np{Q:uS Int->uj->Prop}(p:AA1 v o)(h:Q o s):wpAny (model prog w) A (Builtin.Slice.slicePartIndex v) Q E s:=by
 cases p with
 |none=>exact slicePart_none h
 |int i t=>exact slicePart_int h
def HE{lo hi:uS Int}{n:Nat}(hs:s.heap.IsSliceOf sl vl vu .none)(pl:AA1 vl lo)(pu:AA1 vu hi)(h:Q (((sIx n 0 lo:Nat):Int),1,sIx n n hi-sIx n 0 lo) s):wpAny (model prog w) A (AAL (.ref sl) (pure (n:Int))) Q E s:=by
 obtain⟨os,hos,hcs,hds⟩:=id hs
 unfold AAL Builtin.Slice.sliceFields
 refine uQ (uQ (wN hos hds (x:=vl) rfl (uQ (wN hos hds (x:=vu) rfl (uQ (wN hos hds (x:=.none) rfl (uh ?_)))))))
 refine uQ (slicePart_none ?_)
 show wpAny _ _ (if((1:Int)==0)=true then _ else _) _ _ s
 rw[vC (by decide)]
 refine uQ (Np pl (uQ (Np pu (uQ (uh ?_)))))
 show wpAny _ _ (match yg lo hi 1 (n:Int)with|(lo,hi)=>pure (lo,(1:Int),xX lo hi 1)) _ _ s
 rw[Sv lo hi n]
 show wpAny _ _ (pure (((sIx n 0 lo:Nat):Int),(1:Int),xX ((sIx n 0 lo:Nat):Int) ((sIx n n hi:Nat):Int) 1)) _ _ s
 rw[Sx]
 exact uh h
def XT(xs:ym uY)(i k:Nat):((u7 k).filterMap λ(m:Nat)=>xs[((i:Int)+(m:Int)*1).toNat]?).toArray=((xs.toList.drop i).take k).toArray:=by
 have e:(λ(m:Nat)=>xs[((i:Int)+(m:Int)*1).toNat]?)=λm=>xs[i+m]?:=by
  funext m
  have:((i:Int)+(m:Int)*1).toNat=i+m:=by lia
  rw[this]
 rw[e]
 have:=pick_run xs i k
 rw[List.filterMap_map]at this
 have e2:((λx=>xs[x]?)∘λx=>i+x)=λm=>xs[i+m]?:=rfl
 rw[e2]at this
 rw[this]
def Km{lo hi:uS Int}(ht:IsTup s.heap t items)(hs:s.heap.IsSliceOf sl vl vu .none)(pl:AA1 vl lo)(pu:AA1 vu hi)(hw:¬(sIx items.size 0 lo=0/\sIx items.size items.size hi=items.size))(h:Q (.ref s.heap.objs.size) {s with heap:=s.heap.push {cls:=.type "tuple",data:=.seq ((items.toList.drop (sIx items.size 0 lo)).take (sIx items.size items.size hi-sIx items.size 0 lo)).toArray}})(hsz:items.size<=sizeLine):wpAny (model prog w) A (getItem (.ref t) (.ref sl)) Q E s:=by
 have htake:sizeOk (.seq ((items.toList.drop (sIx items.size 0 lo)).take (sIx items.size items.size hi-sIx items.size 0 lo)).toArray):=by
  show((items.toList.drop (sIx items.size 0 lo)).take (sIx items.size items.size hi-sIx items.size 0 lo)).toArray.size<=sizeLine
  rw[ur,zS,AAs,zv]
  lia
 have hj:sIx items.size items.size hi<=items.size:=gB _ _ (ue _) hi
 obtain⟨os,hos,hcs,hds⟩:=id hs
 have hTs:s.TypeIs (.ref sl) "slice":=⟨os,hos,hcs⟩
 unfold getItem
 try with_reducible refine vx ?_
 first|refine uQ (uh ?_)|skip
 refine uQ (wpAny_sequenceKey ht.typeIs (by decide) ?_)
 refine uQ (wX (name:=u9 "__getitem__") ht.typeIs vg
  (wm vg ht.typeIs ABk ?_ (AB4 _ _)))
 show wpAny _ _ (AAM (.ref t) >>= _) _ _ s
 refine uQ (tupleItemsOf_ ht ?_)
 refine uQ (AA2 hTs ?_)
 rw[vD (by decide)]
 refine uQ (HE hs pl pu ?_)
 have hno:¬((((sIx items.size 0 lo:Nat):Int)==0 && (1:Int)==1 && (sIx items.size items.size hi-sIx items.size 0 lo)==items.size)=true):=by
  intro q
  rw[uc,uc]at q
  have q1:((sIx items.size 0 lo:Nat):Int)=0:=eq_of_beq q.1.1
  have q2:sIx items.size items.size hi-sIx items.size 0 lo=items.size:=eq_of_beq q.2
  exact hw ⟨by lia,by lia⟩
 show wpAny _ _ (if(((sIx items.size 0 lo:Nat):Int)==0 && (1:Int)==1 && (sIx items.size items.size hi-sIx items.size 0 lo)==items.size)=true then _ else _) _ _ s
 rw[vC hno,XT]
 first
  |exact uQ (m:=xu _) (xB (uh ⟨_,rfl,uh h⟩) htake)
  |exact uQ (m:=xu _) (xB (uQ (uh (uh ⟨_,rfl,uh h⟩))) htake)
  |exact uQ (uQ (m:=xu _) (xB (uh (uh ⟨_,rfl,uh h⟩)) htake))
  |exact uQ (uQ (m:=xu _) (xB (uh ⟨_,rfl,uh h⟩) htake))
end
end HT
namespace L2
open PySem PySem.Spec PyProof.Rows
abbrev TO:=St->Hp->(uS Int->Hp->Prop)->Prop
def PO(X:Cx)(e:uS vj)(t:TO):Prop:=
 ∀(pins:Wp (ug×Obj)) (s:uj) (σ:St) (H:Hp) (Q:uS Int->Hp->Prop),Inv X pins σ H s->t σ H Q->
  wpAny (model X.prog X.w) X.A (evalPart e X.env) (λu s'=>∃o H',Inv X pins σ H' s'/\AA1 u o/\Q o H') X.xe s
noncomputable def aH:TO:=λ_ H Q=>Q none H
noncomputable def pG(t:TE):TO:=λσ H Q=>t σ H λx H1=>∃i,x=.int i/\Q (Gc i) H1
def intsAre_of{ns:Wp Int}:∀{us:Wp uY},Vals (ns.map V.int) us->yo us ns:=by
 induction ns with
 |nil=>intro us r;rw[wG]at r;cases r;exact .nil
 |cons n ns ih=>
  intro us r
  rw[ux]at r
  cases r with
  |cons r1 r2=>
   obtain⟨t,e⟩:=r1
   subst e
   exact .cons n t (ih r2)
section
variable{X:Cx}{e:vj}{te:TE}{lo hi:uS vj}{tl th:TO}{pos p2:Pos}
def UA:PO X none aH:=by
 intro pins s σ H Q I h
 rw[evalPart_none]
 exact uh ⟨none,H,I,.none,h⟩
def Nz(h:PE X e te):PO X (Gc e) (pG te):=by
 intro pins s σ H Q I hw
 rw[evalPart_some]
 refine thn (h pins s σ H _ I hw) λu s1 z=>?_
 obtain⟨x,H1,I1,r1,q1⟩:=z
 obtain⟨i,rfl,q⟩:=q1
 obtain⟨t,rfl⟩:=r1
 exact⟨Gc i,H1,I1,.int i t,q⟩
def SlR(X:Cx)(r:V->uS Int->uS Int->Hp->VK->Prop):Prop:=
 ∀(pins:Wp (ug×Obj)) (s:uj) (σ:St) (H:Hp) (x:V) (v vl vu:uY) (lo hi:uS Int) (sl:ug) (Q:VK),Inv X pins σ H s->RelV x v->s.heap.IsSliceOf sl vl vu .none->AA1 vl lo->AA1 vu hi->r x lo hi H Q->
  ∃T id,typeLookup (.type T) "__getitem__"=pure (Gc (.builtin id))/\s.TypeIs v T/\wpAny (model X.prog X.w) X.A (getItem v (.ref sl)) (EP X pins σ Q) X.xe s
noncomputable def tSl(r:V->uS Int->uS Int->Hp->VK->Prop)(te:TE)(tl th:TO):TE:=λσ H Q=>te σ H λx H1=>tl σ H1 λl H2=>th σ H2 λu H3=>r x l u H3 Q
def OV{r:V->uS Int->uS Int->Hp->VK->Prop}(hr:SlR X r)(he:PE X e te)(hl:PO X lo tl)(hu:PO X hi th):PE X (.Subscript e (.Slice lo hi none p2) pos) (tSl r te tl th):=by
 intro pins s σ H Q I h
 refine Subscript_ (thn (he pins s σ H _ I h) λv s1 z=>?_)
 obtain⟨x,H1,I1,r1,q1⟩:=z
 refine wpAny_Slice (thn (hl pins s1 σ H1 _ I1 q1) λvl s2 ⟨l,H2,I2,pl,q2⟩=>thn (hu pins s2 σ H2 _ I2 q2) λvu s3 z=>?_)
 obtain⟨u,H3,I3,pu,q3⟩:=z
 rw[evalPart_none]
 refine uh ?_
 have I4:Inv X pins σ H3 {s3 with heap:=s3.heap.push {cls:=.type "slice",data:=.fields #[vl,vu,.none]}}:=I3.kept (t':=s3.toks) λb ob q=>uR _ q
 obtain⟨T,id,hT,ht,hg⟩:=hr pins {s3 with heap:=s3.heap.push {cls:=.type "slice",data:=.fields #[vl,vu,.none]}} σ H3 x v vl vu l u s3.heap.objs.size Q I4 r1 (Heap.IsSliceOf.new ..) pl pu q3
 show wpAny (model X.prog X.w) X.A (subscriptTail e (.Slice lo hi none p2) v (.ref s3.heap.objs.size)) (EP X pins σ Q) X.xe {s3 with heap:=s3.heap.push {cls:=.type "slice",data:=.fields #[vl,vu,.none]}}
 exact tail_any (ops:=[.ref s3.heap.objs.size,v]) ht hT hg (by with_unfolding_all rfl)
noncomputable def Zt(xs:Wp V)(lo hi:uS Int):Wp V:=(xs.drop (HT.sIx xs.length 0 lo)).take (HT.sIx xs.length xs.length hi-HT.sIx xs.length 0 lo)
def MS(xs:Wp V)(lo hi:uS Int):(Zt xs lo hi).length<=xs.length:=by
 unfold Zt
 rw[zS,AAs]
 lia
def sU(K:W1):V->uS Int->uS Int->Hp->VK->Prop:=λx lo hi H Q=>∃a xs,x=.ref a/\SqT K H a xs/\
 ¬(HT.sIx xs.length 0 lo=0/\HT.sIx xs.length xs.length hi=xs.length)/\∀p,H p=none->Q (.ref p) (upd H p (.tup (Zt xs lo hi)))
def iJ:SlR X (sU X.K):=by
 intro pins s σ H x v vl vu lo hi sl Q I rx hs pl pu h
 obtain⟨a,xs,rfl,hx,hw,q⟩:=h
 cases rx
 obtain⟨its,r,ht,hz⟩:=I.tuple hx
 have hlen:its.toArray.size=xs.length:=by rw[ur];exact r.length.symm
 refine⟨"tuple",_,vg.lookup,ht.typeIs,?_⟩
 refine HT.Km ht hs pl pu (by rw[hlen];exact hw) ?_ (by rw[hlen];exact hz)
 rw[hlen]
 refine⟨.ref s.heap.objs.size,_,I.laid (t':=s.toks) (o:=.tup (Zt xs lo hi)) (λb ob q=>uR _ q) (ue _) ?_,rfl,q _ (I.hok.fresh (ue _))⟩
 exact⟨ub (MS xs lo hi) hz,_,(r.drop (HT.sIx xs.length 0 lo)).take (HT.sIx xs.length xs.length hi-HT.sIx xs.length 0 lo),yj _ _⟩
noncomputable def nC(K:W1):R2:=λx y H Q=>∃a b xs ys,x=.ref a/\y=.ref b/\SqT K H a xs/\SqT K H b ys/\xs≠[]/\xs.length+ys.length<=sizeLine/\
 (ys=[]->Q (.ref a) H)/\(ys≠[]->∀p,H p=none->Q (.ref p) (upd H p (.tup (xs++ys))))
def Vals.N6{xs:Wp V}{us:Wp uY}(r:Vals xs us):us=[]↔xs=[]:=by
 cases r with
 |nil=>simp
 |cons _ _=>simp
def bX:OpR X (binaryOp .Add) (nC X.K):=by
 intro pins s σ H x y v u Q I rx ry h
 obtain⟨a,b,xs,ys,rfl,rfl,ha,hb,hx,hz,q1,q2⟩:=h
 cases rx
 cases ry
 obtain⟨its,r1,p1,_⟩:=I.tuple ha
 obtain⟨its2,r2,p2,_⟩:=I.tuple hb
 refine HT.bN p1 p2 (λz=>hx (r1.N6.mp z)) (λz=>⟨.ref a,H,I,rfl,q1 (r2.N6.mp z)⟩) (λz=>?_) (by rw[<-r1.length,<-r2.length];exact hz)
 refine⟨.ref s.heap.objs.size,_,I.laid (t':=s.toks) (o:=.tup (xs++ys)) (λb ob q=>uR _ q) (ue _) ?_,rfl,q2 (λw=>z (r2.N6.mpr w)) _ (I.hok.fresh (ue _))⟩
 exact⟨by rw[vq];exact hz,_,r1.append r2,yj _ _⟩
end
end L2
namespace L2
open PySem PySem.Spec PyProof.Rows
noncomputable def ixN(n:Nat)(i:Int):uS Nat:=if 0<=i then(if i<n then Gc i.toNat else none)else if-(n:Int)<=i then Gc (i+n).toNat else none
noncomputable def atI{α:Type}(xs:Wp α)(i:Int):uS α:=(ixN xs.length i).bind λj=>xs[j]?
def WT{j:Nat}(h:ixN n i=Gc j):seqIndex? i n=Gc j/\j<n/\ -(n:Int)<=i/\i<n:=by
 unfold ixN at h
 by_cases h0:0<=i
 .rw[vD h0]at h
  by_cases h1:i<n
  .rw[vD h1]at h
   have e:i.toNat=j:=wU h
   exact⟨by rw[seqIndex_of h0 h1,e],by lia,by lia,h1⟩
  .rw[vC h1]at h;cases h
 .rw[vC h0]at h
  by_cases h1: -(n:Int)<=i
  .rw[vD h1]at h
   have e:(i+n).toNat=j:=wU h
   exact⟨by rw[seqIndex_neg (by lia) h1,e],by lia,h1,by lia⟩
  .rw[vC h1]at h;cases h
def Vp{v:α}(h:atI xs i=Gc v):∃j,seqIndex? i xs.length=Gc j/\xs[j]?=Gc v/\j<xs.length/\ -(xs.length:Int)<=i/\i<xs.length:=by
 unfold atI at h
 cases e:ixN xs.length i with
 |none=>rw[e]at h;cases h
 |some j=>
  rw[e]at h
  obtain⟨h1,h2,h3,h4⟩:=WT e
  exact⟨j,h1,h,h2,h3,h4⟩
def ag{j:Nat}{v:α}(h:xs[j]?=Gc v):atI xs (j:Int)=Gc v:=by
 have hj:j<xs.length:=(ua.mp h).1
 have e:ixN xs.length (j:Int)=Gc j:=by
  unfold ixN
  rw[vD (by lia),vD (by lia)];simp
 unfold atI;rw[e];exact h
def Oj{α:Type}(xs:Wp α)(v:α):atI (xs++[v]) (-1)=Gc v:=by
 have hl:(xs++[v]).length=xs.length+1:=by simp
 have e:ixN (xs++[v]).length (-1)=Gc xs.length:=by
  unfold ixN
  rw[hl,vC (by decide),vD (by lia)]
  congr 1
  lia
 unfold atI
 rw[e]
 show(xs++[v])[xs.length]?=Gc v
 simp
def Oo(b:vj):Prop:=∀o i,subscripted b false o i=operate [o,i] (getItem o i)
def IxR(X:Cx)(r:R2):Prop:=
 ∀(value slice:vj) (pins:Wp (ug×Obj)) (s:uj) (σ:St) (H:Hp) (x y:V) (v u:uY) (Q:VK),Inv X pins σ H s->RelV x v->RelV y u->r x y H Q->
  subscripted slice false v u=operate [v,u] (getItem v u)->wpAny (model X.prog X.w) X.A (subscriptTail value slice v u) (EP X pins σ Q) X.xe s
def MtR(X:Cx)(id:yE)(r:V->Wp V->Hp->VK->Prop):Prop:=
 ∀(pins:Wp (ug×Obj)) (s:uj) (σ:St) (H:Hp) (x:V) (xs:Wp V) (v:uY) (us:Wp uY) (Q:VK),Inv X pins σ H s->RelV x v->Vals xs us->r x xs H Q->
  wpAny (model X.prog X.w) X.A (call (.builtin id) (v::us)) (EP X pins σ Q) X.xe s
section
variable{X:Cx}{a b:vj}{ta tb:TE}{pos:Pos}
def cF{r:R2}(hr:IxR X r)(ha:PE X a ta)(hb:PE X b tb)(hs:Oo b):PE X (.Subscript a b pos) (tOp r ta tb):=by
 intro pins s σ H Q I h
 exact Subscript_ (oy ha hb I h λv u s2 x y H2 I2 rx ry q=>hr a b pins s2 σ H2 x y v u Q I2 rx ry q (hs _ _))
noncomputable def rW(K:W1):R2:=λx y H Q=>∃p xs i v,x=.ref p/\y=.int i/\SqL K H p xs/\atI xs i=Gc v/\Q v H
noncomputable def tV(K:W1):R2:=λx y H Q=>∃p xs i v,x=.ref p/\y=.int i/\SqT K H p xs/\atI xs i=Gc v/\Q v H
def cI:IxR X (rW X.K):=by
 intro value slice pins s σ H x y v u Q I rx ry h hs
 obtain⟨p,xs,i,z,rfl,rfl,hq,he,q⟩:=h
 cases rx
 obtain⟨t,rfl⟩:=ry
 obtain⟨its,r,pl,hz⟩:=I.list hq
 obtain⟨j,h1,h2,h3,h4,h5⟩:=Vp he
 obtain⟨w,ew,rw'⟩:=r.get h2
 have hl:=r.length
 have hn:=P8
 have fin:EP X pins σ Q w s:=⟨z,H,I,rw',q⟩
 by_cases h0:0<=i
 .have hj:i.toNat=j:=by
   rw[seqIndex_of h0 h5]at h1
   exact wU h1
  exact item_listR pl.isList h0 (by lia) (by rw[hj];simpa using ew) fin hs
 .have hj:(i+(its.toArray.size:Int)).toNat=j:=by
   rw[seqIndex_neg (by lia) h4]at h1
   rw[ur,<-hl]
   exact wU h1
  exact AA3 (x:=w) pl.isList.typeIs slot_list_getitem.lookup
   (wpAny_getItem_list_neg (Q:=λr s'=>r=w/\EP X pins σ Q r s') pl.isList (by lia) (by rw[ur]<;>lia) (by lia) (by rw[hj];simpa using ew) ⟨rfl,fin⟩) hs
def kC:IxR X (tV X.K):=by
 intro value slice pins s σ H x y v u Q I rx ry h hs
 obtain⟨p,xs,i,z,rfl,rfl,hq,he,q⟩:=h
 cases rx
 obtain⟨t,rfl⟩:=ry
 obtain⟨its,r,pl,hz⟩:=I.tuple hq
 obtain⟨j,h1,h2,h3,h4,h5⟩:=Vp he
 obtain⟨w,ew,rw'⟩:=r.get h2
 have hl:=r.length
 have hn:=P8
 have fin:EP X pins σ Q w s:=⟨z,H,I,rw',q⟩
 exact AA3 (x:=w) pl.typeIs vg.lookup
  (getItem_tuple (j:=j) (Q:=λr s'=>r=w/\EP X pins σ Q r s') pl (by lia) (by lia) (by rw[ur,<-hl];exact h1) (by simpa using ew) ⟨rfl,fin⟩) hs
def Tq(its:Wp uY) n j(u:uY):AAN (·.setIfInBounds j u) {cls:=.type "list",data:=.seq its.toArray n}={cls:=.type "list",data:=.seq (its.set j u).toArray n}:=by
 simp[AAN]
def Inv.lst{σ:St}(I:Inv X pins σ H s)(h:H p=Gc (.lst xs)):∃(its:Wp uY) (n:Nat),Vals xs its/\s.heap.get? p=Gc {cls:=.type "list",data:=.seq its.toArray n}/\xs.length<=sizeLine:=by
 obtain⟨z,its,n,r,e⟩:=I.hok p _ h
 exact⟨its,n,r,e,z⟩
def Inv.jr{σ:St}{its its':Wp uY}(I:Inv X pins σ H s)(h:H p=Gc (.lst xs))(ho:s.heap.get? p=Gc {cls:=.type "list",data:=.seq its.toArray n})(hf:f {cls:=.type "list",data:=.seq its.toArray n}={cls:=.type "list",data:=.seq its'.toArray n'})(r:Vals ys its')(hz:ys.length<=sizeLine)(t:Nat):Inv X pins σ (upd H p (.lst ys)) {s with heap:=s.heap.update p f,toks:=t}:=by
 have e:(s.heap.update p f).get? p=Gc {cls:=.type "list",data:=.seq its'.toArray n'}:=by
  rw[wC f ho (by rw[hf]<;>rfl),hf]
 refine I.write (x:=p) (e:=p) (by rw[h];trivial) (.inl rfl) (λb u hb q=>(vo _ _ (vi hb)).trans q) ⟨_,e⟩ ?_
 exact⟨hz,its',n',r,e⟩
def nS:V->V->V->Hp->(Hp->Prop)->Prop:=λo i v H Q=>∃p xs k j,o=.ref p/\i=.int k/\H p=Gc (.lst xs)/\ixN xs.length k=Gc j/\Q (upd H p (.lst (xs.set j v)))
def set_list:qL X nS:=by
 intro pins s σ H o i v ov iv u Q I ro ri rv h
 obtain⟨p,xs,k,j,rfl,rfl,hp,hj,q⟩:=h
 cases ro
 obtain⟨t,rfl⟩:=ri
 obtain⟨its,n,r,ho,hz⟩:=I.lst hp
 obtain⟨h1,h2,h3,h4⟩:=WT hj
 have hl:=r.length
 have hn:=P8
 have I':Inv X pins σ (upd H p (.lst (xs.set j v))) {s with heap:=s.heap.update p (AAN (·.setIfInBounds j u))}:=
  I.jr hp ho (Tq its n j u) (r.set rv j) (by rw[wV];exact hz) s.toks
 by_cases h0:0<=k
 .have hk:k.toNat=j:=by
   rw[seqIndex_of h0 h4]at h1
   exact wU h1
  exact PySem.W.ki_setAt ho h0 (by lia) (by rw[ur,<-hl];exact h4) (by rw[hk];exact⟨_,I',q⟩)
 .have hk:(k+(its.toArray.size:Int)).toNat=j:=by
   rw[seqIndex_neg (by lia) h3]at h1
   rw[ur,<-hl]
   exact wU h1
  exact PySem.W.ki_setBack ho (by lia) (by rw[ur,<-hl];exact h3) (by lia) (by rw[hk];exact⟨_,I',q⟩)
def PB(lo hi:uS Int)(n:Nat):(sliceBounds lo hi none n).1=((HT.sIx n 0 lo:Nat):Int)/\(sliceBounds lo hi none n).2.1=((HT.sIx n n hi:Nat):Int)/\(sliceBounds lo hi none n).2.2=1:=by
 refine⟨?_,?_,rfl⟩
 .cases lo with
  |none=>simp[sliceBounds,HT.sIx]
  |some i=>
   simp only[sliceBounds,HT.sIx,Option.getD_none,show(1:Int)>0 by decide,zZ]
   by_cases h:i<0
   .simp only[h,zZ]<;>lia
   .simp only[h,AAK]<;>lia
 .cases hi with
  |none=>simp[sliceBounds,HT.sIx]
  |some i=>
   simp only[sliceBounds,HT.sIx,Option.getD_none,show(1:Int)>0 by decide,zZ]
   by_cases h:i<0
   .simp only[h,zZ]<;>lia
   .simp only[h,AAK]<;>lia
def OH(its:Wp uY)(lo hi:uS Int):slicePick its.toArray lo hi none=((its.drop (HT.sIx its.length 0 lo)).take (HT.sIx its.length its.length hi-HT.sIx its.length 0 lo)).toArray:=by
 obtain⟨h1,h2,h3⟩:=PB lo hi its.toArray.size
 unfold slicePick
 rw[h1,h2,h3]
 simp only[sliceRange_one,pick_run,ur]<;>rfl
def tU(K:W1):V->uS Int->uS Int->Hp->VK->Prop:=λx lo hi H Q=>∃a xs,x=.ref a/\SqL K H a xs/\∀p,H p=none->Q (.ref p) (upd H p (.lst (Zt xs lo hi)))
def dD:SlR X (tU X.K):=by
 intro pins s σ H x v vl vu lo hi sl Q I rx hs pl pu h
 obtain⟨a,xs,rfl,hx,q⟩:=h
 cases rx
 obtain⟨its,r,ht,hz⟩:=I.list hx
 have hlen:=r.length
 refine⟨"list",_,slot_list_getitem.lookup,ht.isList.typeIs,?_⟩
 refine wpAny_getItem_list_slice ht.isList hs pl pu .none (by simp) ?_ (by rw[ur]<;>lia)
 rw[OH,<-hlen]
 refine⟨.ref s.heap.objs.size,_,I.laid (t':=s.toks) (o:=.lst (Zt xs lo hi)) (λb ob q=>uR _ q) (ue _) ?_,rfl,q _ (I.hok.fresh (ue _))⟩
 exact⟨ub (MS xs lo hi) hz,_,0,(r.drop (HT.sIx xs.length 0 lo)).take (HT.sIx xs.length xs.length hi-HT.sIx xs.length 0 lo),uy _ rfl⟩
noncomputable def Mm:V->va
 | .non=>true
 | .bl _=>true
 | .int _=>true
 | .str _=>true
 |_=>false
noncomputable def eqV:V->V->va
 | .non,.non=>true
 | .bl a,.bl b=>a==b
 | .bl a,.int b=>(if a then 1 else 0)==b
 | .int a,.bl b=>a==(if b then 1 else 0)
 | .int a,.int b=>a==b
 | .str a,.str b=>a==b
 |_,_=>false
def iK{u v:uY}(ry:RelV y u)(rx:RelV x v)(fy:Mm y=true)(fx:Mm x=true):SeqAt.EqAt A s u v (eqV y x):=by
 cases y with
 |non=>
  cases ry
  cases x with
  |non=>cases rx;exact SeqAt.EqAt.same _
  |bl b=>cases rx;exact SeqAt.EqAt.none_bool b
  |int b=>obtain⟨t,rfl⟩:=rx;exact SeqAt.EqAt.none_int b t
  |str b=>obtain⟨t,rfl⟩:=rx;exact SeqAt.EqAt.none_str b t
  |_=>exact absurd (show false=true from fx) vZ
 |bl a=>
  cases ry
  cases x with
  |non=>cases rx;exact SeqAt.EqAt.bool_none a
  |bl b=>cases rx;exact SeqAt.EqAt.bool_bool a b
  |int b=>obtain⟨t,rfl⟩:=rx;exact SeqAt.EqAt.bool_int a b t
  |str b=>obtain⟨t,rfl⟩:=rx;exact SeqAt.EqAt.bool_str a b t
  |_=>exact absurd (show false=true from fx) vZ
 |int a=>
  obtain⟨t',rfl⟩:=ry
  cases x with
  |non=>cases rx;exact SeqAt.EqAt.int_none a t'
  |bl b=>cases rx;exact SeqAt.EqAt.int_bool a t' b
  |int b=>obtain⟨t,rfl⟩:=rx;exact SeqAt.EqAt.int_int a t' b t
  |str b=>obtain⟨t,rfl⟩:=rx;exact ABy a t' b t
  |_=>exact absurd (show false=true from fx) vZ
 |str a=>
  obtain⟨t',rfl⟩:=ry
  cases x with
  |non=>cases rx;exact SeqAt.EqAt.str_none a t'
  |bl b=>cases rx;exact SeqAt.EqAt.str_bool a t' b
  |int b=>obtain⟨t,rfl⟩:=rx;exact ABz a t' b t
  |str b=>obtain⟨t,rfl⟩:=rx;exact SeqAt.EqAt.str_str a t' b t
  |_=>exact absurd (show false=true from fx) vZ
 |_=>exact absurd (show false=true from fy) vZ
noncomputable def eqU(x:V)(u:uY):va:=match u with
 | .none=>eqV .non x
 | .bool b=>eqV (.bl b) x
 | .int i _=>eqV (.int i) x
 | .str z _=>eqV (.str z) x
 |_=>false
def ZT{x y:V}{u:uY}(r:RelV y u)(f:Mm y=true):eqU x u=eqV y x:=by
 cases y with
 |non=>cases r;rfl
 |bl b=>cases r;rfl
 |int i=>obtain⟨t,rfl⟩:=r;rfl
 |str z=>obtain⟨t,rfl⟩:=r;rfl
 |_=>exact absurd (show false=true from f) vZ
theorem MY:∀{xs} {us:Wp uY},Vals xs us->xs.all Mm=true->us.any (eqU x)=xs.any λy=>eqV y x
 |_,_,.nil,_=>rfl
 |y::xs,u::us,.cons r t,f=>by
  rw[yM,uc]at f
  rw[xK,xK,ZT r f.1,MY t f.2]
theorem Jj(rx:RelV x v)(fx:Mm x=true):∀{xs} {us:Wp uY},Vals xs us->xs.all Mm=true->∀u∈us,SeqAt.EqAt A s u v (eqU x u)
 |_,_,.nil,_=>λu hu=>by cases hu
 |y::xs,u::us,.cons r t,f=>λu' hu=>by
  rw[yM,uc]at f
  rcases uZ.mp hu with rfl|hu
  .rw[ZT r f.1];exact iK r rx f.1 fx
  .exact Jj rx fx t f.2 u' hu
noncomputable def inV(x:V)(xs:Wp V):va:=xs.any λy=>eqV y x
noncomputable def rIn(K:W1)(neg:va):R2:=λx y H Q=>∃p xs,y=.ref p/\(SqL K H p xs\/SqT K H p xs)/\Mm x=true/\xs.all Mm=true/\Q (.bl (if neg then !inV x xs else inV x xs)) H
def Vr:OpR X (compareOp .In) (rIn X.K false):=by
 intro pins s σ H x y v u Q I rx ry h
 obtain⟨p,xs,rfl,hq,fx,fs,q⟩:=h
 cases ry
 rcases hq with hq|hq
 .obtain⟨its,r,pl,hz⟩:=I.list hq
  refine SeqAt.in_listAt (eqU x) pl.isList (λw hw=>Jj rx fx r fs w (by simpa using hw)) ⟨.bl _,H,I,rfl,?_⟩
  rw[show its.toArray.any (eqU x)=its.any (eqU x) by simp,MY r fs]
  exact q
 .obtain⟨its,r,pl,hz⟩:=I.tuple hq
  refine SeqAt.in_tupleAt (eqU x) pl (λw hw=>Jj rx fx r fs w (by simpa using hw)) ⟨.bl _,H,I,rfl,?_⟩
  rw[show its.toArray.any (eqU x)=its.any (eqU x) by simp,MY r fs]
  exact q
def PQ:OpR X (compareOp .NotIn) (rIn X.K true):=by
 intro pins s σ H x y v u Q I rx ry h
 obtain⟨p,xs,rfl,hq,fx,fs,q⟩:=h
 cases ry
 rcases hq with hq|hq
 .obtain⟨its,r,pl,hz⟩:=I.list hq
  refine SeqAt.notIn_listAt (eqU x) pl.isList (λw hw=>Jj rx fx r fs w (by simpa using hw)) ⟨.bl _,H,I,rfl,?_⟩
  rw[show its.toArray.any (eqU x)=its.any (eqU x) by simp,MY r fs]
  exact q
 .obtain⟨its,r,pl,hz⟩:=I.tuple hq
  refine SeqAt.notIn_tupleAt (eqU x) pl (λw hw=>Jj rx fx r fs w (by simpa using hw)) ⟨.bl _,H,I,rfl,?_⟩
  rw[show its.toArray.any (eqU x)=its.any (eqU x) by simp,MY r fs]
  exact q
def Pf:Eg X (.builtin "len") (λxs H Q=>∃p ys,xs=[.ref p]/\(SqL X.K H p ys\/SqT X.K H p ys)/\Q (.int ys.length) H):=by
 intro pins s σ H xs us Q I r h
 obtain⟨p,ys,rfl,hq,q⟩:=h
 obtain⟨u,rfl,rx⟩:=vals1 r
 cases rx
 have hn:=P8
 rcases hq with hq|hq
 .obtain⟨its,r',pl,hz⟩:=I.list hq
  have hlen:=r'.length
  exact Calls.call_len_list pl.isList (by simp only[ur]<;>lia) ⟨.int ys.length,H,I.tok _,⟨s.toks+1,by rw[ur,hlen]⟩,q⟩
 .obtain⟨its,r',pl,hz⟩:=I.tuple hq
  have hlen:=r'.length
  exact len_tuple pl (by simp only[ur]<;>lia) ⟨.int ys.length,H,I.tok _,⟨s.toks+1,by rw[ur,hlen]⟩,q⟩
def Pa:Eg X (.builtin "len") (λxs H Q=>∃z,xs=[.str z]/\z.length<=sizeLine/\Q (.int z.length) H):=by
 intro pins s σ H xs us Q I r h
 obtain⟨z,rfl,hz,q⟩:=h
 obtain⟨u,rfl,t,rfl⟩:=vals1 r
 have hn:=P8
 exact len_str (by lia) ⟨.int z.length,H,I.tok _,⟨_,rfl⟩,q⟩
def P4:Eg X (.type "list") (λxs H Q=>∃p ys,xs=[.ref p]/\(SqL X.K H p ys\/SqT X.K H p ys)/\∀l,H l=none->Q (.ref l) (upd H l (.lst ys))):=by
 intro pins s σ H xs us Q I r h
 obtain⟨p,ys,rfl,hq,q⟩:=h
 obtain⟨u,rfl,rx⟩:=vals1 r
 cases rx
 have fin:∀(its:Wp uY),Vals ys its->ys.length<=sizeLine->∀(h':vt) (c':Nat),(∀b o',s.heap.get? b=Gc o'->h'.get? b=Gc o')->
   h'.get? s.heap.objs.size=Gc {cls:=.type "list",dict:=none,data:=.seq its.toArray c',slots:= #[]}->EP X pins σ Q (.ref s.heap.objs.size) {s with heap:=h'}:=λits r' hz h' c' kp e=>
  ⟨.ref s.heap.objs.size,_,I.laid (t':=s.toks) kp (ue _) (show CU X.prog X.w _ h' _ (.lst ys)from⟨hz,its,c',r',e⟩),rfl,q _ (I.hok.fresh (ue _))⟩
 rcases hq with hq|hq
 .obtain⟨its,r',pl,hz⟩:=I.list hq
  have hlen:=r'.length
  obtain⟨o,ho,hc,n,hd⟩:=pl.isList
  exact call_list_seq p (.inl rfl) ho hc hd (λh' c' kp e=>fin its r' hz h' c' kp e) (by simp only[ur]<;>lia)
 .obtain⟨its,r',pl,hz⟩:=I.tuple hq
  have hlen:=r'.length
  obtain⟨o,ho,hc,n,hd⟩:=pl
  exact call_list_seq p (.inr rfl) ho hc hd (λh' c' kp e=>fin its r' hz h' c' kp e) (by simp only[ur]<;>lia)
def OF:Eg X (.type "tuple") (λxs H Q=>∃p ys,xs=[.ref p]/\((SqL X.K H p ys/\∀l,H l=none->Q (.ref l) (upd H l (.tup ys)))\/(SqT X.K H p ys/\Q (.ref p) H))):=by
 intro pins s σ H xs us Q I r h
 obtain⟨p,ys,rfl,h⟩:=h
 obtain⟨u,rfl,rx⟩:=vals1 r
 cases rx
 rcases h with⟨hq,q⟩|⟨hq,q⟩
 .obtain⟨its,r',pl,hz⟩:=I.list hq
  have hlen:=r'.length
  refine call_tuple_list pl.isList (λh' kp=>?_) (by simp only[ur]<;>lia)
  have I1:Inv X pins σ H {s with heap:=h'}:=I.kept (t':=s.toks) kp
  have I2:Inv X pins σ (upd H h'.objs.size (.tup ys)) {s with heap:=h'.push {cls:=.type "tuple",data:=.seq its.toArray}}:=
   I1.laid (t':=s.toks) (λb o e=>uR _ e) (ue _) (show CU X.prog X.w _ _ _ (.tup ys)from⟨hz,its,r',yj _ _⟩)
  exact⟨.ref h'.objs.size,_,I2,rfl,q _ (I1.hok.fresh (ue _))⟩
 .obtain⟨its,r',pl,hz⟩:=I.tuple hq
  exact call_tuple_same pl ⟨.ref p,H,I,rfl,q⟩
def tyV(K:W1)(T:yE)(x:V)(H:Hp):Prop:=match x with
 | .str _=>T="str"
 | .int _=>T="int"
 | .ref p=>(T="list" /\∃xs,SqL K H p xs)\/(T="tuple" /\∃o,K.lookup p=Gc o/\o.cls=.type "tuple" /\o.dict=none)∨ (T="dict" /\((∃kvs,H p=Gc (.dK kvs))\/∃kvs,H p=Gc (.dT kvs)))\/(T="set" /\∃S n,H p=Gc (.set S n))
 |_=>wI
def iS{σ:St}(I:Inv X pins σ H s)(r:RelV x v)(ty:tyV X.K T x H):s.TypeIs v T/\∀a,v=.ref a->∃ob,s.heap.get? a=Gc ob/\ob.dict=none:=by
 cases x with
 |str z=>
  obtain⟨t,rfl⟩:=r
  cases (show T="str" from ty)
  exact⟨AA4 s z t,λ_ e=>nomatch e⟩
 |int i=>
  obtain⟨t,rfl⟩:=r
  cases (show T="int" from ty)
  exact⟨zT s i t,λ_ e=>nomatch e⟩
 |ref p=>
  cases r
  rcases ty with⟨rfl,xs,hq⟩|⟨rfl,o,hk,hc,hd⟩|⟨rfl,hk⟩|⟨rfl,S,n,hk⟩
  .obtain⟨its,_,pl,_⟩:=I.list hq
   refine⟨pl.isList.typeIs,λa e=>?_⟩
   cases e
   obtain⟨o,n,e,c,hd,_⟩:=pl
   exact⟨o,e,hd⟩
  .refine⟨⟨o,I.kIn p o hk,hc⟩,λa e=>?_⟩
   cases e
   exact⟨o,I.kIn _ o hk,hd⟩
  .have z:∃o,s.heap.get? p=Gc o/\o.ExactDict:=by
    rcases hk with⟨kvs,hk⟩|⟨kvs,hk⟩
    .obtain⟨_,_,_,_,o,_,_,e,ex,_⟩:=I.hok p _ hk
     exact⟨o,e,ex⟩
    .obtain⟨_,_,_,_,o,_,_,e,ex,_⟩:=I.hok p _ hk
     exact⟨o,e,ex⟩
   obtain⟨o,e,ex⟩:=z
   refine⟨⟨o,e,ex.1⟩,λa e2=>?_⟩
   cases e2
   exact⟨o,e,ex.2.1⟩
  .obtain⟨o,_,_,_,e,ex,_⟩:=I.hok p _ hk
   refine⟨⟨o,e,ex.1⟩,λa e2=>?_⟩
   cases e2
   exact⟨o,e,ex.2.1⟩
 |_=>exact vY ty
noncomputable def tBM(K:W1)(T:yE)(r:V->Wp V->Hp->VK->Prop)(to:TE)(t:TA):TE:=λσ H Q=>to σ H λx H1=>tyV K T x H1/\t σ H1 λxs H2=>r x xs H2 Q
variable{o e:vj}{es:Wp vj}{to:TE}{t:TA}{name:Str}{apos cpos:Pos}{T id:yE}{r:V->Wp V->Hp->VK->Prop}
def mh(pa:PlainAttrs T)(slot:Slot T name id)(hty:typeOf (.builtin id)=pure (.type "method_descriptor"))(hm:MtR X id r)(ho:PE X o to)(ha:PA X (e::es) t)(hbase:zn (attributeBase o name X.env (eval o X.env)=eval o X.env) ww)(hfew:zn (((backTo cpos (uf (e::es) X.env)).all (λx=> !x.1) && (backToKw cpos (keywordEach [] X.env)).all (λx=>x.1.isSome) && decide ((e::es).length+([]:Wp AAc).length+(if([]:Wp AAc).isEmpty then 0 else 1)<30))=true) ww)(hline:zn ((apos.endLine==cpos.line)=true) ww)(hs:zn (uf (e::es) X.env=(false,eval e X.env)::uf es X.env) ww)(hplain:zn ((backTo cpos (uf es X.env)).any (·.1)=false) ww):PE X (.Call (.Attribute o name apos) (e::es) [] cpos) (tBM X.K T r to t):=by
 intro pins s σ H Q I h
 refine wpAny_Call_method_late hbase hfew hline rfl (thn (ho pins s σ H _ I h) λv s1 z=>?_)
 obtain⟨x,H1,I1,r1,ty,q1⟩:=z
 obtain⟨h1,h2⟩:=iS I1 r1 ty
 refine⟨T,id,pa,slot,hty,h1,h2,?_⟩
 have hA:=ha cpos pins s1 σ H1 _ I1 q1
 rw[hs]at hA⊢
 refine zG (by show(false||(backTo cpos (uf es X.env)).any (·.1))=false;rw[hplain]<;>rfl) (xk ?_)
 exact thn hA λus s2 ⟨vs,H2,I2,r2,q2⟩=>hm pins s2 σ H2 x vs v us Q I2 r1 r2 q2
end
end L2
namespace L2
open PySem PySem.Spec PyProof.Rows
def MtM(X:Cx)(id:yE)(r:V->Wp V->Hp->VK->Prop):Prop:=
 ∀(pins:Wp (ug×Obj)) (s:uj) (σ:St) (H:Hp) (x:V) (xs:Wp V) (v:uY) (us:Wp uY) (Q:VK),Inv X pins σ H s->RelV x v->Vals xs us->r x xs H Q->
  wpAny (model X.prog X.w) X.A (call (.builtin id) (v::us)) (EP X pins σ Q) X.xe s
def Vals.one:∀{x:V} {us:Wp uY},Vals [x] us->∃u,us=[u]/\RelV x u:=λh=>by
 cases h with
 |cons r t=>cases t;exact⟨_,rfl,r⟩
def Vals.two:∀{x y:V} {us:Wp uY},Vals [x,y] us->∃u v,us=[u,v]/\RelV x u/\RelV y v:=λh=>by
 cases h with
 |cons r t=>
  cases t with
  |cons q t=>cases t;exact⟨_,_,rfl,r,q⟩
theorem Vals.rep(h:Vals xs us):∀k:Nat,Vals (uq k xs).flatten (uq k us).flatten
 |0=>.nil
 |k+1=>by
  rw[wK,wK,xl,xl]
  exact Vals.append h (Vals.rep h k)
theorem foldl_rep its:∀k (acc:Wp uY),AB5 (λx1 x2=>x1++x2) acc.toArray (uq k its.toArray)=(acc++(uq k its).flatten).toArray
 |0,acc=>by simp
 |k+1,acc=>by
  have e:acc.toArray++its.toArray=(acc++its).toArray:=by simp
  have e2:(acc++its)++(uq k its).flatten=acc++(uq (k+1) its).flatten:=by
   rw[wK,xl,zH]
  rw[<-e2,<-foldl_rep its k (acc++its),<-e,wK,List.foldl_cons]
section
variable{X:Cx}{pins:Wp (ug×Obj)}{σ:St}{H:Hp}{s:uj}{l b:ug}{xs ys zs:Wp V}
def Inv.nG{its its':Wp uY}{t':Nat}(I:Inv X pins σ H s)(hH:H l=Gc (.lst xs))(e:s.heap.get? l=Gc {cls:=.type "list",data:=.seq its.toArray n})(hf:f its.toArray=its'.toArray)(hv:Vals ys its')(hz:ys.length<=sizeLine):Inv X pins σ (upd H l (.lst ys)) {s with heap:=s.heap.update l (AAN f),toks:=t'}:=by
 have q:=PySem.IsL.update e f
 rw[hf]at q
 refine I.write (x:=l) (e:=l) (by rw[hH];exact trivial) (.inl rfl) (λb' u hb hu=>(vo s.heap (AAN f) (vi hb)).trans hu) ⟨_,q⟩ ?_
 exact⟨hz,its',_,hv,q⟩
def Inv.qN{its:Wp uY}{t':Nat}(I:Inv X pins σ H s)(hv:Vals ys its)(hz:ys.length<=sizeLine):Inv X pins σ (upd H s.heap.objs.size (.lst ys)) {s with heap:=s.heap.push {cls:=.type "list",data:=.seq its.toArray},toks:=t'}:=
 I.laid (λ_ _ q=>uR _ q) (ue _) ⟨hz,its,0,hv,uy _ rfl⟩
def Inv.fresh(I:Inv X pins σ H s):H s.heap.objs.size=none:=I.hok.fresh (ue _)
def Inv.Zh(I:Inv X pins σ H s)(hH:H l=Gc (.lst xs)):xs.length<=sizeLine/\∃(its:Wp uY) (n:Nat),Vals xs its/\xs.length=its.length/\s.heap.get? l=Gc {cls:=.type "list",data:=.seq its.toArray n}:=by
 obtain⟨z,its,n,r,e⟩:=I.hok l _ hH
 exact⟨z,its,n,r,r.length,e⟩
def OQ{n:Nat}(h:n<=sizeLine):wO n=false:=by
 unfold wO
 exact yJ (by lia)
end
section
variable{X:Cx}
def dU:V->Wp V->Hp->VK->Prop:=λx vs H Q=>∃l xs y,x=.ref l/\vs=[y]/\H l=Gc (.lst xs)/\xs.length<sizeLine/\Q .non (upd H l (.lst (xs++[y])))
def QG:MtM X "list.append" dU:=by
 intro pins s σ H x vs v us Q I rx rv h
 obtain⟨l,xs,y,rfl,rfl,hH,hz,q⟩:=h
 cases rx
 obtain⟨u,rfl,ru⟩:=rv.one
 obtain⟨z,its,n,r,hl,e⟩:=I.Zh hH
 refine zU ABL ⟨_,e,rfl⟩ F.entry_list_append (F.args_list_append_2 _ _) (PySem.list_append l its.toArray n u (by rw[ur];lia)) ⟨e,?_⟩
 refine⟨.non,_,I.nG (its':=its++[u]) hH e (by simp) (r.append (.cons ru .nil)) ?_,rfl,q⟩
 rw[vq,ABM]
 lia
def dF:V->Wp V->Hp->VK->Prop:=λx vs H Q=>∃l b xs zs,x=.ref l/\vs=[.ref b]/\H l=Gc (.lst xs)/\H b=Gc (.lst zs)/\xs.length+zs.length<=sizeLine/\Q .non (upd H l (.lst (xs++zs)))
def Vc:MtM X "list.extend" dF:=by
 intro pins s σ H x vs v us Q I rx rv h
 obtain⟨l,b,xs,zs,rfl,rfl,hH,hB,hz,q⟩:=h
 cases rx
 obtain⟨u,rfl,ru⟩:=rv.one
 cases ru
 obtain⟨z,its,n,r,hl,e⟩:=I.Zh hH
 obtain⟨z2,its2,n2,r2,hl2,e2⟩:=I.Zh hB
 have hsz:its.toArray.size+its2.toArray.size<=sizeLine:=by rw[ur,ur];lia
 have hlong:¬(!its.toArray.isEmpty && wO (its.toArray.size+its2.toArray.size))=true:=by
  rw[OQ hsz,AAO]
  exact vZ
 refine zU AB6 ⟨_,e,rfl⟩ ABl (ABS _ _)
  (AutoSeq1.list_extend_list_list_0 l its.toArray n b its2.toArray n2 hlong (by rw[ur];lia) (by lia)) ⟨e,e2,?_⟩
 refine⟨.non,_,I.nG (its':=its++its2) hH e (by simp) (r.append r2) ?_,rfl,q⟩
 rw[vq]
 lia
noncomputable def tZ:R2:=λx y H Q=>∃l b xs zs,x=.ref l/\y=.ref b/\H l=Gc (.lst xs)/\H b=Gc (.lst zs)/\xs.length+zs.length<=sizeLine/\∀p,H p=none->Q (.ref p) (upd H p (.lst (xs++zs)))
def gu:OpR X (binaryOp .Add) tZ:=by
 intro pins s σ H x y v u Q I rx ry h
 obtain⟨l,b,xs,zs,rfl,rfl,hH,hB,hz,q⟩:=h
 cases rx
 cases ry
 obtain⟨z,its,n,r,hl,e⟩:=I.Zh hH
 obtain⟨z2,its2,n2,r2,hl2,e2⟩:=I.Zh hB
 refine PySem.P.add_list e e2 ?_ (by rw[ur,ur];lia)
 have ea:its.toArray++its2.toArray=(its++its2).toArray:=by simp
 rw[ea]
 exact⟨.ref _,_,I.qN (t':=s.toks) (r.append r2) (by rw[vq];lia),rfl,q _ I.fresh⟩
noncomputable def sR:R2:=λx y H Q=>∃l k xs,x=.ref l/\y=.int k/\H l=Gc (.lst xs)/\ -(2^63)<=k/\k<2^63/\xs.length*k.toNat<=sizeLine/\
 ∀p,H p=none->Q (.ref p) (upd H p (.lst (uq k.toNat xs).flatten))
def len_rep{α:Type}(xs:Wp α)(k:Nat):(uq k xs).flatten.length=k*xs.length:=by
 induction k with
 |zero=>simp
 |succ k ih=>rw[wK,xl,vq,ih,Nat.succ_mul,AA5]
def gJ:OpR X (binaryOp .Mult) sR:=by
 intro pins s σ H x y v u Q I rx ry h
 obtain⟨l,k,xs,rfl,rfl,hH,h1,h2,hz,q⟩:=h
 cases rx
 obtain⟨t,rfl⟩:=ry
 obtain⟨z,its,n,r,hl,e⟩:=I.Zh hH
 have hlen:its.toArray.size*k.toNat<=sizeLine:=by rw[ur,<-hl];exact hz
 have hcap:¬its.toArray.size*k.toNat>(2^63-1) / 8:=by
  have:(sizeLine:Nat)<=(2^63-1) / 8:=by decide
  lia
 have hfit:¬(!Builtin.List.listFitsIndex k)=true:=by
  rw[fitsIndex_both h1 h2]
  exact vZ
 have hlong:¬wO (its.toArray.size*k.toNat)=true:=by
  rw[OQ hlen]
  exact vZ
 have hnew:AB5 (λx1 x2=>x1++x2) #[] (uq (if its.toArray.isEmpty=true then 0 else k.toNat) its.toArray)=(uq k.toNat its).flatten.toArray:=by
  have f0:∀m:Nat,AB5 (λx1 x2=>x1++x2) #[] (uq m its.toArray)=(uq m its).flatten.toArray:=λm=>by
   have:=foldl_rep its m []
   rw[vK]at this
   exact this
  rw[f0]
  cases its with
  |nil=>simp
  |cons a r'=>rw[vC (by simp)]
 refine yh (T:="list") (U:="int") (by decide) ⟨_,e,rfl⟩ (λs'=>zT s' k t) noFill_list_mul ABE yL repeat_list AAt.lookup
  (zU yL (zT s k t) AAu (AAd _ _) (int___rmul___int_list k t l its.toArray n)
    ⟨e,rfl,⟨_,e,rfl⟩,zU F.slot_list_mul ⟨_,e,rfl⟩ F.entry_list_mul (F.args_list_mul_2 _ _) (AutoListH.list___mul___list_int_3 l its.toArray n k t hfit hcap hlong) ⟨e,?_⟩⟩)
 rw[hnew]
 exact⟨.ref _,_,I.qN (t':=s.toks) (r.rep k.toNat) (by rw[len_rep,yG];exact hz),rfl,q _ I.fresh⟩
end
section
variable{prog:vb}{w:wH}{A:w9}{E:uY->uj->Prop}{s:uj}
end
section
variable{X:Cx}
end
end L2
namespace Att
open PySem PySem.W PySem.Calls PyProof.Rows
def ints_of_wellAll:∀ns (vs:Wp uY),WellAll P h vs (ns.map WData.int)->yo vs ns:=by
 intro ns
 induction ns with
 |nil=>
  intro vs w
  rw[wG]at w
  cases w
  exact .nil
 |cons n ns ih=>
  intro vs w
  rw[ux]at w
  cases w with
  |cons a b=>
   cases a
   exact .cons _ _ (ih _ b)
def script_of{l:AAz}(hn:l.most=Gc n)(hpre:l.row.toRowW.claim.pre args=true)(hwl:WellAll P h vals args):∃a vs ns,vals=[u6 a]/\args=[WData.list (ns.map WData.int)]/\h.get? a=Gc {cls:=.type "list",data:=.seq vs.toArray}/\yo vs ns/\ns.length<=n:=by
 have hsh:WShape.hasAll [] args [.list .int]=true:=(pre_splitW hpre).1
 have hc:l.pre.holds [] {args:=args}=true:=(pre_splitW hpre).2
 obtain⟨d,r,rfl,h1,h2⟩:=hasAllW_cons hsh
 obtain rfl:=hasAllW_nil h2
 obtain⟨xs,rfl,h3⟩:=hasW_list h1
 obtain⟨ns,rfl⟩:=items_int h3
 have hlen:ns.length<=n:=by
  unfold OpenLaw.pre at hc
  have h4:(WTm.not (.lt (.lit (.int (n:Int))) (.len (.arg 0)))).holds [] {args:=[.list (ns.map .int)]}=true:=by
   have h4:=(holds_andW hc).1
   rw[hn]at h4
   exact h4
  have h5:=condW_of h4 (w_not (w_lt w_lit (w_len_list (w_arg rfl))))
  rw[vO]at h5
  refine Nat.le_of_not_lt λq=>?_
  have q':(n:Int)<((ns.length:Nat):Int):=by lia
  first
   |(rw[xP q']at h5;exact absurd h5 (by decide))
   |(simp at h5;lia)
 cases hwl with
 |cons w1 w2=>
  cases w2
  cases w1 with
  |list ho hall=>exact⟨_,_,ns,rfl,rfl,ho,ints_of_wellAll ns _ hall,hlen⟩
def post_true(l:AAz)(args:Wp WData):l.row.toRowW.claim.post args (.bool true) args=true:=
 postW_of (r:=l.row.toRowW) (X:=(true==true))
  (show WShape.has [] (.bool true) .bool=true by first|rfl|decide|simp[WShape.has,WShape.arms,WShape.armsAll])
  (show(WTm.eq .res (.lit (.bool true))).value [] {args:=args,res:=Gc (.bool true),after:=args}=Gc (.bool (true==true))from w_eq_bool (w_res rfl) w_lit) rfl
def attach_call{l:AAz}(hn:l.most=Gc n)(hdf:d.params.defaults=[])(call:∀w s₀ s₁ mg mb fa o pm cd doc a vs ns,Ground q loose [] XP w s₀ mg mb s₁.heap->YP w s₁.heap->s₁.heap.get? fa=Gc o->o.data=.func (docDef d.name d.params d.body d.scope pm cd doc)->s₁.heap.CodeRec cd d.name->mg d.name=Gc (.ref fa)->s₁.heap.get? a=Gc {cls:=.type "list",data:=.seq vs.toArray}->yo vs ns->ns.length<=n->s₁.gens= #[]->codeAny (model l.prog w) callerA (.call (.ref fa) ⟨[.ref a],[]⟩) (λr s'=>r=.ok (.ret (.bool true))/\OldK s₁.heap s'.heap/\s'.os=s₁.os/\yx s'.gens) s₁):WalkO q loose XP YP l.row.toRowW d [] (λf vs=>PySem.call f vs):=by
 intro w s₀ s₁ mg mb G Y fa o pm cd doc dV kV ho hd hcd hD hmg hg args vals as hpre hlay hrd hwl hlo
 obtain rfl:dV=.none:=Dflts.none hD hdf
 obtain rfl:kV=.none:=Dflts.noKw hD
 obtain⟨a,vs,ns,rfl,rfl,hobj,hints,hlen⟩:=script_of hn hpre hwl
 refine enter_call (yd (call w s₀ s₁ mg mb fa o pm cd doc a vs ns G Y ho (fd_plain hd) hcd hmg hobj hints hlen hg) λr s' hq=>?_)
 obtain⟨rfl,h2,h3,h4⟩:=hq
 exact⟨.inl ⟨.bool true,.bool true,[],rfl,λ_=>rfl,.bool true,post_true l _,λ_=>⟨List.Pairwise.nil,λ_ hm=>(nomatch hm)⟩⟩,h2,h3,h4⟩
section
variable{prog:vb}{w:wH}{A:w9}{E:uY->uj->Prop}{s:uj}{K:W1}
end
end Att
namespace L2
open PySem PySem.Spec PyProof.Rows
theorem Px:∀{vs:Wp uY} {ns:Wp Int},yo vs ns->Vals (ns.map V.int) vs
 |_,_,.nil=>.nil
 |_,_,.cons n t h=>.cons ⟨t,rfl⟩ (Px h)
end L2
namespace L2
open PySem PySem.Spec PyProof.Rows
abbrev KOf{K:W1}{h:vt}(_:K.In h):W1:=K
end L2
namespace L2
open PySem PySem.Spec PyProof.Rows
noncomputable def inClass(s:vI)(j:Nat):vI:=match s with
 | .ClassDef _ _ _ body _ _ _ _ _ _ _=>body.getD j (.Pass ⟨0,0,0,0⟩)
 |_=>.Pass ⟨0,0,0,0⟩
noncomputable def F7(s:vI):Arguments:=match s with
 | .FunctionDef _ a _ _ _ _ _ _ _ _=>a
 |_=>{posonlyargs:=[],args:=[],vararg:=none,kwonlyargs:=[],kw_defaults:=[],kwarg:=none,defaults:=[]}
noncomputable def Ar(s:vI):Wp vI:=match s with
 | .FunctionDef _ _ b _ _ _ _ _ _ _=>b
 |_=>[]
noncomputable def AB(s:vI):wY:=match s with
 | .FunctionDef _ _ _ _ _ _ sc _ _ _=>sc
 |_=>{kind:=.function,names:=[],isGenerator:=false,isCoroutine:=false}
abbrev CX0:CXT:=λ_ _ _ _ _ _=>wI
abbrev E0:XK:=λ_ _ _=>wI
def VJ{X:Cx}:Passes CX0 X E0:=λ_ _ _ _ _ _ _ h=>h.elim
structure Fun(K:W1)(x qual:Str)(st:vI)(f:ug)(fd:zD):Prop where
 ex:∃(oc:uY) (od:uS ug) (kV doc pm:uY) (an:uS ug) (cdv ct:uY) (osl:ym (uS uY)),
  fd=wZ x qual (F7 st) (Ar st) (AB st) .none kV doc pm an cdv ct/\K.lookup f=Gc ⟨oc,od,.func fd,osl⟩/\x5 K cdv qual=true
 kp:vn K (.ref f)=true
section
variable{P:vb}{w:wH}{K:W1}{mg:Str->uS uY}{base:vt}
def Fun.ok{st:vI}(F:Fun K x qual st f fd)(S:Aj N ps (AB st))(len:∀vs H Q E,sp vs H Q E->vs.length=ps.length)(hbody:∀cdv A outer s H vs Q E,Cg k (A.deeper (envOfC qual (AB st) s.heap.objs.size f cdv))->sp vs H Q E->∃t,PSs (IW CX0 P w K mg base N qual (AB st) f cdv A outer s H E).nox (Ar st) t/\t {nx:=λ_ H'=>Q .non H',rt:=Q} (start N vs) H):Jm P w K mg base CX0 (k+1) f fd ps sp:=by
 obtain⟨oc,od,kV,doc,pm,an,cdv,ct,osl,rfl,lk,hcd⟩:=F.ex
 refine Xy lk hcd S len λA outer s H vs Q E hr hsp=>?_
 obtain⟨t,h,q⟩:=hbody cdv A outer s H vs Q E hr hsp
 exact⟨t,h.nox,q⟩
def Fun.binds{st:vI}(F:Fun K x qual st f fd)(h:∀kV doc pm an cdv ct us,us.length=ps.length->bindArgs (wZ x qual (F7 st) (Ar st) (AB st) .none kV doc pm an cdv ct) ⟨us,[]⟩=pure (ps.zip us)):Binds K fd ps []:=by
 obtain⟨oc,od,kV,doc,pm,an,cdv,ct,osl,rfl,lk,hcd⟩:=F.ex
 exact .all (h kV doc pm an cdv ct)
def Uw{st:vI}{kV doc pm cdv ct:uY}(l:K.lookup f=Gc ⟨oc,od,.func (wZ x qual (F7 st) (Ar st) (AB st) .none kV doc pm an cdv ct),osl⟩)(c:x5 K cdv qual=true)(k:vn K (.ref f)=true):Fun K x qual st f (wZ x qual (F7 st) (Ar st) (AB st) .none kV doc pm an cdv ct):=⟨⟨oc,od,kV,doc,pm,an,cdv,ct,osl,rfl,l,c⟩,k⟩
end
section
variable{X:Cx}
end
def ZW{A B:Prop}(h:B):if false=true then A else B:=by
 rw[vC vZ]
 exact h
def Za{A B:Prop}(h:A):if true=true then A else B:=by
 rw[vD rfl]
 exact h
def Bq(H H':Hp):Prop:=∀b o,H b=Gc o->H' b=Gc o
end L2
end
noncomputable section
namespace L2
open PySem PySem.Spec PyProof.Rows
noncomputable def FG(cells:Wp (Str×ug)):Wp (Str×AAq)->Wp (Str×ug)->Wp (Str×ug)
 | [],cs=>cs
 |(n,k)::r,cs=>if(k==vy)=true then FG cells r ((n,(cells.lookup n).getD 0)::cs)else FG cells r cs
def O8:∀names cs,(∀y∈names,y.2=.free->∃a,env.cells.lookup y.1=Gc a)->(forIn names cs λx r=>match x with|(name,kind)=>if(kind==vy)=true then(do let a<-cellOf env name;pure (zm ((name,a)::r)))else pure (zm r):Sem (Wp (Str×ug)))=pure (FG env.cells names cs)
 | [],cs,_=>by simp[FG]
 |(n,k)::r,cs,h=>by
  rw[ABF]
  have ih:=λcs=>O8 r cs λy hy=>h y (uX _ hy)
  by_cases hk:(k==vy)=true
  .obtain⟨a,ha⟩:=h (n,k) um (by simpa using hk)
   have ha':env.cells.lookup n=Gc a:=ha
   have e:cellOf env n=pure a:=by unfold cellOf;rw[ha']
   simp only[hk,zZ,e,pure_bind,FG,ha',Option.getD_some]
   exact ih _
  .simp only[hk,AAK,pure_bind,FG]
   exact ih _
def N9(h:∀y∈scope.names,y.2=.free->∃a,env.cells.lookup y.1=Gc a):closureFor scope env=pure (FG env.cells scope.names []):=by
 unfold closureFor
 have:=O8 (env:=env) scope.names [] h
 simp only[bind_pure]at this⊢
 exact this
theorem Jy:∀{names} {cs},(∀y∈names,y.2=.free->∃a,cells.lookup y.1=Gc a)->(FG cells names cs).lookup x=Gc c->cs.lookup x=Gc c\/cells.lookup x=Gc c
 | [],cs,_,h=>.inl h
 |(n,k)::r,cs,hh,h=>by
  have hr:∀y∈r,y.2=.free->∃a,cells.lookup y.1=Gc a:=λy hy=>hh y (uX _ hy)
  unfold FG at h
  by_cases hk:(k==vy)=true
  .rw[vD hk]at h
   rcases Jy hr h with q|q
   .obtain⟨a,ha⟩:=hh (n,k) um (by simpa using hk)
    have ha':cells.lookup n=Gc a:=ha
    rw[vU]at q
    cases hx:x==n with
    |true=>
     rw[hx,ha']at q
     have e:x=n:=by simpa using hx
     subst e
     cases q
     exact .inr ha'
    |false=>
     rw[hx]at q
     exact .inl q
   .exact .inr q
  .rw[vC hk]at h
   exact Jy hr h
theorem GS:∀{names} {cs},((x,vy)∈names\/∃c,cs.lookup x=Gc c)->∃c,(FG cells names cs).lookup x=Gc c
 | [],cs,h=>h.elim (λz=>nomatch z) id
 |(n,k)::r,cs,h=>by
  unfold FG
  by_cases hk:(k==vy)=true
  .rw[vD hk]
   refine GS ?_
   by_cases hx:x=n
   .subst hx
    exact .inr ⟨_,by rw[vU,AAv]⟩
   .rcases h with h|⟨c,h⟩
    .rcases uZ.mp h with e|e
     .cases e;exact absurd rfl hx
     .exact .inl e
    .refine .inr ⟨c,?_⟩
     rw[vU,show(x==n)=false by simpa using hx]
     exact h
  .rw[vC hk]
   refine GS ?_
   rcases h with h|h
   .rcases uZ.mp h with e|e
    .cases e;exact absurd rfl hk
    .exact .inl e
   .exact .inr h
theorem Kx{env:Env}:∀{names:Wp (Str×AAq)},names.lookup x=Gc .free->(names.map λ(n,k)=>if(k==vy && env.scope.kind== .function && env.kindOf n==Gc .cell)then(n,yN)else(n,k)).lookup x=Gc .cell\/(names.map λ(n,k)=>if(k==vy && env.scope.kind== .function && env.kindOf n==Gc .cell)then(n,yN)else(n,k)).lookup x=Gc .free
 | [],h=>by simp at h
 |(n,k)::r,h=>by
  have ih:= @Kx x env r
  show vm x ((if(k==vy && env.scope.kind== .function && env.kindOf n==Gc .cell)=true then(n,yN)else(n,k))::_)=_\/vm x ((if(k==vy && env.scope.kind== .function && env.kindOf n==Gc .cell)=true then(n,yN)else(n,k))::_)=_
  cases hx:x==n with
  |true=>
   simp only[vU,hx]at h
   cases h
   by_cases hc:(vy==vy && env.scope.kind== .function && env.kindOf n==Gc .cell)=true
   .rw[vD hc];simp only[vU,hx];exact .inl trivial
   .rw[vC hc];simp only[vU,hx];exact .inr trivial
  |false=>
   simp only[vU,hx]at h
   by_cases hc:(k==vy && env.scope.kind== .function && env.kindOf n==Gc .cell)=true
   .rw[vD hc];simp only[vU,hx];exact ih h
   .rw[vC hc];simp only[vU,hx];exact ih h
def Lh(hk:k'=.cell\/k'=.free)(h:(relabel scope env).names.lookup x=Gc k'):(x,vy)∈scope.names\/(x,yN)∈scope.names:=by
 have hm:=vS h
 obtain⟨⟨n,k⟩,hy,e⟩:=vT.mp (show(x,k')∈scope.names.map _ from hm)
 by_cases hc:(k==vy && env.scope.kind== .function && env.kindOf n==Gc .cell)=true
 .simp only[hc,zZ]at e
  cases e
  have:k=.free:=by
   have:=((uc _ _).mp hc).1
   exact wJ.mp ((uc _ _).mp this).1
  subst this
  exact .inl hy
 .simp only[hc,AAK]at e
  cases e
  rcases hk with rfl|rfl
  .exact .inr hy
  .exact .inl hy
theorem Bl:∀names n cs,cellsFrom n names cs=cellsFrom n names []++cs
 | [],_,_=>rfl
 |(x,k)::r,n,cs=>by
  unfold cellsFrom
  split
  .rw[Bl r _ ((x,n)::cs),Bl r _ [(x,n)]];simp
  .exact Bl r n cs
theorem Gw:∀{names} {n},(x,c)∈cellsFrom n names []->(x,yN)∈names
 | [],_,h=>nomatch h
 |(y,k)::r,n,h=>by
  unfold cellsFrom at h
  split at h
  .rename_i hk
   rw[Bl]at h
   rcases vE.mp h with z|z
   .exact uX _ (Gw z)
   .have e:=vR.mp z
    cases e
    rw[wJ.mp hk]
    exact um
  .exact uX _ (Gw h)
def Kh(hQ:∀h',h'.Ns s.heap.objs.size (λ_=>none)->(∀b o,s.heap.get? b=Gc o->h'.get? b=Gc o)->CellsOk h' (s.heap.objs.size+1) (cellsFrom (s.heap.objs.size+1) scope.names [])->Q (newEnv scope s.heap.objs.size globals (cellsFrom (s.heap.objs.size+1) scope.names cl) qual none .none (Gc env) builtinsNs) {s with heap:=h'}):wpAny M A (newFunctionEnv scope globals cl [] qual none .none (Gc env)) Q E s:=by
 simp only[newFunctionEnv,Option.isSome_some,zZ]
 refine uQ (wpAny_alloc ?_)
 refine uQ (wpAny_layCells _ (λname kind cells=>by cases hkc:kind==yN<;>simp[hkc]) _ _ _ _ ?_)
 have ok:=cellsFrom_ok scope.names (s.heap.push {cls:=.type "dict",data:=.dict #[]}) (s.heap.objs.size+1) [] ⟨λ_ _ hm=>(nomatch hm),List.Pairwise.nil⟩ (by rw[v7];exact ue _)
 rw[v7]at ok
 rw[show({s with heap:=s.heap.push {cls:=.type "dict",data:=.dict #[]}}:uj).heap.objs.size=s.heap.objs.size+1 from v7 ..]
 rw[ABT]
 refine uQ (uh (uh ?_))
 exact hQ _ ((Heap.Ns.new s.heap (.type "dict")).keeps (pushCells_keeps _ _)) (λb o e=>pushCells_keeps _ _ b o (uR _ e)) ok
end L2
end
noncomputable section
namespace L2
open PySem PySem.Spec PyProof.Rows
noncomputable def Ry(N:Wp Str)(osc scope:wY):Wp Str->Wp (uS Nat)->va
 | [],[]=>true
 |_::r,none::q=>Ry N osc scope r q
 |x::r,Gc i::q=>decide (N[i]?=Gc x) && (decide (osc.names.lookup x=Gc .cell)||decide (osc.names.lookup x=Gc .free)) && decide (scope.names.lookup x=Gc .free) && Ry N osc scope r q
 |_,_=>false
theorem Vl:∀{N'} {ix},Ry N osc scope N' ix=true->ix.length=N'.length
 | [],[],_=>rfl
 |_::r,none::q,h=>by
  unfold Ry at h
  simp[Vl h]
 |x::r,Gc i::q,h=>by
  unfold Ry at h
  have:=((uc _ _).mp h).2
  simp[Vl this]
 | [],_::_,h=>by simp[Ry]at h
 |_::_,[],h=>by simp[Ry]at h
theorem aj:∀{N'} {ix},Ry N osc scope N' ix=true->∀{j i:Nat} {x},N'[j]?=Gc x->ix[j]?=Gc (Gc i)->N[i]?=Gc x/\(osc.names.lookup x=Gc .cell\/osc.names.lookup x=Gc .free)/\scope.names.lookup x=Gc .free
 | [],[],_,j,_,_,h,_=>by simp at h
 |_::r,none::q,h,j,i,x,h1,h2=>by
  unfold Ry at h
  cases j with
  |zero=>simp at h2
  |succ j=>exact aj h (by simpa using h1) (by simpa using h2)
 |y::r,Gc k::q,h,j,i,x,h1,h2=>by
  unfold Ry at h
  obtain⟨ha,hr⟩:=(uc _ _).mp h
  obtain⟨ha,h3⟩:=(uc _ _).mp ha
  obtain⟨h4,h5⟩:=(uc _ _).mp ha
  cases j with
  |zero=>
   simp at h1 h2
   subst h1 h2
   refine⟨uu h4,?_,uu h3⟩
   rcases(vw _ _).mp h5 with z|z
   .exact .inl (uu z)
   .exact .inr (uu z)
  |succ j=>exact aj hr (by simpa using h1) (by simpa using h2)
 | [],_::_,h,_,_,_,_,_=>by simp[Ry]at h
 |_::_,[],h,_,_,_,_,_=>by simp[Ry]at h
structure AO(N:Wp Str)(osc:wY)(N':Wp Str)(ix:Wp (uS Nat))(scope:wY):Prop where
 kind:scope.kind=.function
 cells:∀y∈scope.names,y.2=.cell->scope.names.lookup y.1=Gc .cell
 names:∀y∈scope.names,y.2=.local->scope.names.lookup y.1=Gc .local
 free:∀y∈scope.names,y.2=.free->(osc.names.lookup y.1=Gc .cell\/osc.names.lookup y.1=Gc .free)
 ok:Ry N osc scope N' ix=true
noncomputable def sig(ix:Wp (uS Nat))(σ:St):St:=ix.map λo=>o.bind λi=>(σ[i]?).join
noncomputable def He(X:Cx)(N':Wp Str)(scope:wY)(s:uj)(H:Hp)(fp:Wp ug):Cx where
 prog:=X.prog
 w:=X.w
 K:=X.K
 mg:=X.mg
 base:=X.base
 A:=X.A
 N:=N'
 s₀:=s
 H₀:=H
 env:=compEnvC scope (cellsFrom (s.heap.objs.size+1) scope.names (FG X.env.cells scope.names [])) s.heap.objs.size X.env
 outer:=X.stack
 stack:=X.stack
 ex:=fp
 fn:=λx=>decide (scope.names.lookup x=Gc .cell)
 calm:=true
 pn:=[]
 xe:=λ_ _=>wI
section
variable{X:Cx}{σ:St}{H:Hp}{s:uj}{N':Wp Str}{scope:wY}{fp:Wp ug}
def Inv.cellsOf(I:Inv X pins σ H s)(S:AO X.N X.env.scope N' ix scope):∀y∈scope.names,y.2=.free->∃a,X.env.cells.lookup y.1=Gc a:=λy hy hk=>I.ok.has y.1 (S.free y hy hk)
def YS(S:AO X.N X.env.scope N' ix scope)(hc:X.calm=true)(I:Inv X pins σ H s)(hf:∀b∈fp,Qd X pins H b)(hlt:∀b∈fp,b<s.heap.objs.size)(hn:h1.Ns s.heap.objs.size m1)(hk:∀b o,s.heap.get? b=Gc o->h1.get? b=Gc o)(hC:CellsOk h1 (s.heap.objs.size+1) (cellsFrom (s.heap.objs.size+1) scope.names [])):Inv (He X N' scope s H fp) [] (sig ix σ) H {s with heap:=h1,toks:=tk}:=by
 have hcl:=I.cellsOf S
 have sub:∀{x:Str} {c:ug},(FG X.env.cells scope.names []).lookup x=Gc c->X.env.cells.lookup x=Gc c:=λ{x c} h=>by
  rcases Jy hcl h with z|z
  .simp at z
  .exact z
 have old:∀{x:Str} {c:ug},X.env.cells.lookup x=Gc c->c<s.heap.objs.size:=λ{x c} h=>by
  obtain⟨v,oc,ho,_⟩:=I.cell x c h
  exact uk ho
 have look:∀{x:Str} {c:ug},(cellsFrom (s.heap.objs.size+1) scope.names (FG X.env.cells scope.names [])).lookup x=Gc c->(x,c)∈cellsFrom (s.heap.objs.size+1) scope.names []\/X.env.cells.lookup x=Gc c:=λ{x c} h=>by
  rw[Bl,yv]at h
  cases e:(cellsFrom (s.heap.objs.size+1) scope.names []).lookup x with
  |some a=>rw[e]at h;cases h;exact .inl (vS e)
  |none=>rw[e]at h;exact .inr (sub h)
 refine⟨⟨I.ok.mod,S.kind,I.ok.glob,I.ok.blt,ue _,λx y c h1 h2=>?_,λx hx=>?_,λx c hx h=>?_,λ_=>I.ok.hd hc,I.ok.frames,.inl rfl,λb hb=>?_,I.bs,ub I.ok.bsz I.sz,λb o e hb=>?_,λb hb hs=>?_,I.stack,I.Q1⟩,
  rfl,I.bare,Un.kept hk,⟨m1,hn,λj x v h1 h2 h3=>?_⟩,λx c h=>?_,I.hok.fresh (ue _),λx c h=>?_,λp hp=>absurd (show p∈([]:Wp (ug×Obj))from hp) (by simp),I.hok.kept hk,?_⟩
 . -- inj
   rcases look h1 with a|a<;>rcases look h2 with b|b
   .exact name_of_addr hC.apart a b
   .exact absurd (uV (old b) (yU (hC.empty _ _ a).2)) (v9 _)
   .exact absurd (uV (old a) (yU (hC.empty _ _ b).2)) (v9 _)
   .exact I.ok.inj x y c a b
 . -- has
   have hx':(relabel scope X.env).names.lookup x=Gc .cell\/(relabel scope X.env).names.lookup x=Gc .free:=hx
   show∃c,(cellsFrom (s.heap.objs.size+1) scope.names (FG X.env.cells scope.names [])).lookup x=Gc c
   rw[Bl,yv]
   cases e:(cellsFrom (s.heap.objs.size+1) scope.names []).lookup x with
   |some a=>exact⟨a,rfl⟩
   |none=>
    rcases(hx'.elim (Lh (.inl rfl)) (Lh (.inr rfl)))with z|z
    .exact GS (.inl z)
    .obtain⟨c,hc⟩:=LJ (n:=s.heap.objs.size+1) (S.cells _ z rfl)
     rw[e]at hc;cases hc
 . -- cab
   obtain⟨c',hc'⟩:=LJ (n:=s.heap.objs.size+1) (uu hx)
   have h:(cellsFrom (s.heap.objs.size+1) scope.names (FG X.env.cells scope.names [])).lookup x=Gc c:=h
   rw[Bl,yv,hc']at h
   cases h
   exact yU (hC.empty _ _ (vS hc')).2
 . -- exf
   refine⟨vF (hlt b hb),λx c h=>?_⟩
   rcases look h with a|a
   .exact λe=>absurd (uV (e▸hlt b hb) (yU (hC.empty _ _ a).2)) (v9 _)
   .exact(hf b hb).2.2.2.2.1 x c a
 . -- ZG
   rcases(hf b hb).2.2.2.1 with z|z
   .exact I.ok.ZG b o e z
   .exact absurd (uV (uk (I.ok.bs b o e).1) z) (v9 _)
 . -- az
   rcases uZ.mp (I.VT b hs)with z|z
   .exact(hf b hb).2.1 z
   .exact(hf b hb).2.2.1 z
 . -- loc
   unfold sig at h2
   rw[uo]at h2
   cases e:ix[j]? with
   |none=>rw[e]at h2;cases h2
   |some o=>
    rw[e]at h2
    cases o with
    |none=>cases h2
    |some i=>
     have h2':(σ[i]?).join=Gc v:=by simpa using h2
     have h4:σ[i]?=Gc (Gc v):=by
      cases e4:σ[i]? with
      |none=>rw[e4]at h2';cases h2'
      |some q=>rw[e4]at h2';exact congrArg Gc h2'
     obtain⟨q1,q2,q3⟩:=aj S.ok h1 e
     obtain⟨m,_,hl⟩:=I.loc
     obtain⟨u,r,l⟩:=hl i x v q1 h4 (q2.elim (λz=>.inr (.inl z)) λz=>.inr (.inr z))
     refine⟨u,r,?_⟩
     rcases l with⟨l,_⟩|⟨_,c,lc,z⟩
     .have l':X.env.scope.names.lookup x=Gc .local:=l
      rcases q2 with z|z<;>(rw[z]at l';cases l')
     .refine .inr ⟨Kx q3,?_⟩
      obtain⟨c',hc'⟩:=GS (cells:=X.env.cells) (cs:=[]) (.inl (vS q3))
      have ec:=sub hc'
      rw[lc]at ec
      cases ec
      have no:(cellsFrom (s.heap.objs.size+1) scope.names []).lookup x=none:=by
       cases e:(cellsFrom (s.heap.objs.size+1) scope.names []).lookup x with
       |none=>rfl
       |some a=>
        have q:=S.cells _ (Gw (vS e)) rfl
        rw[q3]at q;cases q
      refine⟨c,(by show(cellsFrom (s.heap.objs.size+1) scope.names (FG X.env.cells scope.names [])).lookup x=Gc c;rw[Bl,yv,no];exact hc'),?_⟩
      obtain⟨oc,ho,hd⟩:=z
      exact⟨oc,hk _ _ ho,hd⟩
 .rcases look h with a|a
  .exact⟨_,(hC.empty _ _ a).1⟩
  .obtain⟨v,oc,ho,hd⟩:=I.cell x c a
   exact⟨v,oc,hk _ _ ho,hd⟩
 .rcases look h with a|a
  .exact I.hok.fresh (yU (hC.empty _ _ a).2)
  .exact I.H0 x c a
 .show(sig ix σ).length=N'.length
  unfold sig
  rw[vO]
  exact Vl S.ok
end
end L2
end
noncomputable section
namespace L2
open PySem PySem.Spec PyProof.Rows
def PTs(X:Cx)(ifs:Wp vj)(t:TT):Prop:=
 ∀(pins:Wp (ug×Obj)) (s:uj) (σ:St) (H:Hp) (Q:va->Hp->Prop),Inv X pins σ H s->t σ H Q->
  wpAny (model X.prog X.w) X.A (forIn ifs true λc r=>if r=true then do let ok<-isTrue c X.env (eval c X.env);pure (zm ok)else pure (zm r)) (TP X pins σ Q) X.xe s
noncomputable def mw:TT:=λ_ H Q=>Q true H
def c9:PTs X [] mw:=λ_ _ _ H _ I h=>wpAny_tests_nil ⟨H,I,h⟩
def dz(h:PT X c t):PTs X [c] t:=λpins s σ H Q I q=>wpAny_tests_one (h pins s σ H Q I q)
def Xw{t:Sem α}{Q:α->uj->Prop}(h:wpAny M A t Q (λ_ _=>wI) s):wpAny M A t Q E s:=vp h (λ_ _ q=>q) λ_ _ f=>f.elim
def gI(ix:Wp (uS Nat))(g:TG)(tc:TT)(te:TE)(J:It)(σ:St)(H:Hp)(Q:VK):Prop:=
 ∀D,H D=none->∃W:Nat->Nat->St->Hp->Wp V->Prop,(∃m,W 0 m (sig ix σ) (upd H D (.lst [])) [])/\∀i m σ H ys,W i m σ H ys->H D=Gc (.lst ys)/\
  ((J.stop i H/\Q (.ref D) H)\/(J.go i H/\ys.length<sizeLine/\∀x H',J.yld i H x H'->g x σ H' λσ2 H2=>tc σ2 H2 λb H3=>
    if b=true then te σ2 H3 λy H4=>H4 D=Gc (.lst ys)/\∃m',m'<m/\W (i+1) m' σ2 (upd H4 D (.lst (ys++[y]))) (ys++[y])else∃m',m'<m/\W (i+1) m' σ2 H3 ys))
noncomputable def c8(ix:Wp (uS Nat))(wi:TI)(g:TG)(tc:TT)(te:TE):TE:=λσ H Q=>wi σ H λJ H1=>gI ix g tc te J σ H1 Q
section
variable{X:Cx}{pins:Wp (ug×Obj)}{σ:St}{s₂:uj}{scope:wY}{pos:Pos}{g:TG}{tc:TT}
def Block(X:Cx)(N':Wp Str)(scope:wY)(tg:vj)(ifs:Wp vj)(elt:vj)(g:TG)(tc:TT)(te:TE):Prop:=
 ∀(s:uj) (H:Hp) (fp:Wp ug),PG (He X N' scope s H fp) tg g/\PTs (He X N' scope s H fp) ifs tc/\PE (He X N' scope s H fp) elt te
def U1 {X':Cx}{it:ug}{fp:Wp ug}{tn:Nat->vt->Prop}{J:It}{D:ug}{Q:VK}{W:Nat->Nat->St->Hp->Wp V->Prop}(he:X'.env=e)(hx:X'.xe=λ_ _=>wI)(hcm:X'.calm=true)(T:Turn X'.prog X'.w X'.K tg J fp it tn)(hfp:∀H,(∀b ∈ fp,H b=none)->∀b ∈ fp,Qd X' [] H b)(hg:PG X' tg g)(ht:PTs X' ifs tc)(hb:PE X' elt te)(turn:∀i m σ H ys,W i m σ H ys->H D=Gc (.lst ys)/\((J.stop i H/\Q (.ref D) H) ∨ (J.go i H/\ys.length<sizeLine/\∀x H',J.yld i H x H'->g x σ H' λσ2 H2=>tc σ2 H2 λb H3 =>
        if b = true then te σ2 H3 fun y H4 => H4 D = Gc (.lst ys) /\ ∃ m', m' < m /\ W (i + 1) m' σ2 (upd H4 D (.lst (ys ++ [y]))) (ys ++ [y]) else ∃ m', m' < m /\ W (i + 1) m' σ2 H3 ys)))
    (hR:∀s' σ' H',Inv X' [] σ' H' s'->Q (.ref D) H'->R (.ok .next) s')
    (h0:∃i σ' H' ys,Inv X' [] σ' H' s/\tn i s.heap/\(∀b ∈ fp,H' b=none)/\W i n σ' H' ys) :
    codeAny (model X'.prog X'.w) X'.A (.compLoop (.ListComp elt [⟨tg,iter,ifs,0⟩] scope pos) 0 (.ref it) (.ref D) e) R s:=by
  subst he
  refine codeAny_loop rfl (fun n s => ∃ i σ' H' ys, Inv X' [] σ' H' s /\ tn i s.heap /\ (∀ b ∈ fp, H' b = none) /\ W i n σ' H' ys) (fun n s3 hI => ?_) n h0
  show wpAny _ X'.A ((compTurn (.ListComp elt [⟨tg, iter, ifs, 0⟩] scope pos) 0 (.ref it) (.ref D) X'.env).onRaise (fun x => do noteFrame x X'.env; theTreesLotGoes x)) _ _ s3
  refine wpAny_noted (Xw ?_)
  rw [compTurn_list]
  obtain⟨i,σ3,H3,ys,I3,st3,fr3,w3⟩:=hI
  obtain⟨hD,alt⟩:=turn i n σ3 H3 ys w3
  rcases alt with ⟨stop, q⟩ | ⟨go, hlen, step⟩
  · refine uQ (xI (uQ (thn (T.done X' rfl rfl rfl hcm i [] s3 σ3 H3 _ I3 (hfp H3 fr3) st3 stop) fun r s4 ⟨hr, I4⟩ => ?_)))
    subst hr
    exact uh (hR s4 σ3 H3 I4 q)
  · refine uQ (xI (uQ (thn (T.item X' rfl rfl rfl hcm i [] s3 σ3 H3 _ I3 (hfp H3 fr3) st3 go) fun r s4 ⟨u, hr, h4⟩ => ?_)))
    subst hr
    refine uQ (thn h4 fun _ s5 ⟨x, H5, I5, r5, y5, st5, fr5⟩ => ?_)
    have I5':=I5.pinned (hfp H5 fr5) (T.obj _ _ st5)
    have hg':=hg _ s5 σ3 H5 x u _ I5' r5 (step x H5 y5)
    rw [hx] at hg'
    refine uQ (thn hg' fun _ s6 ⟨σ6, H6, I6, q6⟩ => ?_)
    have ht':=ht _ s6 σ6 H6 _ I6 q6
    rw [hx] at ht'
    refine uQ (thn ht' fun ok s7 ⟨H7, I7, q7⟩ => ?_)
    have again:∀{s8:uj} {H8:Hp} {zs:Wp V} {m':Nat},Inv X' ([]++Py fp s5.heap) σ6 H8 s8->m'<n->W (i + 1) m' σ6 H8 zs->∃m,m<n/\∃i σ' H' ys,Inv X' [] σ' H' s8/\tn i s8.heap/\(∀b ∈ fp,H' b=none)/\W i m σ' H' ys:=λ{s8 H8 zs m'} I8 hm w8=>by
      refine ⟨m', hm, i + 1, σ6, H8, zs, I8.LK, T.keep _ _ _ st5 fun b hb o e => (I8.pin (b, o) (vX _ (vX _ (IM hb e)))).1, fun b hb => ?_, w8⟩
      obtain⟨o,e,d⟩:=T.obj _ _ st5 b hb
      exact (I8.pin (b, o) (vX _ (vX _ (IM hb e)))).2.1
    cases ok with
    | false =>
      rw [vC (by decide)] at q7
      obtain⟨m',hm,w7⟩:=q7
      exact uh ⟨rfl, again I7 hm w7⟩
    | true =>
      rw [vD rfl] at q7
      have hb':=hb _ s7 σ6 H7 _ I7 q7
      rw [hx] at hb'
      refine uQ (uQ (thn hb' fun v s8 ⟨y, H8, I8, r8, hD8, m', hm, w8⟩ => ?_))
      have ha:=QG (X:=X') _ s8 σ6 H8 (.ref D) [y] (.ref D) [v] (λ_ H9=>H9=upd H8 D (.lst (ys++[y]))) I8 rfl (.cons r8 .nil) ⟨D,ys,y,rfl,rfl,hD8,hlen,rfl⟩
      rw [hx] at ha
      refine uQ (thn ha fun _ s9 ⟨_, H9, I9, _, e9⟩ => ?_)
      subst e9
      exact uh (uh ⟨rfl, again I9 hm w8⟩)
def Rm(hc:X.calm=true)(S:AO X.N X.env.scope N' ix scope)(hb:Block X N' scope tg ifs elt g tc te){RR:uY->ug->Result->uj->Prop}(I2:Inv X pins σ H₂ s₂)(T:Turn X.prog X.w X.K tg J fp it tn)(st2:tn 0 s₂.heap)(f2:∀b∈fp,Qd X pins H₂ b)(hW:gI ix g tc te J σ H₂ Q)(hRR:∀D C H' s',Inv X pins σ H' s'->(∃m,s'.heap.Ns C m)->Qd X pins H' C->Q (.ref D) H'->RR (.ref D) C (.ok .next) s'):wpAny (model X.prog X.w) X.A (newList []) (λacc s₃=>wpAny (model X.prog X.w) X.A (newFunctionEnv scope X.env.globals (FG X.env.cells scope.names []) [] X.env.qual none .none (Gc X.env)) (λcenv s₄=>
  codeAny (model X.prog X.w) X.A (.compStart (.ListComp elt [⟨tg,iter,ifs,0⟩] scope pos) 0 (.ref it) acc {cenv with scope:=relabel scope X.env}) (RR acc cenv.locals) s₄) E s₃) E s₂:=by
 have hD0:H₂ s₂.heap.objs.size=none:=I2.hok.fresh (ue _)
 have hlt2:∀b∈fp,b<s₂.heap.objs.size:=λb hb=>by
  obtain⟨o,e,_⟩:=T.obj _ _ st2 b hb
  exact uk e
 refine xB (Kh (λh₁ hns₁ hsb₁ hcl₁=>?_))
 have I3:Inv X pins σ (upd H₂ s₂.heap.objs.size (.lst [])) {s₂ with heap:=s₂.heap.push {cls:=.type "list",dict:=none,data:=.seq ([]:Wp uY).toArray}}:=
  I2.laid (t':=s₂.toks) (λb u e=>uR _ e) (ue _) ⟨wM _,[],0,.nil,uy _ rfl⟩
 have f3:∀b∈fp,Qd X pins (upd H₂ s₂.heap.objs.size (.lst [])) b:=λb hb=>⟨by rw[AM (vF (hlt2 b hb))];exact(f2 b hb).1,(f2 b hb).2⟩
 have k3:∀b o,s₂.heap.get? b=Gc o->(s₂.heap.push {cls:=.type "list",dict:=none,data:=.seq ([]:Wp uY).toArray}).get? b=Gc o:=λb o e=>uR _ e
 dsimp only at hns₁ hsb₁ hcl₁⊢
 generalize hs3:({s₂ with heap:=s₂.heap.push {cls:=.type "list",dict:=none,data:=.seq ([]:Wp uY).toArray}}:uj)=s₃ at I3
 have eh:s₂.heap.push {cls:=.type "list",dict:=none,data:=.seq ([]:Wp uY).toArray}=s₃.heap:=by rw[<-hs3]
 have et:s₂.toks=s₃.toks:=by rw[<-hs3]
 have es:∀(h:vt) (t:Nat),({s₂ with heap:=h,toks:=t}:uj)={s₃ with heap:=h,toks:=t}:=λh t=>by rw[<-hs3]
 rw[eh]at hns₁ hsb₁ hcl₁ k3⊢
 have hlt3:∀b∈fp,b<s₃.heap.objs.size:=λb hb=>by
  obtain⟨o,e,_⟩:=T.obj _ _ st2 b hb
  exact uk (k3 b o e)
 have k4:∀b o,s₃.heap.get? b=Gc o->h₁.get? b=Gc o:=hsb₁
 obtain⟨W,⟨m0,w0⟩,turn⟩:=hW _ hD0
 have I4:∀tk,Inv (He X N' scope s₃ (upd H₂ s₂.heap.objs.size (.lst [])) fp) [] (sig ix σ) (upd H₂ s₂.heap.objs.size (.lst [])) {s₃ with heap:=h₁,toks:=tk}:=λtk=>YS S hc I3 f3 hlt3 hns₁ k4 hcl₁
 have st4:tn 0 h₁:=T.keep _ _ _ st2 λb hb o e=>k4 b o (k3 b o e)
 obtain⟨bg,bt,be⟩:=hb s₃ (upd H₂ s₂.heap.objs.size (.lst [])) fp
 have noX:∀(H:Hp),(∀b∈fp,H b=none)->∀b∈fp,Qd (He X N' scope s₃ (upd H₂ s₂.heap.objs.size (.lst [])) fp) [] H b:=λH hn b hb=>by
  obtain⟨_,h2,h3⟩:=f3 b hb
  refine⟨hn b hb,vF (hlt3 b hb),λhs=>(I4 0).ok.az b hb hs,.inl hb,λx c h=>?_,λp hp=>absurd (show p∈([]:Wp (ug×Obj))from hp) (by simp)⟩
  exact((I4 0).ok.exf b hb).2 x c h
 have fin:∀(s':uj) (σ':St) (H':Hp),Inv (He X N' scope s₃ (upd H₂ s₂.heap.objs.size (.lst [])) fp) [] σ' H' s'->Q (.ref s₂.heap.objs.size) H'->RR (.ref s₂.heap.objs.size) s₃.heap.objs.size (.ok .next) s':=λs' σ' H' I' q=>by
  refine hRR _ _ H' s' ?_ (let⟨m,hn,_⟩:=I'.loc;⟨m,hn⟩) (I3.dN (ue _) I'.free) q
  exact I3.Yo I'.os I'.base I'.hok I'.bare λb hb=>⟨(f3 b hb).2.2.2.1,(f3 b hb).2.1,(f3 b hb).2.2.2.2.1,(f3 b hb).2.2.2.2.2⟩
 have loop:∀tk,codeAny (model X.prog X.w) X.A (.compLoop (.ListComp elt [⟨tg,iter,ifs,0⟩] scope pos) 0 (.ref it) (.ref s₂.heap.objs.size) (compEnvC scope (cellsFrom (s₃.heap.objs.size+1) scope.names (FG X.env.cells scope.names [])) s₃.heap.objs.size X.env)) (RR (.ref s₂.heap.objs.size) s₃.heap.objs.size) {s₃ with heap:=h₁,toks:=tk}:=λtk=>
  U1 (X':=He X N' scope s₃ (upd H₂ s₂.heap.objs.size (.lst [])) fp) (D:=s₂.heap.objs.size) (Q:=Q) (W:=W) rfl rfl rfl T noX bg bt be turn fin ⟨0,_,_,_,I4 tk,st4,λb hb=>(f3 b hb).1,w0⟩
 rw[es]
 exact codeAny_compStart_list (loop _) (T.self _ 0 _ _ _ st4 (loop _))
def dP(hc:X.calm=true)(S:AO X.N X.env.scope N' ix scope)(hi:PI X tg iter wi)(hb:Block X N' scope tg ifs elt g tc te)(hs:zn (∀x,foldedSetIterable iter X.env x=pure x) xL):PE X (.ListComp elt [⟨tg,iter,ifs,0⟩] scope pos) (c8 ix wi g tc te):=by
 intro pins s σ H Q I h
 rw[eval_ListComp]
 refine AAj (use:=none) rfl hs (N9 (I.cellsOf S)) S.kind S.names (thn (hi pins s σ H _ I h) λv s1 h1=>thn h1 λitv s2 h2=>?_)
 obtain⟨it,fp,tn,J,H2,e,I2,T,st2,f2,hW⟩:=h2
 subst e
 refine Rm (RR:=λacc C=>compPost (model X.prog X.w) X.A X.xe none (EP X pins σ Q) acc C) hc S hb I2 T st2 f2 hW ?_
 intro D C H' s' I' hm hC q
 obtain⟨m,hm⟩:=hm
 refine⟨m,hm,λh' hs'=>⟨.ref D,H',I'.turned (it:=C) (t':=s'.toks) (λb o hb e=>hs'.extBut b o hb e) hC.1 hC.2.1 hC.2.2.2.1 hC.2.2.2.2.1 hC.2.2.2.2.2,rfl,q⟩⟩
end
end L2
end
noncomputable section
namespace L2
open PySem PySem.Spec PyProof.Rows
section
variable{X:Cx}{pos spos py:Pos}
def TC(hc:X.calm=true)(hN:X.N.Nodup)(hi':X.N[i]?=Gc y)(hx:X.env.scope.names.lookup y=Gc .local)(S:AO X.N X.env.scope N' ix scope)(hi:PI X tg iter wi)(hb:Block X N' scope tg ifs elt g tc te)(hsw:zn (swapsWith (.ListComp elt [⟨tg,iter,ifs,0⟩] scope pos) (Gc (.Name y py)) spos.line X.env=pure true) ww)(hs:zn (∀x,foldedSetIterable iter X.env x=pure x) xL):PS X (.Assign [.Name y py] (.ListComp elt [⟨tg,iter,ifs,0⟩] scope pos) spos) (oF (c8 ix wi g tc te) (bu i)):=by
 intro pins s σ H D I h
 rw[exec_Assign_Name_used _ _ _ _ hsw]
 refine uQ (xI (uQ ?_))
 show wpAny _ X.A (do let _<-comprehension (.ListComp elt [⟨tg,iter,ifs,0⟩] scope pos) scope X.env _ (newList []) false (eval iter X.env) (Gc (assign (.Name y py) X.env))) _ _ s
 refine uQ (vp (AAj (use:=Gc (assign (.Name y py) X.env)) (Q:=λ_ s'=>SP X pins D .next s') rfl hs (N9 (I.cellsOf S)) S.kind S.names
  (thn (hi pins s σ H _ I h) λv s1 h1=>thn h1 λitv s2 h2=>?_)) (λ_ s' hq=>uh (uh hq)) λ_ _ e=>e)
 obtain⟨it,fp,tn,J,H2,e,I2,T,st2,f2,hW⟩:=h2
 subst e
 refine Rm (RR:=λacc C=>compPost (model X.prog X.w) X.A X.xe (Gc (assign (.Name y py) X.env)) (λ_ s'=>SP X pins D .next s') acc C) hc S hb I2 T st2 f2 hW ?_
 intro L C H' s' I' hm hC q
 obtain⟨m,hm⟩:=hm
 show wpAny _ X.A (assign (.Name y py) X.env (.ref L)) _ _ _
 refine wpAny_assign_Name (MM I' hN hi' (.inl hx) (v:=.ref L) rfl (λs'' I'' ⟨a,sb,ha⟩=>?_) (.inr hx))
 have hCa:C≠a:=by
  rcases ha with rfl|ha
  .exact hC.2.1
  .exact vi (hC.2.2.2.2.1 y a ha)
 refine⟨m,hm.sameBut sb hCa,λh' hs'=>?_⟩
 exact⟨_,H',I''.turned (it:=C) (t':=s''.toks) (λb o hb e=>hs'.extBut b o hb e) hC.1 hC.2.1 hC.2.2.2.1 hC.2.2.2.2.1 hC.2.2.2.2.2,q⟩
end
end L2
end
noncomputable section
namespace L2
open PySem PySem.Spec PyProof.Rows
section
variable{κ:Type} [DecidableEq κ]
noncomputable def Tt(kvs:Wp (κ×V))(k:κ):uS V:=(kvs.find? λkv=>decide (kv.1=k)).map (·.2)
noncomputable def putK(kvs:Wp (κ×V))(k:κ)(v:V):Wp (κ×V):=
 if(kvs.any λkv=>decide (kv.1=k))=true then kvs.map (λkv=>if kv.1=k then(kv.1,v)else kv)else kvs++[(k,v)]
def OT{p:κ×V}(e:p.1=k):Tt (p::r) k=Gc p.2:=by simp[Tt,xf,e]
def N4{p:κ×V}(e:¬p.1=k):Tt (p::r) k=Tt r k:=by simp[Tt,xf,e]
def QY kvs(k:κ) v:(putK kvs k v).length<=kvs.length+1:=by
 unfold putK
 split
 .rw[vO];lia
 .rw[vq,vH,xg];lia
def OY.Uu(r:OY o u):o.isSome=u.isSome:=by
 cases o with
 |none=>cases u with
  |none=>rfl
  |some _=>exact(show wI from r).elim
 |some _=>cases u with
  |none=>exact(show wI from r).elim
  |some _=>rfl
def OY.getD(r:OY o u)(rd:RelV d d'):RelV (o.getD d) (u.getD d'):=by
 cases o with
 |none=>cases u with
  |none=>exact rd
  |some _=>exact(show wI from r).elim
 |some _=>cases u with
  |none=>exact(show wI from r).elim
  |some _=>exact r
def KV.val(r:KV kvs vs)(k:κ):OY (Tt kvs k) (valueAt vs k):=by
 unfold KV at r
 induction r with
 |nil=>exact xN
 | @cons p q ps qs h t ih=>
   obtain⟨h1,h2⟩:=h
   by_cases e:p.1=k
   .have e':q.1=k:=h1.symm.trans e
    have b:valueAt (q::qs) k=Gc q.2:=by simp[valueAt,xf,e']
    rw[OT e,b];exact h2
   .have e':¬q.1=k:=λz=>e (h1.trans z)
    have b:valueAt (q::qs) k=valueAt qs k:=by simp[valueAt,xf,e']
    rw[N4 e,b];exact ih
def KV.any(r:KV kvs vs)(k:κ):(kvs.any λkv=>decide (kv.1=k))=vs.any λkv=>decide (kv.1=k):=by
 unfold KV at r
 induction r with
 |nil=>rfl
 |cons h t ih=>rw[xK,xK,ih,h.1]
def KV.fL(r:KV kvs vs)(k:κ)(ry:RelV y u):KV (kvs.map λkv=>if kv.1=k then(kv.1,y)else kv) (vs.map λkv=>if kv.1=k then(kv.1,u)else kv):=by
 unfold KV at r⊢
 induction r with
 |nil=>exact .nil
 | @cons p q ps qs h t ih=>
   rw[ux,ux]
   refine .cons ?_ ih
   obtain⟨h1,h2⟩:=h
   by_cases e:p.1=k
   .rw[vD e,vD (h1.symm.trans e)];exact⟨h1,ry⟩
   .rw[vC e,vC (λz=>e (h1.trans z))];exact⟨h1,h2⟩
def KV.put(r:KV kvs vs)(k:κ)(ry:RelV y u):KV (putK kvs k y) (stored vs k u):=by
 unfold putK stored
 rw[r.any k]
 by_cases e:(vs.any λkv=>decide (kv.1=k))=true
 .rw[vD e,vD e];exact r.fL k ry
 .rw[vC e,vC e];exact Paired.snoc r ⟨rfl,ry⟩
end
def dC(r:RelV (kV k) u):(Ce P w).is k u=true:=by
 cases k with
 |inl i=>obtain⟨t,e⟩:=(show∃t,u=AAB i t from r);subst e;exact Q5 P w i t
 |inr x=>obtain⟨t,e⟩:=(show∃t,u=AAC x t from r);subst e;exact Qq P w x t
theorem PC:∀{ks} {us},Vals (ks.map kV) us->ItemsAre (Ce P w) ks us
 | [],_,r=>by rw[wG]at r;cases r;exact .nil
 |k::ks,_,r=>by
  rw[ux]at r
  cases r with
  |cons h t=>exact .cons (dC h) (PC t)
abbrev KT(H:Hp):Wp (Wp Key×V)->Wp (Wp Key×ug×uY)->Prop:=Paired λp q=>p.1=q.1/\H q.2.1=Gc (.tup (p.1.map kV))/\RelV p.2 q.2.2
def KT.val(r:KT H kvs xs) k:OY (Tt kvs k) ((atKey xs k).map (·.2)):=by
 induction r with
 |nil=>exact xN
 | @cons p q ps qs h t ih=>
   obtain⟨h1,_,h2⟩:=h
   by_cases e:p.1=k
   .have e':q.1=k:=h1.symm.trans e
    have b:atKey (q::qs) k=Gc q.2:=by simp[atKey,xf,e']
    rw[OT e,b];exact h2
   .have e':¬q.1=k:=λz=>e (h1.trans z)
    have b:atKey (q::qs) k=atKey qs k:=by simp[atKey,xf,e']
    rw[N4 e,b];exact ih
section
variable{P:vb}{w:wH}{H:Hp}{h:vt}{a:ug}
def iH(ok:HOk P w H h)(e:Rd H a u):CU P w H h a u:=e.ok ok
def ao(ok:HOk P w H h)(e:Rd H a (.dK kvs)):kvs.length<=sizeLine/\(a==sysModules)=false/\∃vs,KV kvs vs/\h.DictOf (Ce P w) a vs:=
 show CU P w H h a (.dK kvs)from iH ok e
def mY(ok:HOk P w H h)(e:H a=Gc (.dK kvs)):kvs.length<=sizeLine/\(a==sysModules)=false/\∃vs,KV kvs vs/\h.DictOf (Ce P w) a vs:=ao ok (.inl e)
def ZJ(ok:HOk P w H h)(e:H a=Gc (.tup (ks.map kV))):(tupleKind (Ce P w)).is h ks a:=by
 obtain⟨_,its,r,o,h1,h2,n,h3⟩:=(show CU P w H h a (.tup (ks.map kV))from ok a _ e)
 exact⟨o,its.toArray,n,h1,h2,h3,by simpa using PC r⟩
def dS(ok:HOk P w H h)(e:Rd H a (.dT kvs)):kvs.length<=sizeLine/\(a==sysModules)=false/\∃xs,KT H kvs xs/\h.DictOfH (tupleKind (Ce P w)) a xs:=by
 obtain⟨z,y,xs,r,o,es,ep,h1,h2,h3,h4,h5⟩:=(show CU P w H h a (.dT kvs)from iH ok e)
 refine⟨z,y,xs,r,o,es,ep,h1,h2,h3,h4,λx hx=>?_,h5⟩
 have all:∀{l:Wp (Wp Key×V)} {m:Wp (Wp Key×ug×uY)},KT H l m->∀x∈m,(tupleKind (Ce P w)).is h x.1 x.2.1:=by
  intro l m q
  induction q with
  |nil=>intro x hx;exact nomatch hx
  | @cons p q ps qs hq t ih=>
    intro x hx
    rcases uZ.mp hx with e|hx
    .subst e
     exact ZJ ok (by rw[<-hq.1];exact hq.2.1)
    .exact ih x hx
 exact all r x hx
def X1(ok:HOk P w H h)(e:H a=Gc (.dT kvs)):kvs.length<=sizeLine/\(a==sysModules)=false/\∃xs,KT H kvs xs/\h.DictOfH (tupleKind (Ce P w)) a xs:=dS ok (.inl e)
end
def lW(H:Hp)(a:ug)(y:V)(r:uS V):Prop:=
 (∃kvs k,Rd H a (.dK kvs)/\y=kV k/\r=Tt kvs k)\/∃kvs k b,Rd H a (.dT kvs)/\y=.ref b/\H b=Gc (.tup (k.map kV))/\r=Tt kvs k
def lW.k{k:Key}(e:H a=Gc (.dK kvs)):lW H a (kV k) (Tt kvs k):=.inl ⟨kvs,k,.inl e,rfl,rfl⟩
section
variable{X:Cx}{pins:Wp (ug×Obj)}{σ:St}{H:Hp}{s:uj}{a:ug}{y v:V}{u r:uY}{o:uS V}{A:w9}{E:uY->uj->Prop}
def Inv.big(I:Inv X pins σ H s):sysModules<s.heap.objs.size:=by
 have h:mainGlobals<s.heap.objs.size:=(I.mod.glob.keeps I.bk).lt
 exact Nat.lt_trans (by decide) h
def d6(I:Inv X pins σ H s)(mu:Mut (H a))(hs:yF a s.heap h')(he:∃q,h'.get? a=Gc q)(new:CU X.prog X.w (upd H a ob) h' a ob):Inv X pins σ (upd H a ob) {s with heap:=h',toks:=t'}:=
 I.write (x:=a) (e:=a) mu (.inl rfl) (λb q hb z=>(hs.2 b hb).trans z) he new
def jx(z:kvs.length<=sizeLine)(hd:(a==sysModules)=false)(rel:KV kvs vs)(dd:h'.DictOf (Ce P w) a vs):CU P w H' h' a (.dK kvs):=⟨z,hd,vs,rel,dd⟩
end
section
variable{X:Cx}{pins:Wp (ug×Obj)}{σ:St}{H:Hp}{s:uj}{a:ug}{kvs:Wp (Key×V)}{k:Key}{u:uY}{A:w9}{E:uY->uj->Prop}
end
section
variable{X:Cx}{o i e value:vj}{pos pos' tpos:Pos}{td ty tv:TE}
end
def XG(h:vt)(hb:sysModules<h.objs.size):CU P w H (h.push {cls:=.type "dict",data:=.dict #[]}) h.objs.size (.dK []):=
 ⟨wM _,vc.mpr (vi (vF hb)),[],.nil,Heap.DictOf.new h⟩
section
variable{X:Cx}{pos:Pos}
end
def RN:Wp (TE×TE)->St->Hp->(Wp (V×V)->Hp->Prop)->Prop
 | [],_,H,Q=>Q [] H
 |(tk,tv)::r,σ,H,Q=>tk σ H λx H1=>tv σ H1 λy H2=>RN r σ H2 λps H3=>Q ((x,y)::ps) H3
abbrev VV:Wp (V×V)->Wp (uY×uY)->Prop:=Paired λp q=>RelV p.1 q.1/\RelV p.2 q.2
def PPs(X:Cx)(pos:Pos)(keys:Wp (uS vj))(values:Wp vj)(trs:Wp (TE×TE)):Prop:=
 ∀(pins:Wp (ug×Obj)) (s:uj) (σ:St) (H:Hp) (Q:Wp (V×V)->Hp->Prop),Inv X pins σ H s->RN trs σ H Q->
  wpAny (model X.prog X.w) X.A (evalPairs (pairTrees keys values X.env pos)) (λvs s'=>∃ps H',Inv X pins σ H' s'/\VV ps vs/\Q ps H') X.xe s
def ax:PPs X pos [] [] []:=λpins s σ H Q I h=>pairTrees_nil_walk ⟨[],H,I,.nil,h⟩
def X6(hk:PE X k tk)(hv:PE X v tv)(hr:PPs X pos ks vs trs):PPs X pos (Gc k::ks) (v::vs) ((tk,tv)::trs):=λpins s σ H Q I h=>
 pairTrees_cons_walk (thn (hk pins s σ H _ I h) λu s1 ⟨x,H1,I1,rx,q1⟩=>thn (hv pins s1 σ H1 _ I1 q1) λw2 s2 ⟨y,H2,I2,ry,q2⟩=>
  thn (hr pins s2 σ H2 _ I2 q2) λws s3 ⟨ps,H3,I3,rel,q3⟩=>⟨(x,y)::ps,H3,I3,.cons ⟨rx,ry⟩ rel,q3⟩)
noncomputable def LX(kvs more:Wp (Key×V)):Wp (Key×V):=more.foldl (λacc kv=>putK acc kv.1 kv.2) kvs
def KV.merge:∀{more} {rs} {kvs} {vs},KV more rs->KV kvs vs->KV (LX kvs more) (merged vs rs):=by
 intro more rs kvs vs r
 unfold KV at r
 induction r generalizing kvs vs with
 |nil=>intro q;exact q
 | @cons p q ps qs h t ih=>
   intro r0
   have e:KV (putK kvs p.1 p.2) (stored vs q.1 q.2):=by
    have:=r0.put p.1 h.2
    rw[<-h.1];exact this
   exact ih e
theorem Jw:∀more kvs,(LX kvs more).length<=kvs.length+more.length
 | [],kvs=>by show kvs.length<=kvs.length+0;lia
 |p::r,kvs=>by
  have h1:=Jw r (putK kvs p.1 p.2)
  have h2:=QY kvs p.1 p.2
  show(LX (putK kvs p.1 p.2) r).length<=_
  rw[vH];lia
theorem Nx:∀{kvs} {ws},VV (kvs.map λkv=>(kV kv.1,kv.2)) ws->∃rs,Carries (Ce P w) ws rs/\KV kvs rs
 | [],_,r=>by rw[wG]at r;cases r;exact⟨[],xN,.nil⟩
 |p::kvs,_,r=>by
  rw[ux]at r
  cases r with
  | @cons a b as bs h t=>
    obtain⟨rs,c,q⟩:=Nx (P:=P) (w:=w) t
    obtain⟨b1,b2⟩:=b
    exact⟨(p.1,b2)::rs,⟨dC h.1,rfl,c⟩,.cons ⟨rfl,h.2⟩ q⟩
noncomputable def pW(trs:Wp (TE×TE)):TE:=λσ H Q=>∀p,H p=none->RN trs σ (upd H p (.dK [])) λps H2=>H2 p=Gc (.dK [])/\∃kvs:Wp (Key×V),ps=kvs.map (λkv=>(kV kv.1,kv.2))/\kvs.length<=15/\Q (.ref p) (upd H2 p (.dK (LX [] kvs)))
def cD(h:PPs X pos keys values trs)(hall:keys.all (·.isSome)=true)(hl:keys.length=values.length)(h0:keys≠[])(h15:keys.length<=15):PE X (.Dict keys values pos) (pW trs):=by
 intro pins s σ H Q I q
 have hn:=I.hok.fresh (ue s.heap.objs.size)
 have I1:=I.laid (a:=s.heap.objs.size) (o:=.dK []) (h':=s.heap.push {cls:=.type "dict",data:=.dict #[]}) (t':=s.toks) (λ_ _ q=>uR _ q) (ue _) (XG s.heap I.big)
 refine wpAny_Dict_walk (knd:=Ce X.prog X.w) hall hl h0 h15 (thn (h pins _ σ _ _ I1 (q _ hn)) λws s2 z=>?_)
 obtain⟨ps,H2,I2,rel,e,kvs,ep,lk,q2⟩:=z
 subst ep
 obtain⟨rs,c,rk⟩:=Nx (P:=X.prog) (w:=X.w) rel
 obtain⟨z,hd,vs0,r0,dd⟩:=mY I2.hok e
 cases r0
 refine⟨rs,c,dd,λh' dd' hs=>⟨.ref s.heap.objs.size,_,?_,rfl,q2⟩⟩
 have hz:(LX [] kvs).length<=sizeLine:=by
  have h1:=Jw kvs []
  rw[xg]at h1
  rw[xJ];lia
 have he:∃q,h'.get? s.heap.objs.size=Gc q:=let⟨q,_,_,hq,_⟩:=dd';⟨q,hq⟩
 exact d6 I2 (by rw[e];exact xN) hs he (jx hz hd (rk.merge .nil) dd')
structure M1(X:Cx)(o:vj)(m:Str)(apos:Pos)(e:vj)(cpos:Pos):Prop where
 base:attributeBase o m X.env (eval o X.env)=eval o X.env
 few:((backTo cpos (uf [e] X.env)).all (λx=> !x.1) && (backToKw cpos (keywordEach [] X.env)).all (λx=>x.1.isSome)
  && decide (([e]:Wp vj).length+([]:Wp AAc).length+(if([]:Wp AAc).isEmpty then 0 else 1)<30))=true
 line:(apos.endLine==cpos.line)=true
 trees:backTo cpos (uf [e] X.env)=[(false,eval e X.env)]
structure M2(X:Cx)(o:vj)(m:Str)(apos:Pos)(e f:vj)(cpos:Pos):Prop where
 base:attributeBase o m X.env (eval o X.env)=eval o X.env
 few:((backTo cpos (uf [e,f] X.env)).all (λx=> !x.1) && (backToKw cpos (keywordEach [] X.env)).all (λx=>x.1.isSome)
  && decide (([e,f]:Wp vj).length+([]:Wp AAc).length+(if([]:Wp AAc).isEmpty then 0 else 1)<30))=true
 line:(apos.endLine==cpos.line)=true
 trees:backTo cpos (uf [e,f] X.env)=[(false,eval e X.env),(false,eval f X.env)]
def IsD(H:Hp)(a:ug):Prop:=(∃kvs,Rd H a (.dK kvs))\/∃kvs,Rd H a (.dT kvs)
def jt{σ:St}(I:Inv X pins σ H s)(d:IsD H a):s.TypeIs (.ref a) "dict" /\(∀b,u6 a=.ref b->∃ob,s.heap.get? b=Gc ob/\ob.dict=none)/\(a==sysModules)=false:=by
 rcases d with⟨kvs,e⟩|⟨kvs,e⟩
 .obtain⟨_,hd,vs,_,dd⟩:=ao I.hok e
  refine⟨dd.typeIs,λb q=>?_,hd⟩
  cases q
  obtain⟨ob,_,_,h1,h2,_⟩:=dd
  exact⟨ob,h1,h2.2.1⟩
 .obtain⟨_,hd,xs,_,dd⟩:=dS I.hok e
  refine⟨dd.typeIs,λb q=>?_,hd⟩
  cases q
  obtain⟨ob,_,_,h1,h2,_⟩:=dd
  exact⟨ob,h1,h2.2.1⟩
section
variable{X:Cx}{pins:Wp (ug×Obj)}{σ:St}{H:Hp}{s:uj}{a:ug}{y d:V}{u r:uY}{o:uS V}{A:w9}{E:uY->uj->Prop}
def gy(hu:A.units+1<cLine)(I:Inv X pins σ H s)(g:lW H a y o)(ry:RelV y u)(rd:RelV d r)(h:∀w' s',Inv X pins σ H s'->RelV (o.getD d) w'->Q w' s'):wpAny (model X.prog X.w) A (call (.builtin "dict.get") [.ref a,u,r]) Q E s:=by
 rcases g with⟨kvs,k,e,ey,l⟩|⟨kvs,k,b,e,ey,eb,l⟩
 .subst ey
  obtain⟨z,hd,vs,rel,dd⟩:=ao I.hok e
  refine call_meetsIn zR dd.typeIs AA6 (AAw _ _ _) (meets_dict_get_default (Ce X.prog X.w) a (dC ry) hd r) ⟨_,dd.mapOf,h _ _ (I.tok _) ?_⟩
  rw[l]
  exact(rel.val k).getD rd
 .subst ey
  cases (show u=u6 b from ry)
  obtain⟨z,hd,xs,rel,dd⟩:=dS I.hok e
  refine call_meetsIn zR dd.typeIs AA6 (AAw _ _ _) (meetsH_dict_get_default (tupleKind (Ce X.prog X.w)) a b hd r) ⟨tupleKind_room_in1 hu,k,xs,ZJ I.hok eb,dd,h _ _ (I.tok _) ?_⟩
  rw[l]
  exact(rel.val k).getD rd
end
noncomputable def ie(td ty tx:TE):TE:=λσ H Q=>td σ H λx H1=>∃a,x=.ref a/\IsD H1 a/\ty σ H1 λy H2=>tx σ H2 λz H3=>∃o,lW H3 a y o/\Q (o.getD z) H3
section
variable{X:Cx}{o e f:vj}{apos cpos:Pos}{td ty tx:TE}
def YI(hu:X.A.units+1<cLine)(ho:PE X o td)(he:PE X e ty)(hf:PE X f tx)(m:M2 X o "get" apos e f cpos):PE X (.Call (.Attribute o "get" apos) [e,f] [] cpos) (ie td ty tx):=by
 intro pins s σ H Q I h
 refine wpAny_Call_method m.base m.few m.line PySem.F.plainAttrs_dict zR PySem.F.type_dict_get (thn (ho pins s σ H _ I h) λu s1 z=>?_)
 obtain⟨x,H1,I1,rx,a,ex,d,q1⟩:=z
 subst ex
 obtain rfl:u=u6 a:=rx
 obtain⟨t1,t2,_⟩:=jt I1 d
 refine⟨t1,t2,?_⟩
 rw[m.trees]
 refine zG rfl (xk (xF (thn (he pins s1 σ H1 _ I1 q1) λiv s2 ⟨y,H2,I2,ry,q2⟩=>
  xF (thn (hf pins s2 σ H2 _ I2 q2) λfv s3 ⟨z,H3,I3,rz,ov,g,q3⟩=>zy ?_))))
 exact gy hu I3 g ry rz λw' s4 I4 rw'=>⟨_,H3,I4,rw',q3⟩
end
section
variable{X:Cx}{pins:Wp (ug×Obj)}{σ:St}{H:Hp}{s:uj}{a:ug}{kvs:Wp (Key×V)}{A:w9}{E:uY->uj->Prop}
end
section
variable{X:Cx}{pins:Wp (ug×Obj)}{σ:St}{H:Hp}{s:uj}{a:ug}{y:V}{u:uY}{A:w9}{E:uY->uj->Prop}
end
end L2
end
noncomputable section
namespace L2
open PySem PySem.Spec PyProof.Rows
section
variable{s:uj}
def SV{h:vt}{i:Nat}(ho:h.get? it=Gc o)(hc:o.cls=.type "tuple_iterator")(hd:o.data=.fields #[.ref t,.int i 0])(e:h'=h.update it (λo=>o.mapFields λa=>a.setIfInBounds 1 (rawInt ((i:Int)+1)))):h'.IsTupleIter it t (i+1):=by
 subst e
 have d:=xQ hd λa=>a.setIfInBounds 1 (rawInt ((i:Int)+1))
 refine⟨_,wC _ ho (wj d),?_,?_⟩
 .rw[Obj.cls_mapFields];exact hc
 .rw[d];simp[rawInt]
def W5(hit:s.heap.IsTupleIter it t i)(ht:s.heap.IsTuple t items)(hx:items[i]?=Gc x)(hQ:∀h',h'.IsTupleIter it t (i+1)->yF it s.heap h'->Q x {s with heap:=h'}):wpAny (model prog w) A (vP (.ref it)) Q E s:=by
 obtain⟨⟨c,dd,dt,sl⟩,ho,hc,hd⟩:=id hit
 obtain⟨⟨c2,dd2,dt2,sl2⟩,ho2,hc2,n2,hd2⟩:=id ht
 simp only at hc hd hc2 hd2
 subst hc hd hc2 hd2
 unfold vP
 refine uQ (wX (name:=u9 "__next__") hit.typeIs xR (wm xR hit.typeIs z6 ?_ (zo _)))
 unfold zI.«tuple_iterator.__next__»
 wp_walk using vA ho,vA ho2
 have e:items[(i:Int).toNat]?=Gc x:=by rw[xj];exact hx
 rw[e]
 refine uQ (x8 ho rfl (by simp) ?_)
 exact uh ⟨x,rfl,uh (hQ _ (SV ho rfl rfl rfl) (ABm ..))⟩
def XX(hh:A.handled=none)(hit:s.heap.IsTupleIter it t i)(ht:s.heap.IsTuple t items)(hx:items[i]?=none)(hE:∀h' e,AAe it s.heap h'->(∃o,h'.get? e=Gc o/\o.cls=.type "StopIteration")->E (.ref e) {s with heap:=h'}):wpAny (model prog w) A (vP (.ref it)) Q E s:=by
 obtain⟨⟨c,dd,dt,sl⟩,ho,hc,hd⟩:=id hit
 obtain⟨⟨c2,dd2,dt2,sl2⟩,ho2,hc2,n2,hd2⟩:=id ht
 simp only at hc hd hc2 hd2
 subst hc hd hc2 hd2
 unfold vP
 refine uQ (wX (name:=u9 "__next__") hit.typeIs xR (wm xR hit.typeIs z6 ?_ (zo _)))
 unfold zI.«tuple_iterator.__next__»
 wp_walk using vA ho,vA ho2
 have e:items[(i:Int).toNat]?=none:=by rw[xj];exact hx
 rw[e]
 refine uQ (AA0 (uQ (x8 ho rfl (by simp) ?_)))
 have hh1:A.in1.handled=none:=hh
 unfold Builtin.SmallTypes.stopIteration
 simp only[newExc,newTuple,raiseNew]
 wp_walk
 refine hE _ _ ?_ ⟨_,uy _ rfl,rfl⟩
 have a:=(ABm (a:=it) (h:=s.heap) (f:=wB λx=>x.setIfInBounds 0 vL)).extBut
 exact(a.push _).push _
def WZ l items n dct sl:Meets (zI.«enumerate.__new__» ⟨[.type "enumerate",.ref l],[]⟩) (λ_ R s=>s.heap.get? l=Gc {cls:=.type "tuple",dict:=dct,data:=.seq items n,slots:=sl}/\R (.ok (.ret (.ref (s.heap.objs.size+1)))) {s with heap:=(s.heap.push {cls:=.type "tuple_iterator",data:=.fields #[.ref l,.int 0 0]}).push {cls:=.type "enumerate",data:=.fields #[.none,.bool false,.ref s.heap.objs.size,rawInt 0,.none,.none]}}):=
 .of_wp λprog w A R s h=>by
  obtain⟨hp,g,d,tk,os⟩:=s
  obtain⟨hl,h⟩:=h
  have hsub:=sub_enumerate
  have hT:z7 (xn ⟨hp,g,d,tk,os⟩) l items:=⟨_,hl,rfl,n,rfl⟩
  wp_walk using vA hl
  refine wpAny_stack_any λst=>uh ?_
  split
  .rename_i c _ _ _ _ _
   cases (c==AAE "enumerate")<;>(wp_walk using vA hl,wq hT)<;>(refine⟨_,rfl,?_⟩;rw[v7];exact h)
  .wp_walk using vA hl,wq hT
   refine⟨_,rfl,?_⟩
   rw[v7]
   exact h
def SI(hT:s.heap.IsTuple l items)(h:∀h',IsEnum h' (s.heap.objs.size+1) s.heap.objs.size 0 .none->h'.IsTupleIter s.heap.objs.size l 0->(∀b o,s.heap.get? b=Gc o->h'.get? b=Gc o)->Q (.ref (s.heap.objs.size+1)) {s with heap:=h'}):wpAny (model prog w) A (call (.type "enumerate") [.ref l]) Q E s:=by
 obtain⟨⟨c,dct,dt,sl⟩,hl,hc,n,hd⟩:=hT
 simp only at hc hd
 subst hc hd
 refine callType_new F.called_enumerate (by decide) (F.typeCall_enumerate_1 _) (F.newCall_enumerate_1 _) (λobj=>F.args_object_init_2 obj _) F.entry_enumerate_new (WZ l items n dct sl) ⟨hl,?_⟩
 have z:=uy (s.heap.push {cls:=.type "tuple_iterator",data:=.fields #[.ref l,.int 0 0]}) (o:={cls:=.type "enumerate",data:=.fields #[.none,.bool false,.ref s.heap.objs.size,rawInt 0,.none,.none]}) rfl
 rw[v7]at z
 exact⟨⟨_,z,rfl⟩,h _ z ⟨_,uR _ (uy _ rfl),rfl,rfl⟩ λb o x=>uR _ (uR _ x)⟩
end
end L2
end
noncomputable section
namespace L2
open PySem PySem.Spec PyProof.Rows
def FnAt(X:Cx)(k:Nat)(f:ug)(sp:Sp):Prop:=∃fd ps,Jm X.prog X.w X.K X.mg X.base CX0 k f fd ps sp/\vn X.K (.ref f)=true/\Binds X.K fd ps []
noncomputable def jy(X:Cx)(k i:Nat)(t:TA):TE:=λσ H Q=>∃f sp,σ[i]?=Gc (Gc (.ref f))/\FnAt X k f sp/\t σ H λvs H1=>sp (vs++[]) H1 Q E0
def W4{p pos:Pos}(hN:X.N[i]?=Gc x)(hv:Vis X.env.scope x)(hr:Cg k X.A)(ha:PA X (e::es) t)(hd:zn ((x==("__debug__":Str))=false) xz)(hcd:zn ((x==("__classdict__":Str))=false) xz)(he:zn (uf (e::es) X.env=(false,eval e X.env)::uf es X.env) ww)(hpl:zn ((backTo pos (uf es X.env)).any (·.1)=false) ww):PE X (.Call (.Name x p) (e::es) [] pos) (jy X k i t):=by
 intro pins s σ H Q I h
 obtain⟨f,sp,el,⟨fd,ps,F,hk,hb⟩,h⟩:=h
 refine wF (thn (Ig hN hv hd hcd pins s σ H (λv H1=>v=.ref f/\H1=H) I ⟨_,el,rfl,rfl⟩) λu s1 z=>?_)
 obtain⟨v,H1,I1,r,ev,eh⟩:=z
 subst ev eh
 obtain rfl:u=u6 f:=r
 refine wk (h₀:=X.base) I.ok.mod.kin hk (thn (ha pos pins s1 σ H1 _ I1 h) λus s2 ⟨vs,H2,I2,r2,q⟩=>⟨I2.kIn,?_⟩) he hpl
 exact RM F hr hb .nil VJ I2 r2 q
end L2
end
noncomputable section
namespace L2
open PySem PySem.Spec PyProof.Rows
structure TopD(K:W1)(w:wH)(a:ug)(kvs:Wp (Str×V)):Prop where
 ex:∃(es:ym y7) (n:Nat),K.lookup a=Gc ⟨.type "dict",none,.dict es n, #[]⟩/\zp w.params es.toList/\(a==sysModules)=false/\∀x,OY (kvs.lookup x) (findBy xq es x)
noncomputable def jX(K:W1)(w:wH):R2:=λx y H Q=>∃a kvs k v,x=.ref a/\y=.str k/\TopD K w a kvs/\kvs.lookup k=Gc v/\Q v H
def Zp:IxR X (jX X.K X.w):=by
 intro value slice pins s σ H x y v u Q I rx ry h hs
 obtain⟨a,kvs,k,z,rfl,rfl,⟨es,n,hl,hk,hne,hr⟩,e,q⟩:=h
 cases rx
 obtain⟨t,rfl⟩:=ry
 have hm:=PySem.W.mapOf_K (prog:=X.prog) I.kIn hl hk
 have r:=hr k
 rw[e]at r
 cases f:findBy xq es k with
 |none=>rw[f]at r;exact r.elim
 |some u=>
  rw[f]at r
  exact tail_any hm.typeIs slot_dict_getitem.lookup (wpAny_getItem_of (strKind_is X.prog X.w k t) hm f ⟨z,H,I.tok _,r,q⟩) hs
noncomputable def Zr(K:W1)(w:wH)(neg:va):R2:=λx y H Q=>∃a kvs k,y=.ref a/\x=.str k/\TopD K w a kvs/\Q (.bl (if neg then !(kvs.lookup k).isSome else(kvs.lookup k).isSome)) H
def P1:OpR X (compareOp .NotIn) (Zr X.K X.w true):=by
 intro pins s σ H x y v u Q I rx ry h
 obtain⟨a,kvs,k,rfl,rfl,⟨es,n,hl,hk,hne,hr⟩,q⟩:=h
 cases ry
 obtain⟨t,rfl⟩:=rx
 refine wpAny_notIn_of (strKind_is X.prog X.w k t) hne (PySem.W.mapOf_K (prog:=X.prog) I.kIn hl hk) ⟨.bl _,H,I.tok _,?_,q⟩
 show _=_
 have r:(kvs.lookup k).isSome=(findBy xq es k).isSome:=(hr k).Uu
 rw[<-r]
 rfl
def Qk(p:Paired (λp (e:y7)=>(∃t,e.key=.str p.1 t)/\RelV p.2 e.val) kvs es) x:OY (kvs.lookup x) (findBy xq es.toArray x):=by
 unfold findBy
 rw[List.find?_toArray]
 induction p with
 |nil=>trivial
 | @cons q e r t h _ ih=>
   obtain⟨⟨tk,hk⟩,hv⟩:=h
   obtain⟨k,v⟩:=q
   rw[xf,hk]
   show OY (match x==k with|true=>Gc v|false=>vm x r) _
   by_cases z:x=k
   .subst z
    have e1:(x==x)=true:=AAv x
    have e2:xq x (.str x tk)=true:=AAv x
    rw[e1,e2]
    exact hv
   .have e1:(x==k)=false:=vc.mpr z
    have e2:xq x (.str k tk)=false:=vc.mpr (vi z)
    rw[e1,e2]
    exact ih
def ZL{K:W1}(l:K.lookup a=Gc ⟨.type "dict",none,.dict es.toArray n, #[]⟩)(hk:zp w.params es)(hne:(a==sysModules)=false)(hp:Paired (λp (e:y7)=>(∃t,e.key=.str p.1 t)/\RelV p.2 e.val) kvs es):TopD K w a kvs:=⟨_,n,l,hk,hne,Qk hp⟩
end L2
end
noncomputable section
namespace L2
open PySem PySem.Spec PyProof.Rows
def SIt(h:vt)(j l:ug)(i:Nat)(its:ym uY):Prop:=(h.IsListIter j l i/\h.IsList l its)\/(h.IsTupleIter j l i/\h.IsTuple l its)
def SIt.at(q:SIt h j l i its)(k1:∀o,h.get? j=Gc o->h'.get? j=Gc o)(k2:∀o,h.get? l=Gc o->h'.get? l=Gc o):SIt h' j l i its:=by
 rcases q with⟨a,b⟩|⟨a,b⟩
 .exact .inl ⟨a.at k1,b.at k2⟩
 .exact .inr ⟨a.at k1,let⟨o,e,r⟩:=b;⟨o,k2 o e,r⟩⟩
def SIt.but(q:SIt h j l i its)(sb:AAe c h h')(n1:j≠c)(n2:l≠c):SIt h' j l i its:=q.at (λo e=>sb _ o n1 e) λo e=>sb _ o n2 e
def SIt.live(q:SIt h j l i its):∃o,h.get? j=Gc o/\∀v,o.data≠.cell v:=by
 rcases q with⟨⟨o,a,b,c⟩,_⟩|⟨⟨o,a,b,c⟩,_⟩
 .exact⟨o,a,λv z=>by rw[c]at z;cases z⟩
 .exact⟨o,a,λv z=>by rw[c]at z;cases z⟩
def SIt.ne(q:SIt h j l i its):l≠j:=by
 rcases q with⟨⟨o,a,b,_⟩,⟨o2,a2,b2,_⟩⟩|⟨⟨o,a,b,_⟩,⟨o2,a2,b2,_⟩⟩
 .intro z;subst z;rw[a]at a2;cases a2;rw[b]at b2;injection b2 with q;exact absurd q (by decide)
 .intro z;subst z;rw[a]at a2;cases a2;rw[b]at b2;injection b2 with q;exact absurd q (by decide)
def LP(q:SIt s.heap j l i its)(hx:its[i]?=Gc x)(k:∀h',SIt h' j l (i+1) its->yF j s.heap h'->Q x {s with heap:=h'}):wpAny (model prog w) A (vP (.ref j)) Q E s:=by
 have n:=q.ne
 rcases q with⟨a,b⟩|⟨a,b⟩
 .exact wpAny_nextOf_list_item a b hx λh' a' sb=>k h' (.inl ⟨a',b.extBut sb.extBut n⟩) sb
 .exact W5 a b hx λh' a' sb=>k h' (.inr ⟨a',let⟨o,e,r⟩:=b;⟨o,sb.extBut _ o n e,r⟩⟩) sb
def LW(hh:A.handled=none)(q:SIt s.heap j l i its)(hx:its[i]?=none)(k:∀h' e,AAe j s.heap h'->(∃o,h'.get? e=Gc o/\o.cls=.type "StopIteration")->E (.ref e) {s with heap:=h'}):wpAny (model prog w) A (vP (.ref j)) Q E s:=by
 rcases q with⟨a,b⟩|⟨a,b⟩
 .exact wpAny_nextOf_list_end hh a b hx k
 .exact XX hh a b hx k
def V6{Q:uY->uj->Prop}(D:ZipApart z ti tt j1 j2 l1 l2)(oz:AAP s.heap z ti tt .none)(oi:xv s.heap ti (.ref j1) (.ref j2))(ot:xv s.heap tt u1 u2)(q1:SIt s.heap j1 l1 m xs)(q2:SIt s.heap j2 l2 m ys)(ex:xs[m]?=Gc x)(ey:ys[m]?=Gc y)(k:∀h',AAP h' z ti tt (rawInt s.heap.objs.size)->xv h' tt x y->SIt h' j1 l1 (m+1) xs->SIt h' j2 l2 (m+1) ys->xv h' s.heap.objs.size x y->(∀c o,c≠z->c≠tt->c≠j1->c≠j2->s.heap.get? c=Gc o->h'.get? c=Gc o)->Q (.ref s.heap.objs.size) {s with heap:=h'}):wpAny (model prog w) A (zI.«zip.__next__» ⟨[.ref z],[]⟩) (λfin s'=>∃v,fin=.done (.ret v)/\Q v s') E s:=by
 show wpAny _ _ (field (.ref z) 2 >>= _) _ _ _
 refine uQ (wN oz rfl (x:=.bool false) rfl ?_)
 show wpAny _ _ (field (.ref z) 3 >>= _) _ _ _
 refine uQ (wN oz rfl (x:=.ref ti) rfl (uQ (ya oi rfl ?_)))
 show wpAny _ _ (wQ (.ref z) >>= _) _ _ _
 refine uQ ?_
 unfold wQ
 refine uQ (wN oz rfl (x:=.none) rfl (uh ?_))
 simp only[zZ]
 refine uQ (AA0 (uQ (wN oz rfl (x:=.ref tt) rfl (uQ (xS oz (by simp) λg1 oz1 b1=>?_)))))
 have oz1:AAP g1 z ti tt .ellipsis:=oz1
 refine uQ ?_
 simp only[List.zipIdx_cons,List.zipIdx_nil,ABF,ABT]
 refine uQ (uQ (AAk ?_))
 show wpAny _ _ (vP (.ref j1) >>= _) _ _ _
 refine uQ (LP (q1.but b1.extBut D.i1z D.l1z) ex λg2 q12 b2=>uh ?_)
 have ot2:xv g2 tt u1 u2:=b2.extBut _ _ D.TOi1 (b1.extBut _ _ D.TOz ot)
 refine uQ (ya ot2 rfl (uQ (zf ot2 λg3 ot3 b3=>?_)))
 have ot3:xv g3 tt x u2:=ot3
 refine uQ (ABU (uh (uQ (uQ (AAk ?_)))))
 show wpAny _ _ (vP (.ref j2) >>= _) _ _ _
 refine uQ (LP (((q2.but b1.extBut D.i2z D.l2z).but b2.extBut D.i12.symm D.l2i1).but b3.extBut D.TOi2.symm D.l2TO) ey λg4 q24 b4=>uh ?_)
 have ot4:xv g4 tt x u2:=b4.extBut _ _ D.TOi2 ot3
 refine uQ (ya ot4 rfl (uQ (zf ot4 λg5 ot5 b5=>?_)))
 have ot5:xv g5 tt x y:=ot5
 refine uQ (ABU (uh (uh (uQ (ya ot5 rfl (uQ (wpAny_newTuple ?_)))))))
 have sz:g5.objs.size=s.heap.objs.size:=by rw[b5.1,b4.1,b3.1,b2.1,b1.1]
 have oz5:AAP g5 z ti tt .ellipsis:=b5.extBut _ _ D.TOz.symm (b4.extBut _ _ D.i2z.symm (b3.extBut _ _ D.TOz.symm (b2.extBut _ _ D.i1z.symm oz1)))
 have k5:∀c o,c≠z->c≠tt->c≠j1->c≠j2->s.heap.get? c=Gc o->g5.get? c=Gc o:=λc o c1 c2 c3 c4 e=>b5.extBut _ _ c2 (b4.extBut _ _ c4 (b3.extBut _ _ c2 (b2.extBut _ _ c3 (b1.extBut _ _ c1 e))))
 have q15:SIt g5 j1 l1 (m+1) xs:=((q12.but b3.extBut D.TOi1.symm D.l1TO).but b4.extBut D.i12 D.l1i2).but b5.extBut D.TOi1.symm D.l1TO
 have q25:SIt g5 j2 l2 (m+1) ys:=q24.but b5.extBut D.TOi2.symm D.l2TO
 have zlt:z<g5.objs.size:=uk oz5
 show wpAny _ _ (yk (.ref z) (.ref g5.objs.size) >>= _) _ _ _
 refine uQ ?_
 unfold yk
 have oz6:AAP (g5.push {cls:=.type "tuple",data:=.seq #[x,y]}) z ti tt .ellipsis:=uR _ oz5
 refine uQ (xS oz6 (by simp) λg7 oz7 b7=>?_)
 have oz7:AAP g7 z ti tt (rawInt g5.objs.size):=oz7
 refine xS oz7 (by simp) λg8 oz8 b8=>?_
 have oz8:AAP g8 z ti tt (rawInt g5.objs.size):=oz8
 have up:∀c o,c≠z->g5.get? c=Gc o->g8.get? c=Gc o:=λc o c1 e=>b8.extBut _ _ c1 (b7.extBut _ _ c1 (uR _ e))
 have op8:xv g8 g5.objs.size x y:=b8.extBut _ _ (y9 zlt) (b7.extBut _ _ (y9 zlt) (uy _ rfl))
 rw[sz]at oz8 op8
 refine uh ⟨_,rfl,?_⟩
 show Q (.ref g5.objs.size) _
 rw[sz]
 exact k g8 oz8 (up _ _ D.TOz ot5) (q15.at (λo e=>up _ o D.i1z e) λo e=>up _ o D.l1z e) (q25.at (λo e=>up _ o D.i2z e) λo e=>up _ o D.l2z e) op8 λc o c1 c2 c3 c4 e=>up c o c1 (k5 c o c1 c2 c3 c4 e)
def Xo(hh:A.handled=none)(D:ZipApart z ti tt j1 j2 l1 l2)(oz:AAP s.heap z ti tt .none)(oi:xv s.heap ti (.ref j1) (.ref j2))(ot:xv s.heap tt u1 u2)(q1:SIt s.heap j1 l1 m xs)(q2:SIt s.heap j2 l2 m ys)(en:xs[m]?=none\/ys[m]?=none)(k:∀h' e,(∀c o,c≠z->c≠tt->c≠j1->c≠j2->s.heap.get? c=Gc o->h'.get? c=Gc o)->(∃o,h'.get? e=Gc o/\o.cls=.type "StopIteration")->E (.ref e) {s with heap:=h'}):wpAny (model prog w) A (zI.«zip.__next__» ⟨[.ref z],[]⟩) Q E s:=by
 show wpAny _ _ (field (.ref z) 2 >>= _) _ _ _
 refine uQ (wN oz rfl (x:=.bool false) rfl ?_)
 show wpAny _ _ (field (.ref z) 3 >>= _) _ _ _
 refine uQ (wN oz rfl (x:=.ref ti) rfl (uQ (ya oi rfl ?_)))
 show wpAny _ _ (wQ (.ref z) >>= _) _ _ _
 refine uQ ?_
 unfold wQ
 refine uQ (wN oz rfl (x:=.none) rfl (uh ?_))
 simp only[zZ]
 refine uQ (AA0 (uQ (wN oz rfl (x:=.ref tt) rfl (uQ (xS oz (by simp) λg1 oz1 b1=>?_)))))
 have oz1:AAP g1 z ti tt .ellipsis:=oz1
 refine uQ ?_
 simp only[List.zipIdx_cons,List.zipIdx_nil,ABF,ABT]
 refine uQ (uQ (AAk ?_))
 show wpAny _ _ (vP (.ref j1) >>= _) _ _ _
 cases ex:xs[m]? with
 |none=>
  refine uQ (LW hh (q1.but b1.extBut D.i1z D.l1z) ex λg2 e b2 he=>?_)
  obtain⟨oe,e1,e2⟩:=he
  have oz2:AAP g2 z ti tt .ellipsis:=b2 _ _ D.i1z.symm oz1
  have nez:e≠z:=λx=>by subst x;rw[oz2]at e1;cases e1;simp at e2
  exact xS oz2 (by simp) λg3 _ b3=>k g3 e (λc o c1 _ c3 _ x=>b3.extBut _ _ c1 (b2 _ _ c3 (b1.extBut _ _ c1 x))) ⟨oe,b3.extBut _ _ nez e1,e2⟩
 |some x=>
  have ey:ys[m]?=none:=by
   rcases en with z|z
   .rw[ex]at z;cases z
   .exact z
  refine uQ (LP (q1.but b1.extBut D.i1z D.l1z) ex λg2 q12 b2=>uh ?_)
  have ot2:xv g2 tt u1 u2:=b2.extBut _ _ D.TOi1 (b1.extBut _ _ D.TOz ot)
  refine uQ (ya ot2 rfl (uQ (zf ot2 λg3 ot3 b3=>?_)))
  refine uQ (ABU (uh (uQ (uQ (AAk ?_)))))
  show wpAny _ _ (vP (.ref j2) >>= _) _ _ _
  refine uQ (LW hh (((q2.but b1.extBut D.i2z D.l2z).but b2.extBut D.i12.symm D.l2i1).but b3.extBut D.TOi2.symm D.l2TO) ey λg4 e b4 he=>?_)
  obtain⟨oe,e1,e2⟩:=he
  have oz4:AAP g4 z ti tt .ellipsis:=b4 _ _ D.i2z.symm (b3.extBut _ _ D.TOz.symm (b2.extBut _ _ D.i1z.symm oz1))
  have nez:e≠z:=λx=>by subst x;rw[oz4]at e1;cases e1;simp at e2
  exact xS oz4 (by simp) λg5 _ b5=>k g5 e (λc o c1 c2 c3 c4 x=>b5.extBut _ _ c1 (b4 _ _ c4 (b3.extBut _ _ c2 (b2.extBut _ _ c3 (b1.extBut _ _ c1 x))))) ⟨oe,b5.extBut _ _ nez e1,e2⟩
def SE(D:ZipApart z ti tt j1 j2 l1 l2)(oz:AAP s.heap z ti tt .none)(oi:xv s.heap ti (.ref j1) (.ref j2))(ot:xv s.heap tt u1 u2)(q1:SIt s.heap j1 l1 m xs)(q2:SIt s.heap j2 l2 m ys)(ex:xs[m]?=Gc x)(ey:ys[m]?=Gc y)(k:∀h',AAP h' z ti tt (rawInt s.heap.objs.size)->xv h' tt x y->SIt h' j1 l1 (m+1) xs->SIt h' j2 l2 (m+1) ys->xv h' s.heap.objs.size x y->(∀c o,c≠z->c≠tt->c≠j1->c≠j2->s.heap.get? c=Gc o->h'.get? c=Gc o)->Q (Gc (.ref s.heap.objs.size)) {s with heap:=h'}):wpAny (model prog w) A (pyNext (.ref z)) Q E s:=by
 have ht:s.TypeIs (.ref z) "zip":=⟨_,oz,rfl⟩
 unfold pyNext
 exact uQ (ABw (wX (name:=u9 "__next__") ht zq (wm zq ht F.entry_zip_next
  (V6 D oz oi ot q1 q2 ex ey λh' a1 a2 a3 a4 a5 a6=>uh (k h' a1 a2 a3 a4 a5 a6)) (F.args_zip_next_1 _))))
def UP(hh:A.handled=none)(D:ZipApart z ti tt j1 j2 l1 l2)(oz:AAP s.heap z ti tt .none)(oi:xv s.heap ti (.ref j1) (.ref j2))(ot:xv s.heap tt u1 u2)(q1:SIt s.heap j1 l1 m xs)(q2:SIt s.heap j2 l2 m ys)(en:xs[m]?=none\/ys[m]?=none)(k:∀h',(∀c o,c≠z->c≠tt->c≠j1->c≠j2->s.heap.get? c=Gc o->h'.get? c=Gc o)->Q none {s with heap:=h'}):wpAny (model prog w) A (pyNext (.ref z)) Q E s:=by
 have ht:s.TypeIs (.ref z) "zip":=⟨_,oz,rfl⟩
 unfold pyNext
 refine uQ (ABw (wX (name:=u9 "__next__") ht zq (wm zq ht F.entry_zip_next
  (Xo hh D oz oi ot q1 q2 en λh' e kp he=>?_) (F.args_zip_next_1 _))))
 obtain⟨o,e1,e2⟩:=he
 exact uQ (wpAny_isInstance (T:="StopIteration") (b:=true) ⟨o,e1,e2⟩ isSubtype_stop (uh (k _ kp)))
end L2
end
noncomputable section
namespace L2
open PySem PySem.Spec PyProof.Rows
def NF(h:vt)(b:va)(l:ug)(its:ym uY):Prop:=match b with|true=>h.IsTuple l its|false=>h.IsList l its
noncomputable def jv:va->yE|true=>"tuple_iterator" |false=>"list_iterator"
noncomputable def zh1(h:vt)(b:va)(l:ug):vt:=h.push {cls:=.type (jv b),data:=.fields #[.ref l,.int 0 0]}
noncomputable def zh2(h:vt)(b c:va)(l m:ug):vt:=zh1 (zh1 h b l) c m
noncomputable def zh3(h:vt)(b c:va)(l m:ug):vt:=(zh2 h b c l m).push {cls:=.type "tuple",data:=.seq #[.ref h.objs.size,.ref (zh1 h b l).objs.size]}
noncomputable def zh4(h:vt)(b c:va)(l m:ug):vt:=(zh3 h b c l m).push {cls:=.type "tuple",data:=.seq #[.none,.none]}
noncomputable def zh5(h:vt)(b c:va)(l m:ug):vt:=(zh4 h b c l m).push {cls:=.type "zip",data:=.fields #[.none,.bool false,.bool false,.ref (zh2 h b c l m).objs.size,.ref (zh3 h b c l m).objs.size]}
def NF.push(q:NF h b l its) o:NF (h.push o) b l its:=by
 cases b
 .exact Heap.IsList.push q _
 .obtain⟨u,e,r⟩:=(show h.IsTuple l its from q)
  exact⟨u,uR _ e,r⟩
def Yc b c l m xs ys:Meets (zI.«zip.__new__» ⟨[.type "zip",.ref l,.ref m],[]⟩) (λ_ R s=>NF s.heap b l xs/\NF s.heap c m ys/\R (.ok (.ret (.ref (zh4 s.heap b c l m).objs.size))) {s with heap:=zh5 s.heap b c l m}):=
 .of_wp λprog w A R s hyp=>by
  obtain⟨hp,gs,dr,tk,os⟩:=s
  obtain⟨i1,i2,hyp⟩:=hyp
  have hsub:=sub_zip
  have i3:NF (xn ⟨zh1 hp b l,gs,dr,tk,os⟩) c m ys:=NF.push i2 _
  cases b<;>cases c
  .have a1:ABV (xn ⟨hp,gs,dr,tk,os⟩) l xs:=i1
   have a2:ABV (xn ⟨hp.push {cls:=.type "list_iterator",data:=.fields #[.ref l,.int 0 0]},gs,dr,tk,os⟩) m ys:=i3
   wp_walk using wc a1,wc a2
   exact⟨_,rfl,hyp⟩
  .have a1:ABV (xn ⟨hp,gs,dr,tk,os⟩) l xs:=i1
   have a2:z7 (xn ⟨hp.push {cls:=.type "list_iterator",data:=.fields #[.ref l,.int 0 0]},gs,dr,tk,os⟩) m ys:=i3
   wp_walk using wc a1,wq a2
   exact⟨_,rfl,hyp⟩
  .have a1:z7 (xn ⟨hp,gs,dr,tk,os⟩) l xs:=i1
   have a2:ABV (xn ⟨hp.push {cls:=.type "tuple_iterator",data:=.fields #[.ref l,.int 0 0]},gs,dr,tk,os⟩) m ys:=i3
   wp_walk using wq a1,wc a2
   exact⟨_,rfl,hyp⟩
  .have a1:z7 (xn ⟨hp,gs,dr,tk,os⟩) l xs:=i1
   have a2:z7 (xn ⟨hp.push {cls:=.type "tuple_iterator",data:=.fields #[.ref l,.int 0 0]},gs,dr,tk,os⟩) m ys:=i3
   wp_walk using wq a1,wq a2
   exact⟨_,rfl,hyp⟩
section
variable{s:uj}
def Zn(q:NF h b l its)(k:∀c o,h.get? c=Gc o->h'.get? c=Gc o)(e:h'.get? j=Gc {cls:=.type (jv b),data:=.fields #[.ref l,.int 0 0]}):SIt h' j l 0 its:=by
 cases b
 .exact .inl ⟨⟨_,e,rfl,rfl⟩,(show h.IsList l its from q).at λo z=>k _ o z⟩
 .exact .inr ⟨⟨_,e,rfl,rfl⟩,let⟨o,z,r⟩:=(show h.IsTuple l its from q);⟨o,k _ o z,r⟩⟩
def Wc(i1:NF s.heap b l xs)(i2:NF s.heap c m ys)(k:∀h',AAP h' (s.heap.objs.size+4) (s.heap.objs.size+2) (s.heap.objs.size+3) .none->xv h' (s.heap.objs.size+2) (.ref s.heap.objs.size) (.ref (s.heap.objs.size+1))->xv h' (s.heap.objs.size+3) .none .none->SIt h' s.heap.objs.size l 0 xs->SIt h' (s.heap.objs.size+1) m 0 ys->(∀c o,s.heap.get? c=Gc o->h'.get? c=Gc o)->Q (.ref (s.heap.objs.size+4)) {s with heap:=h'}):wpAny (model prog w) A (call (.type "zip") [.ref l,.ref m]) Q E s:=by
 refine callType_new F.called_zip (by decide) (F.typeCall_zip_2 _ _) (F.newCall_zip_2 _ _) (λobj=>F.args_object_init_3 obj _ _) F.entry_zip_new (Yc b c l m xs ys) ⟨i1,i2,?_⟩
 have z1:(zh1 s.heap b l).objs.size=s.heap.objs.size+1:=v7 ..
 have z2:(zh2 s.heap b c l m).objs.size=s.heap.objs.size+2:=by unfold zh2 zh1;rw[v7];exact congrArg (· +1) z1
 have z3:(zh3 s.heap b c l m).objs.size=s.heap.objs.size+3:=by unfold zh3;rw[v7,z2]
 have z4:(zh4 s.heap b c l m).objs.size=s.heap.objs.size+4:=by unfold zh4;rw[v7,z3]
 have kp:∀d o,s.heap.get? d=Gc o->(zh5 s.heap b c l m).get? d=Gc o:=λd o e=>by
  unfold zh5 zh4 zh3 zh2 zh1
  exact uR _ (uR _ (uR _ (uR _ (uR _ e))))
 have g5:(zh5 s.heap b c l m).get? (zh4 s.heap b c l m).objs.size=Gc _:=uy _ rfl
 have g4:(zh5 s.heap b c l m).get? (zh3 s.heap b c l m).objs.size=Gc _:=uR _ (uy _ rfl)
 have g3:(zh5 s.heap b c l m).get? (zh2 s.heap b c l m).objs.size=Gc _:=uR _ (uR _ (uy _ rfl))
 have g2:(zh5 s.heap b c l m).get? (zh1 s.heap b l).objs.size=Gc _:=uR _ (uR _ (uR _ (uy _ rfl)))
 have g1:(zh5 s.heap b c l m).get? s.heap.objs.size=Gc _:=uR _ (uR _ (uR _ (uR _ (uy _ rfl))))
 show _/\_
 rw[z2,z3,z4]at g5
 rw[z1,z2]at g3
 rw[z3]at g4
 rw[z1]at g2
 rw[z4]
 exact⟨⟨_,g5,rfl⟩,k _ g5 g3 g4 (Zn i1 kp g1) (Zn i2 kp g2) kp⟩
end
end L2
end
noncomputable section
namespace L2
open PySem PySem.Spec PyProof.Rows
def SqB(K:W1)(H:Hp)(k:va)(a:ug)(xs:Wp V):Prop:=match k with|true=>SqT K H a xs|false=>SqL K H a xs
def JIt(h:vt)(k:va)(j l:ug)(i:Nat):Prop:=match k with|true=>h.IsTupleIter j l i|false=>h.IsListIter j l i
def JIt.at(q:JIt h k j l i)(e:∀o,h.get? j=Gc o->h'.get? j=Gc o):JIt h' k j l i:=by
 cases k
 .exact Heap.IsListIter.at q e
 .exact Heap.IsTupleIter.at q e
def JIt.sit(q:JIt h k j l i)(p:NF h k l its):SIt h j l i its:=by
 cases k
 .exact .inl ⟨q,p⟩
 .exact .inr ⟨q,p⟩
def SIt.jit(q:SIt h j l i its)(p:NF h k l its):JIt h k j l i:=by
 rcases q with⟨q,r⟩|⟨q,r⟩
 .cases k
  .exact q
  .obtain⟨o,e,c,_⟩:=r;obtain⟨o',e',c',_⟩:=(show h.IsTuple l its from p)
   rw[e]at e';cases e';rw[c]at c';injection c' with z;exact absurd z (by decide)
 .cases k
  .obtain⟨o,e,c,_⟩:=r;obtain⟨o',e',c',_⟩:=(show h.IsList l its from p)
   rw[e]at e';cases e';rw[c]at c';injection c' with z;exact absurd z (by decide)
  .exact q
def Inv.sqB{σ:St}(I:Inv X pins σ H s)(h:SqB X.K H k a xs):∃its,Vals xs its/\NF s.heap k a its.toArray:=by
 cases k
 .obtain⟨its,h1,⟨o,n,q1,q2,_,q3⟩,h3⟩:=I.list h
  exact⟨its,h1,o,q1,q2,n,q3⟩
 .obtain⟨its,h1,h2,h3⟩:=I.tuple h
  exact⟨its,h1,h2⟩
def Inv.Qw{σ:St}(I:Inv X pins σ H s)(h:SqB X.K H k a xs)(g:SqB X.K H k a ys):xs=ys:=by
 cases k
 .exact I.RH h g
 .exact I.QF h g
noncomputable def Itz(K:W1)(k:va)(a:ug)(m:va)(b:ug):It:=
 ⟨λi H=>∃(xs ys:Wp V) (x y:V),SqB K H k a xs/\SqB K H m b ys/\xs[i]?=Gc x/\ys[i]?=Gc y,
  λi H v H'=>∃(p:ug) (x y:V),H p=none/\v=.ref p/\(∀xs,SqB K H k a xs->xs[i]?=Gc x)/\(∀ys,SqB K H m b ys->ys[i]?=Gc y)/\H'=upd H p (.tup [x,y]),
  λi H=>∃(xs ys:Wp V),SqB K H k a xs/\SqB K H m b ys/\(xs.length<=i\/ys.length<=i)⟩
structure ZSt(h:vt)(z ti tt j1 j2:ug)(k:va)(a:ug)(m:va)(b:ug)(i:Nat):Prop where
 oz:AAP h z ti tt .none
 oi:xv h ti (.ref j1) (.ref j2)
 ot:∃u v,xv h tt u v
 q1:JIt h k j1 a i
 q2:JIt h m j2 b i
structure ZNe(z ti tt j1 j2:ug):Prop where
 n1:ti≠z
 n2:tt≠z
 n3:j1≠z
 n4:j2≠z
 n5:ti≠tt
 n6:ti≠j1
 n7:ti≠j2
 n8:tt≠j1
 n9:tt≠j2
 n10:j1≠j2
def ZNe.apart(N:ZNe z ti tt j1 j2)(ha:a∉ [z,tt,j1,j2])(hb:b∉ [z,tt,j1,j2]):ZipApart z ti tt j1 j2 a b:=by
 simp only[uZ,uv,ve,AAl]at ha hb
 exact⟨N.n1,N.n2,N.n3,N.n4,N.n5,N.n6,N.n7,N.n8,N.n9,N.n10,ha.1,ha.2.1,ha.2.2.1,ha.2.2.2,hb.1,hb.2.1,hb.2.2.1,hb.2.2.2⟩
def BJ{σ:St}(I:Inv X pins σ H s)(q:SqB X.K H k a xs)(f:Qd X pins H c):a≠c:=by
 intro e
 subst e
 have rd:∀o,Rd H a o->wI:=λo r=>by
  rcases r with r|⟨_,r⟩<;>(rw[f.1]at r;cases r)
 have kk:∀o,X.K.lookup a=Gc o->wI:=λo hk=>by
  have b:=I.ok.mod.kin a o hk
  rcases f.2.2.2.1 with z|z
  .exact I.ok.ZG a o b z
  .exact absurd (uV (uk (I.ok.bs a o b).1) z) (v9 _)
 cases k
 .rcases(show SqL X.K H a xs from q)with q|⟨o,_,_,hk,_⟩
  .exact rd _ q
  .exact kk o hk
 .rcases(show SqT X.K H a xs from q)with q|⟨o,_,_,hk,_⟩
  .exact rd _ q
  .exact kk o hk
theorem YF{P:vb}{K:W1} k a m b z ti tt j1 j2(N:ZNe z ti tt j1 j2):Turn P w K (.Tuple elts n pos) (Itz K k a m b) [z,ti,tt,j1,j2] z (λi h=>ZSt h z ti tt j1 j2 k a m b i) where
 mem:=by simp
 obj:=λi h st c hc=>by
  have jl:∀{q:va} {j l:ug},JIt h q j l i->∃o,h.get? j=Gc o/\∀v,o.data≠.cell v:=λ{q j l} x=>by
   cases q
   .obtain⟨o,e,_,d⟩:=(show h.IsListIter j l i from x)
    exact⟨o,e,λv z=>by rw[d]at z;cases z⟩
   .obtain⟨o,e,_,d⟩:=(show h.IsTupleIter j l i from x)
    exact⟨o,e,λv z=>by rw[d]at z;cases z⟩
  simp only[uZ,uv,ve]at hc
  rcases hc with rfl|rfl|rfl|rfl|rfl
  .exact⟨_,st.oz,λv z=>nomatch z⟩
  .exact⟨_,st.oi,λv z=>nomatch z⟩
  .obtain⟨u,v,e⟩:=st.ot
   exact⟨_,e,λv z=>nomatch z⟩
  .exact jl st.q1
  .exact jl st.q2
 keep:=λi h h' st kp=>⟨kp z (by simp) _ st.oz,kp ti (by simp) _ st.oi,let⟨u,v,e⟩:=st.ot;⟨u,v,kp tt (by simp) _ e⟩,st.q1.at λo e=>kp j1 (by simp) o e,st.q2.at λo e=>kp j2 (by simp) o e⟩
 item:=by
  intro X hP hw hK hc i pins s σ H E I hf st hg
  subst hP hw hK
  obtain⟨xs,ys,x,y,s1,s2,e1,e2⟩:=hg
  obtain⟨i1,r1,p1⟩:=I.sqB s1
  obtain⟨i2,r2,p2⟩:=I.sqB s2
  obtain⟨u1,h1,ru1⟩:=r1.get e1
  obtain⟨u2,h2,ru2⟩:=r2.get e2
  have fz:=hf z (by simp);have fi:=hf ti (by simp);have ft:=hf tt (by simp);have f1:=hf j1 (by simp);have f2:=hf j2 (by simp)
  have ap:=N.apart (a:=a) (b:=b) (by simp[BJ I s1 fz,BJ I s1 ft,BJ I s1 f1,BJ I s1 f2]) (by simp[BJ I s2 fz,BJ I s2 ft,BJ I s2 f1,BJ I s2 f2])
  obtain⟨v1,v2,ot⟩:=st.ot
  refine SE ap st.oz st.oi ot (st.q1.sit p1) (st.q2.sit p2) (x:=u1) (y:=u2) (by simpa using h1) (by simpa using h2) λh' oz ot' q1 q2 op kp=>⟨_,rfl,wpAny_letOwnedTupleGo_zip oz λg oz' sb=>?_⟩
  have lt:∀c o,s.heap.get? c=Gc o->c≠s.heap.objs.size:=λc o q=>vF (uk q)
  have nz:z≠s.heap.objs.size:=lt _ _ st.oz
  have nt:tt≠s.heap.objs.size:=lt _ _ ot
  have n1:j1≠s.heap.objs.size:=by obtain⟨o,e,_⟩:=(st.q1.sit p1).live;exact lt _ _ e
  have n2:j2≠s.heap.objs.size:=by obtain⟨o,e,_⟩:=(st.q2.sit p2).live;exact lt _ _ e
  have kp2:∀c o,c≠z->c≠tt->c≠j1->c≠j2->s.heap.get? c=Gc o->g.get? c=Gc o:=λc o c1 c2 c3 c4 q=>(sb.2 c c1).trans (kp c o c1 c2 c3 c4 q)
  have fr:H s.heap.objs.size=none:=I.hok.fresh (ue _)
  have op2:g.get? s.heap.objs.size=Gc {cls:=.type "tuple",data:=.seq #[u1,u2]}:=(sb.2 _ (vi nz)).trans op
  have ne:∀c u,c∈ [z,ti,tt,j1,j2]->∀d,H d=Gc u->d≠c:=λc u hc d q e=>by rw[e,(hf c hc).1]at q;cases q
  have kpH:∀c u,H c=Gc u->∀o,s.heap.get? c=Gc o->g.get? c=Gc o:=λc u q o e=>kp2 c o (ne z u (by simp) c q) (ne tt u (by simp) c q) (ne j1 u (by simp) c q) (ne j2 u (by simp) c q) e
  have ka:∀o,s.heap.get? a=Gc o->g.get? a=Gc o:=λo e=>kp2 a o (BJ I s1 fz) (BJ I s1 ft) (BJ I s1 f1) (BJ I s1 f2) e
  have kb:∀o,s.heap.get? b=Gc o->g.get? b=Gc o:=λo e=>kp2 b o (BJ I s2 fz) (BJ I s2 ft) (BJ I s2 f1) (BJ I s2 f2) e
  have sq:∀{q:va} {d:ug} {is:ym uY},NF s.heap q d is->(∀o,s.heap.get? d=Gc o->h'.get? d=Gc o)->NF h' q d is:=λ{q d is} x kd=>by
   cases q
   .exact(show s.heap.IsList d is from x).at kd
   .obtain⟨o,e,r⟩:=(show s.heap.IsTuple d is from x)
    exact⟨o,kd o e,r⟩
  have ka1:∀o,s.heap.get? a=Gc o->h'.get? a=Gc o:=λo e=>kp a o (BJ I s1 fz) (BJ I s1 ft) (BJ I s1 f1) (BJ I s1 f2) e
  have kb1:∀o,s.heap.get? b=Gc o->h'.get? b=Gc o:=λo e=>kp b o (BJ I s2 fz) (BJ I s2 ft) (BJ I s2 f1) (BJ I s2 f2) e
  refine⟨.ref s.heap.objs.size,upd H s.heap.objs.size (.tup [x,y]),?_,rfl,⟨_,x,y,fr,rfl,λzs hz=>by rw[I.Qw hz s1];exact e1,λzs hz=>by rw[I.Qw hz s2];exact e2,rfl⟩,⟨oz',(sb.2 _ N.n1).trans (kp ti _ N.n1 N.n5 N.n6 N.n7 st.oi),⟨_,_,(sb.2 _ N.n2).trans ot'⟩,(q1.jit (sq p1 ka1)).at λo e=>(sb.2 _ N.n3).trans e,(q2.jit (sq p2 kb1)).at λo e=>(sb.2 _ N.n4).trans e⟩,?_⟩
  .show Inv X pins σ _ {s with heap:=g,gens:=s.gens,drawn:=s.drawn,toks:=s.toks}
   refine I.step (g':=s.gens) (d':=s.drawn) (ch:=[z,tt,j1,j2]) ?_ ?_ ?_ ?_ ?_ ?_ ?_ ?_ ?_ ?_ I.bare
   .intro c hc
    have q:Qd X pins H c:=hf c (by simp only[uZ,uv,ve]at hc ⊢; rcases hc with z|z|z|z<;>simp[z])
    exact⟨q.2.2.2.1,q.2.1,q.2.2.2.2.1,q.2.2.2.2.2⟩
   .exact λc o _ _ hc q _=>by
     simp only[uZ,uv,ve,AAl]at hc
     exact kp2 c o hc.1 hc.2.1 hc.2.2.1 hc.2.2.2 q
   .exact λc o _ _ hc q _=>by
     simp only[uZ,uv,ve,AAl]at hc
     exact⟨o.slots,kp2 c o hc.1 hc.2.1 hc.2.2.1 hc.2.2.2 q⟩
   .exact λc o _ q n=>by rw[AM (lt c o q)];exact n
   .exact λc o hc q=>by
     simp only[uZ,uv,ve,AAl]at hc
     exact⟨o,kp2 c o hc.1 hc.2.1 hc.2.2.1 hc.2.2.2 q⟩
   .exact λc ys q=>by rw[AM (BB q fr)];exact q
   .exact λc o u q=>by rw[AM (BB q fr)];exact q
   .exact λc ps q=>⟨#[],by rw[AM (BB q fr),q];simp⟩
   .rintro mm ⟨o,es,ep,ho,r⟩
    exact⟨o,es,ep,kp2 _ o (vi fz.2.1) (vi ft.2.1) (vi f1.2.1) (vi f2.2.1) ho,r⟩
   .intro c v q
    by_cases hb:c=s.heap.objs.size
    .subst hb
     rw[AX]at q
     cases q
     exact⟨by show 2<=sizeLine;decide,[u1,u2],.cons ru1 (.cons ru2 .nil),⟨_,op2,rfl,0,rfl⟩⟩
    .rw[AM hb]at q
     refine(I.hok c v q).RL (λd o hd r=>?_) (λd r=>by rw[AM (BB r fr)];exact r) (λd ys r=>by rw[AM (BB r fr)];exact r)
     rcases hd with e|e
     .rw[e]at r ⊢; exact kpH c v q o r
     .exact kpH d _ e o r
  .intro c hc
   have q:=hf c hc
   have:c≠s.heap.objs.size:=by
    simp only[uZ,uv,ve]at hc
    rcases hc with e|e|e|e|e
    .rw[e];exact nz
    .rw[e];exact lt _ _ st.oi
    .rw[e];exact nt
    .rw[e];exact n1
    .rw[e];exact n2
   rw[AM this];exact q.1
 done:=by
  intro X hP hw hK hc i pins s σ H E I hf st hg
  subst hP hw hK
  obtain⟨xs,ys,s1,s2,e⟩:=hg
  obtain⟨i1,r1,p1⟩:=I.sqB s1
  obtain⟨i2,r2,p2⟩:=I.sqB s2
  have l1:=r1.length
  have l2:=r2.length
  have hh:X.A.in1.handled=none:=I.ok.hd hc
  have hh0:X.A.handled=none:=I.ok.hd hc
  have fz:=hf z (by simp);have fi:=hf ti (by simp);have ft:=hf tt (by simp);have f1:=hf j1 (by simp);have f2:=hf j2 (by simp)
  have ap:=N.apart (a:=a) (b:=b) (by simp[BJ I s1 fz,BJ I s1 ft,BJ I s1 f1,BJ I s1 f2]) (by simp[BJ I s2 fz,BJ I s2 ft,BJ I s2 f1,BJ I s2 f2])
  obtain⟨v1,v2,ot⟩:=st.ot
  refine UP hh0 ap st.oz st.oi ot (st.q1.sit p1) (st.q2.sit p2) (by rcases e with e|e;exact .inl (by simp;lia);exact .inr (by simp;lia)) λh' kp=>⟨rfl,?_⟩
  have ne:∀c u,c∈ [z,ti,tt,j1,j2]->∀d,H d=Gc u->d≠c:=λc u hc d q e=>by rw[e,(hf c hc).1]at q;cases q
  show Inv X pins σ _ {s with heap:=h',gens:=s.gens,drawn:=s.drawn,toks:=s.toks}
  refine I.step (g':=s.gens) (d':=s.drawn) (ch:=[z,tt,j1,j2]) ?_ ?_ ?_ ?_ ?_ ?_ ?_ ?_ ?_ ?_ I.bare
  .intro c hc
   have q:Qd X pins H c:=hf c (by simp only[uZ,uv,ve]at hc ⊢; rcases hc with z|z|z|z<;>simp[z])
   exact⟨q.2.2.2.1,q.2.1,q.2.2.2.2.1,q.2.2.2.2.2⟩
  .exact λc o _ _ hc q _=>by
    simp only[uZ,uv,ve,AAl]at hc
    exact kp c o hc.1 hc.2.1 hc.2.2.1 hc.2.2.2 q
  .exact λc o _ _ hc q _=>by
    simp only[uZ,uv,ve,AAl]at hc
    exact⟨o.slots,kp c o hc.1 hc.2.1 hc.2.2.1 hc.2.2.2 q⟩
  .exact λc o _ q n=>n
  .exact λc o hc q=>by
    simp only[uZ,uv,ve,AAl]at hc
    exact⟨o,kp c o hc.1 hc.2.1 hc.2.2.1 hc.2.2.2 q⟩
  .exact λc ys q=>q
  .exact λc o u q=>q
  .exact λc ps q=>⟨#[],by rw[q];simp⟩
  .rintro mm ⟨o,es,ep,ho,r⟩
   exact⟨o,es,ep,kp _ o (vi fz.2.1) (vi ft.2.1) (vi f1.2.1) (vi f2.2.1) ho,r⟩
  .intro c v q
   refine(I.hok c v q).RL (λd o hd r=>?_) (λd r=>r) (λd ys r=>r)
   rcases hd with e|e
   .rw[e]at r ⊢; exact kp c o (ne z v (by simp) c q) (ne tt v (by simp) c q) (ne j1 v (by simp) c q) (ne j2 v (by simp) c q) r
   .exact kp d o (ne z _ (by simp) d e) (ne tt _ (by simp) d e) (ne j1 _ (by simp) d e) (ne j2 _ (by simp) d e) r
 self:=λ_ _ _ _ _ st h=>wpAny_pyIter_zip st.oz h
end L2
end
noncomputable section
namespace L2
open PySem PySem.Spec PyProof.Rows
def zne(n:Nat):ZNe (n+4) (n+2) (n+3) n (n+1):=⟨λe=>by have:n+2=n+4:=e;lia,λe=>by have:n+3=n+4:=e;lia,λe=>by have:n=n+4:=e;lia,λe=>by have:n+1=n+4:=e;lia,λe=>by have:n+2=n+3:=e;lia,λe=>by have:n+2=n:=e;lia,λe=>by have:n+2=n+1:=e;lia,λe=>by have:n+3=n:=e;lia,λe=>by have:n+3=n+1:=e;lia,λe=>by have:n=n+1:=e;lia⟩
noncomputable def tu(K:W1)(ta:TA):TI:=λσ H R=>ta σ H λvs H1=>∃k a m b,vs=[.ref a,.ref b]/\(∃xs,SqB K H1 k a xs)/\(∃ys,SqB K H1 m b ys)/\R (Itz K k a m b) H1
def jZ{p pos tp:Pos}{elts:Wp vj}{n:Nat}(hg:Gl X "zip")(hm:X.mg "zip"=none)(ha:PA X [a,b] ta)(hs:zn (uf [a,b] X.env=[(false,eval a X.env),(false,eval b X.env)]) ww)(hs2:zn (uf [b] X.env=[(false,eval b X.env)]) ww):PI X (.Tuple elts n tp) (.Call (.Name "zip" p) [a,b] [] pos) (tu X.K ta):=by
 intro pins s σ H R I h
 refine Call_ (NW I hg hm boot_zip (yS (thn (ha pos pins s σ H _ I h) λus s1 ⟨vs,H1,I1,r1,q1⟩=>?_) (by rw[hs,hs2]) (by rw[hs2];rfl)))
 obtain⟨k,a',m,b',e,⟨xs,hq⟩,⟨ys,hr⟩,q⟩:=q1
 subst e
 obtain⟨u,v,rfl,ru,rv⟩:=r1.two
 cases (show u=u6 a' from ru)
 cases (show v=u6 b' from rv)
 obtain⟨i1,v1,p1⟩:=I1.sqB hq
 obtain⟨i2,v2,p2⟩:=I1.sqB hr
 refine Wc p1 p2 λh' oz oi ot q1 q2 kp=>wpAny_pyIter_zip (s:={s1 with heap:=h'}) oz ?_
 have sq:∀{q:va} {d:ug} {is:ym uY},NF s1.heap q d is->NF h' q d is:=λ{q d is} x=>by
  cases q
  .exact(show s1.heap.IsList d is from x).at λo e=>kp _ o e
  .obtain⟨o,e,r⟩:=(show s1.heap.IsTuple d is from x)
   exact⟨o,kp _ o e,r⟩
 refine⟨s1.heap.objs.size+4,[s1.heap.objs.size+4,s1.heap.objs.size+2,s1.heap.objs.size+3,s1.heap.objs.size,s1.heap.objs.size+1],_,_,H1,rfl,I1.kept (t':=s1.toks) kp,
  YF k a' m b' _ _ _ _ _ (zne s1.heap.objs.size),⟨oz,oi,⟨_,_,ot⟩,q1.jit (sq p1),q2.jit (sq p2)⟩,λc hc=>?_,q⟩
 simp only[uZ,uv,ve]at hc
 have:s1.heap.objs.size<=c:=by rcases hc with rfl|rfl|rfl|rfl|rfl<;>first|exact ue _|exact Nat.le_add_right _ _
 exact I1.dN this (I1.hok.fresh this)
end L2
end
noncomputable section
namespace L2
open PySem PySem.Spec PyProof.Rows
def IsList.Rr{h h':vt}(p:h.IsList a items)(k:∀o,h.get? a=Gc o->h'.get? a=Gc o):h'.IsList a items:=by
 obtain⟨o,ho,r⟩:=p
 exact⟨o,k o ho,r⟩
theorem O4(hne:t≠it):∀n i s Q,s.heap.IsListIter it t i->s.heap.IsList t items->i+n<=items.size->(∀h',h'.IsListIter it t (i+n)->yF it s.heap h'->Q ((items.toList.drop i).take n) {s with heap:=h'})->wpAny (model prog w) A (draw (.ref it) n) Q E s
 |0,i,s,Q,hit,_,_,hQ=>by
  show wpAny _ _ (pure []) Q E s
  exact uh (by simpa using hQ s.heap hit (Heap.SameBut.refl ..))
 |n+1,i,s,Q,hit,ht,hle,hQ=>by
  have hlt:i<items.size:=by lia
  show wpAny _ _ (pyNext (.ref it) >>= _) Q E s
  refine uQ (zA hit ht (x:=items[i]) (by simp[hlt]) λh1 hit1 hs1=>?_)
  refine uQ (vx (O4 hne n (i+1) _ _ hit1 (IsList.Rr ht λo e=>hs1.extBut t o hne e) (by lia) λh2 hit2 hs2=>uh ?_))
  have hd:items.toList.drop i=items[i]::items.toList.drop (i+1):=by simp[vQ,hlt]
  have:=hQ h2 (by rw[show i+(n+1)=i+1+n by lia];exact hit2) (hs1.trans hs2)
  rw[hd,List.take_succ_cons]at this
  exact this
def LC(hh:A.handled=none)(ht:s.heap.IsList t items)(hty:s.TypeIs (.ref t) "list")(hQ:∀h',AAe s.heap.objs.size s.heap h'->Q items.toList {s with heap:=h'}):wpAny (model prog w) A (unpackItems (.ref t) items.size none) Q E s:=by
 have hlt:t≠s.heap.objs.size:=by obtain⟨o,ho,_⟩:=ht;exact vF (uk ho)
 unfold unpackItems
 refine uQ ?_
 .unfold notIterableAtAll
  refine uQ (wpAny_specialOf hty F.slot_list_iter.lookup ?_)
  refine uh ?_
  simp only[AB7,AAK]
  refine uQ (vx (wc ht ?_))
  refine uQ (vx (O4 hlt items.size 0 _ _ ⟨_,uy _ rfl,rfl,rfl⟩ (IsList.Rr ht λo e=>uR _ e) (by lia) λh1 hit1 hs1=>?_))
  have hall:List.take items.size (List.drop 0 items.toList)=items.toList:=by
   rw[List.drop_zero];exact zJ (by simp)
  rw[hall]
  rw[vC (by simp)]
  have ht1:h1.IsList t items:=IsList.Rr (IsList.Rr ht λo e=>uR _ e) λo e=>hs1.extBut t o hlt e
  refine uQ (vx (zQ hh hit1 ht1 (by simp) λh2 he2=>?_))
  simp only[Option.isSome_none,AB7,AAK]
  refine uh (hQ h2 λb o hb e=>he2 b o hb (hs1.extBut b o hb (uR _ e)))
def Ke{x1}(hh:A.handled=none)(ht:s.heap.IsList t items)(hty:s.TypeIs (.ref t) "list")(hn:(assignEach elts env).length=items.size)(hstar:(assignEach elts env).findIdx? (·.1)=none)(h:∀h',AAe s.heap.objs.size s.heap h'->wpAny (model prog w) A (assignInOrder ((assignEach elts env).map (·.2)) items.toList) Q E {s with heap:=h'}):wpAny (model prog w) A (assign (.Tuple elts x1 pos) env (.ref t)) Q E s:=by
 rw[PyProof.Rows.assign_Tuple]
 refine uQ (xI ?_)
 unfold unpack
 rw[hn,hstar]
 exact uQ (vx (LC hh ht hty h))
section
variable{X:Cx}{pos:Pos}
noncomputable def rf(K:W1)(n:Nat)(t:TGs):TG:=λv σ H Q=>∃a xs,v=.ref a/\(SqT K H a xs\/H a=Gc (.lst xs))/\xs.length=n/\t xs σ H Q
def iM{k:Nat}(hc:X.calm=true)(h:PGs X es t)(hn:zn ((assignEach es X.env).length=n) ww)(hst:zn ((assignEach es X.env).findIdx? (·.1)=none) ww):PG X (.Tuple es k pos) (rf X.K n t):=by
 intro pins s σ H v u Q I r hw
 obtain⟨a,xs,e1,hq,hl,hw⟩:=hw
 rcases hq with hq|hq
 .exact jC hc h hn hst pins s σ H v u Q I r ⟨a,xs,e1,hq,hl,hw⟩
 .subst e1
  cases r
  obtain⟨its,rv,p,hz⟩:=I.list (SqL.of hq)
  obtain⟨z,its2,m,rv2,_,e⟩:=I.Zh hq
  refine Ke (I.ok.hd hc) p.isList ⟨_,e,rfl⟩ (by simp[hn,<-hl,rv.length]) hst λh' hx=>?_
  have I1:Inv X pins σ H {s with heap:=h'}:=I.kept (t':=s.toks) λb o e=>hx b o (vF (uk e)) e
  exact h pins _ σ H xs _ Q I1 (by simpa using rv) hw
end
end L2
end
noncomputable section
namespace L2
open PySem PySem.Spec PyProof.Rows
def JIt.live(q:JIt h k j l i):∃o,h.get? j=Gc o/\∀v,o.data≠.cell v:=by
 cases k with
 |true=>obtain⟨o,e,c,d⟩:=q;exact⟨o,e,λv z=>by rw[d]at z;cases z⟩
 |false=>obtain⟨o,e,c,d⟩:=q;exact⟨o,e,λv z=>by rw[d]at z;cases z⟩
def NF.mono(q:NF h k l its)(e:∀o,h.get? l=Gc o->h'.get? l=Gc o):NF h' k l its:=by
 cases k with
 |true=>obtain⟨o,ho,r⟩:=q;exact⟨o,e o ho,r⟩
 |false=>obtain⟨o,ho,r⟩:=q;exact⟨o,e o ho,r⟩
theorem Uq(hh:A.handled=none) it t(hne:t≠it) items:Draws prog w A it [it,t] items.size (λi v=>items[i]?=Gc v) (λi h=>SIt h it t i items) where
 live:=λ_ _ st=>let⟨o,ho,_⟩:=st.live;⟨o,ho⟩
 frame:=λ_ _ _ st hk=>st.at (λo e=>hk it (by simp) o e) λo e=>hk t (by simp) o e
 item:=λi s Q E hi st hQ=>LP st (x:=items[i]) (by simp[hi]) λh' a b=>hQ _ h' s.toks (by simp[hi]) a b
 done:=λs Q E st hE=>LW hh st (by simp) hE
noncomputable def ItE(K:W1)(kk:va)(a:ug):It:=
 ⟨λi H=>∃xs x,SqB K H kk a xs/\xs[i]?=Gc x,λi H x H'=>∃p y,H p=none/\x=.ref p/\(∀xs,SqB K H kk a xs->xs[i]?=Gc y)/\H'=upd H p (.tup [.int i,y]),λi H=>∃xs,SqB K H kk a xs/\xs.length<=i⟩
theorem TH{P:vb}{K:W1} kk a e it(hei:e≠it):Turn P w K (.Tuple elts k pos) (ItE K kk a) [e,it] e (λi h=>(∃old,IsEnum h e it i old)/\JIt h kk it a i) where
 mem:=by simp
 obj:=λi h st b hb=>by
  obtain⟨⟨old,h1⟩,st2⟩:=st
  obtain⟨o,h2,h4⟩:=st2.live
  simp only[uZ,uv,ve]at hb
  rcases hb with rfl|rfl
  .exact⟨_,h1,λv z=>nomatch z⟩
  .exact⟨o,h2,h4⟩
 keep:=λi h h' st k=>by
  obtain⟨⟨old,h1⟩,h2⟩:=st
  exact⟨⟨old,k e (by simp) _ h1⟩,h2.at λo q=>k it (by simp) o q⟩
 item:=by
  intro X hP hw hK hc i pins s σ H E I hf st hg
  subst hP hw hK
  obtain⟨xs,x,hq,hx⟩:=hg
  obtain⟨its,rv,p⟩:=I.sqB hq
  obtain⟨u,hu,ru⟩:=rv.get hx
  obtain⟨⟨old,h1⟩,h2⟩:=st
  obtain⟨oi,hi1,hi2⟩:=h2.live
  have hea:a≠e:=BJ I hq (hf e (by simp))
  have hia:a≠it:=BJ I hq (hf it (by simp))
  have hil:i<its.toArray.size:=by
   have:=(ua.mp hu).1
   simpa using this
  have hh:X.A.in1.handled=none:=I.ok.hd hc
  have D:=Uq (prog:=X.prog) (w:=X.w) hh it a hia its.toArray
  refine wpAny_pyNext_enum_itemD D h1 (h2.sit p) hil hei (by simp[hei,vi hea]) ?_
  intro y h' tk hy out st' tup size kept
  have ey:y=u:=by
   have:its[i]?=Gc y:=by simpa using hy
   rw[hu]at this
   exact(wU this).symm
  subst ey
  refine⟨_,rfl,wpAny_letOwnedTupleGo_enum out λh'' en sb=>?_⟩
  have hfe:=hf e (by simp)
  have hfi:=hf it (by simp)
  have lt:∀b o,s.heap.get? b=Gc o->b≠s.heap.objs.size:=λb o q=>vF (uk q)
  have kept2:∀b o,b≠e->b≠it->s.heap.get? b=Gc o->h''.get? b=Gc o:=λb o b1 b2 q=>(sb.2 b b1).trans (kept b o b1 b2 q)
  have fr:H s.heap.objs.size=none:=I.hok.fresh (ue _)
  have tup2:h''.get? s.heap.objs.size=Gc {cls:=.type "tuple",data:=.seq #[.int i tk,y]}:=(sb.2 _ (vi (lt e _ h1))).trans tup
  have ne1:∀b u,H b=Gc u->b≠e:=λb u q z=>by rw[z,hfe.1]at q;cases q
  have ne2:∀b u,H b=Gc u->b≠it:=λb u q z=>by rw[z,hfi.1]at q;cases q
  refine⟨.ref s.heap.objs.size,upd H s.heap.objs.size (.tup [.int i,x]),?_,rfl,⟨_,x,fr,rfl,λys hys=>by rw[I.Qw hys hq];exact hx,rfl⟩,⟨⟨y,en⟩,?_⟩,?_⟩
  .show Inv X pins σ _ {s with heap:=h'',gens:=s.gens,drawn:=s.drawn,toks:=tk+1}
   refine I.step (g':=s.gens) (d':=s.drawn) (ch:=[e,it]) ?_ ?_ ?_ ?_ ?_ ?_ ?_ ?_ ?_ ?_ I.bare
   .intro b hb
    simp only[uZ,uv,ve]at hb
    rcases hb with rfl|rfl
    .exact⟨hfe.2.2.2.1,hfe.2.1,hfe.2.2.2.2.1,hfe.2.2.2.2.2⟩
    .exact⟨hfi.2.2.2.1,hfi.2.1,hfi.2.2.2.2.1,hfi.2.2.2.2.2⟩
   .exact λb o _ _ hc q _=>kept2 b o (λz=>hc (by simp[z])) (λz=>hc (by simp[z])) q
   .exact λb o _ _ hc q _=>⟨o.slots,kept2 b o (λz=>hc (by simp[z])) (λz=>hc (by simp[z])) q⟩
   .exact λb o _ q n=>by rw[AM (lt b o q)];exact n
   .exact λb o hc q=>⟨o,kept2 b o (λz=>hc (by simp[z])) (λz=>hc (by simp[z])) q⟩
   .exact λb ys q=>by rw[AM (BB q fr)];exact q
   .exact λb o u q=>by rw[AM (BB q fr)];exact q
   .exact λb ps q=>⟨#[],by rw[AM (BB q fr),q];simp⟩
   .rintro m ⟨o,es,ep,ho,r⟩
    exact⟨o,es,ep,kept2 _ o (vi hfe.2.1) (vi hfi.2.1) ho,r⟩
   .intro b v q
    by_cases hb:b=s.heap.objs.size
    .subst hb
     rw[AX]at q
     cases q
     exact⟨by show 2<=sizeLine;decide,[.int i tk,y],.cons ⟨tk,rfl⟩ (.cons ru .nil),⟨_,tup2,rfl,0,rfl⟩⟩
    .rw[AM hb]at q
     refine(I.hok b v q).RL (λc z hc r=>kept2 c z ?_ ?_ r) (λc r=>by rw[AM (BB r fr)];exact r) (λc ys r=>by rw[AM (BB r fr)];exact r)
     .rcases hc with z|z
      .rw[z];exact ne1 b v q
      .exact ne1 c _ z
     .rcases hc with z|z
      .rw[z];exact ne2 b v q
      .exact ne2 c _ z
  .have pa:NF h'' kk a its.toArray:=p.mono λo q=>kept2 a o hea hia q
   exact(st'.at (λo q=>(sb.2 it (vi hei)).trans q) λo q=>(sb.2 a hea).trans q).jit pa
  .intro b hb
   simp only[uZ,uv,ve]at hb
   rcases hb with rfl|rfl
   .rw[AM (lt b _ h1)];exact hfe.1
   .rw[AM (lt b _ hi1)];exact hfi.1
 done:=by
  intro X hP hw hK hc i pins s σ H E I hf st hg
  subst hP hw hK
  obtain⟨xs,hq,hx⟩:=hg
  obtain⟨its,rv,p⟩:=I.sqB hq
  obtain⟨⟨old,h1⟩,h2⟩:=st
  have hl:=rv.length
  have hh:X.A.in1.handled=none:=I.ok.hd hc
  obtain⟨f0,f1,f2,f3,f4,f5⟩:=hf it (by simp)
  have D:Draws X.prog X.w X.A.in1 it [it,a] i (λ_ _=>AAF) (λj h=>j=i/\SIt h it a i its.toArray):=
   {live:=λ_ _ st=>let⟨o,ho,_⟩:=st.2.live;⟨o,ho⟩
    frame:=λ_ _ _ st hk=>⟨st.1,st.2.at (λo e=>hk it (by simp) o e) λo e=>hk a (by simp) o e⟩
    item:=λj s Q E hj st _=>absurd st.1 (vF hj)
    done:=λs Q E st hE=>LW hh st.2 (by simp;lia) hE}
  exact wpAny_pyNext_enum_endD D h1 ⟨rfl,h2.sit p⟩ λh' eb=>⟨rfl,I.turned (t':=s.toks) (λb o hb q=>eb b o hb q) f0 f1 f3 f4 f5⟩
 self:=λ_ _ _ _ _ st h=>by
  obtain⟨⟨old,h1⟩,_⟩:=st
  exact wpAny_pyIter_enum h1 h
noncomputable def iP(K:W1)(ta:TA):TI:=λσ H R=>ta σ H λvs H1=>∃kk a,vs=[.ref a]/\(∃xs,SqB K H1 kk a xs)/\R (ItE K kk a) H1
def Xz(hg:Gl X "enumerate")(hm:X.mg "enumerate"=none)(ha:PA X [a] ta)(hs:zn (uf [a] X.env=[(false,eval a X.env)]) ww):PI X (.Tuple elts k tp) (.Call (.Name "enumerate" p) [a] [] pos) (iP X.K ta):=by
 intro pins s σ H R I h
 refine Call_ (NW I hg hm boot_enumerate (callWith_type1 (thn (ha pos pins s σ H _ I h) λus s1 z=>?_) hs rfl))
 obtain⟨vs,H1,I1,r1,q1⟩:=z
 obtain⟨kk,b,e,⟨xs,hq⟩,q⟩:=q1
 subst e
 obtain⟨u,rfl,ru⟩:=r1.one
 cases (show u=u6 b from ru)
 obtain⟨its,rv,pt⟩:=I1.sqB hq
 have fin:∀h':vt,IsEnum h' (s1.heap.objs.size+1) s1.heap.objs.size 0 .none->JIt h' kk s1.heap.objs.size b 0->(∀b o,s1.heap.get? b=Gc o->h'.get? b=Gc o)->wpAny (model X.prog X.w) X.A (pyIter (.ref (s1.heap.objs.size+1))) (PIE X pins σ (.Tuple elts k tp) R) X.xe {s1 with heap:=h'}:=λh' en it kp=>by
  refine wpAny_pyIter_enum (s:={s1 with heap:=h'}) en ?_
  refine⟨s1.heap.objs.size+1,[s1.heap.objs.size+1,s1.heap.objs.size],_,_,H1,rfl,I1.kept (t':=s1.toks) kp,TH kk b (s1.heap.objs.size+1) s1.heap.objs.size (Nat.succ_ne_self _),⟨⟨_,en⟩,it⟩,λc hc=>?_,q⟩
  simp only[uZ,uv,ve]at hc
  rcases hc with rfl|rfl
  .exact I1.dN (by lia) (I1.hok.fresh (by lia))
  .exact I1.dN (ue _) (I1.hok.fresh (ue _))
 cases kk with
 |true=>exact SI (show s1.heap.IsTuple b its.toArray from pt) λh' en it kp=>fin h' en it kp
 |false=>exact call_enumerate_list (show s1.heap.IsList b its.toArray from pt) λh' en it _ kp=>fin h' en it kp
end L2
end
noncomputable section
namespace St
open PySem PySem.Spec L2 PyProof.Rows
inductive Kd where
 |non|bl|int|str|tup|lst|dct
 deriving DecidableEq
noncomputable def Kd.ty:Kd->yE
 | .non=>"NoneType" | .bl=>"bool" | .int=>"int" | .str=>"str" | .tup=>"tuple" | .lst=>"list" | .dct=>"dict"
noncomputable def Kd.isA:Kd->yE->va
 | .bl,"bool"=>true| .bl,"int"=>true| .int,"int"=>true| .str,"str"=>true| .tup,"tuple"=>true| .lst,"list"=>true| .dct,"dict"=>true
 |_,_=>false
section
variable{K:W1}
def cA(k:Kd):xO K (.type k.ty) (.type "int")=Gc (k.isA "int"):=by
 cases k<;>first|rfl|(unfold xO;rfl)
def Xh(k:Kd):xO K (.type k.ty) (.type "bool")=Gc (k.isA "bool"):=by
 cases k<;>rfl
def kit_tuple(k:Kd):xO K (.type k.ty) (.type "tuple")=Gc (k.isA "tuple"):=by
 cases k<;>rfl
def aL(k:Kd):xO K (.type k.ty) (.type "str")=Gc (k.isA "str"):=by
 cases k<;>rfl
end
structure Dfn(P:vb)(w:wH)(K:W1)(mg:Str->uS uY)(base:vt)(x:Str)(k:Nat)(ps:Wp Str)(sp:Sp):Prop where
 ex:∃f fd,mg x=Gc (.ref f)/\vn K (.ref f)=true/\Binds K fd ps []/\Jm P w K mg base CX0 k f fd ps sp
structure Src(K:W1)(mg:Str->uS uY)(x:Str)(st:vI):Prop where
 ex:∃f fd,Fun K x x st f fd/\mg x=Gc (.ref f)
def oY{X:Cx}{k:Nat}{x:Str}{ps:Wp Str}{p pos:Pos}(d:Dfn X.prog X.w X.K X.mg X.base x k ps sp)(hr:Cg k X.A)(hg:Gl X x)(ha:PA X (e::es) t)(hdb:zn ((x==("__debug__":Str))=false) xz)(he:zn (uf (e::es) X.env=(false,eval e X.env)::uf es X.env) ww)(hpl:zn ((backTo pos (uf es X.env)).any (·.1)=false) ww):PE X (.Call (.Name x p) (e::es) [] pos) (dc sp [] E0 t):=by
 obtain⟨f,fd,a,b,c,F⟩:=d.ex
 exact cG F hr hg a b c .nil VJ ha hdb he hpl
def bU(h:n<2^8000):n.log2<9000:=by
 by_cases h0:n=0
 .subst h0;decide
 .exact Nat.lt_trans ((Nat.log2_lt h0).mpr h) (by decide)
def YT:OpR X (binaryOp .FloorDiv) (rI (λ_ j=>0<j/\j.natAbs<2^8000) λi j=>.int (i / j)):=opI λi j _ _ _ _ _ hc q=>by
 have h1:(0:Int)<j:=hc.1
 exact floordiv_int (by lia) (by rw[Int.fdiv_eq_ediv_of_nonneg i (by lia)];exact q) (.inl (PyProof.noPylong_of_log2 (bU hc.2)))
theorem Nv(hh:A.handled=none)(hne:a≠it){vs:Wp uY}:Walks prog w A it [it,a] [it] vs.length (λi v=>vs[i]?=Gc v) (λi h=>h.IsListIter it a i/\h.IsList a vs.toArray) where
 sub:=λb hb=>by simp at hb;simp[hb]
 frame:=λi h h' st k=>⟨st.1.at λo e=>k it (by simp) o e,by
  obtain⟨o,ho,r⟩:=st.2
  exact⟨o,k a (by simp) o ho,r⟩⟩
 item:=λi s Q E hi st hQ=>by
  refine zA st.1 st.2 (x:=vs[i]) (by simp[hi]) λh' st' sb=>?_
  refine hQ _ h' s.toks (by simp[hi]) ⟨st',?_⟩ λb o hb e=>(sb.2 b (by simpa using hb)).trans e
  obtain⟨o,ho,r⟩:=st.2
  exact⟨o,(sb.2 a hne).trans ho,r⟩
 done:=λs Q E st hQ=>zQ hh st.1 st.2 (by simp) λh' eb=>hQ h' s.toks λb o hb e=>eb b o (by simpa using hb) e
 self:=λi s Q E st hQ=>ABJ st.1 hQ
def Uz(hc:X.calm=true):Eg X (.builtin "all") (λxs H Q=>∃(p:ug) (bs:Wp va),xs=[.ref p]/\SqL X.K H p (bs.map V.bl)/\Q (.bl (bs.all id)) H):=by
 intro pins s σ H xs us Q I r h
 obtain⟨p,bs,rfl,hp,q⟩:=h
 obtain⟨u,rfl,ru⟩:=r.one
 cases (show u=u6 p from ru)
 obtain⟨its,rv,pl,hz⟩:=I.list hp
 have hd:X.A.in1.handled=none:=I.ok.hd hc
 refine call_all_walk (wc pl.isList ?_)
 have hlen:bs.length=its.length:=by have:=rv.length;simpa using this
 have hpl:=pl.isList
 have hne:p≠s.heap.objs.size:=by
  obtain⟨o,ho,_⟩:=hpl
  exact vF (uk ho)
 refine⟨s.heap.objs.size,_,_,its.length,_,_,λi=>bs.getD i true,rfl,Nv (vs:=its) hd hne,⟨⟨_,uy _ rfl,rfl,rfl⟩,?_⟩,?_,?_⟩
 .obtain⟨o,ho,r⟩:=hpl
  exact⟨o,uR _ ho,r⟩
 .intro i v s' Q' E' hv hq
  have hi:i<its.length:=(ua.mp hv).1
  have hb:(bs.map V.bl)[i]?=Gc (.bl (bs.getD i true)):=by
   rw[uo,uT (by lia)]
   simp[u4,uT (show i<bs.length by lia)]
  obtain⟨u,hu,ru⟩:=rv.get hb
  rw[hv]at hu
  cases hu
  cases (show v=AAD _ from ru)
  exact xA hq
 .intro h' tk hk
  have e:(u7 its.length).all (λi=>bs.getD i true)=bs.all id:=by
   rw[<-hlen]
   clear q hp rv hlen
   have:∀(l:Wp va),(u7 l.length).all (λi=>l.getD i true)=l.all id:=by
    intro l
    induction l with
    |nil=>rfl
    |cons b l ih=>
     rw[vH,List.range_succ_eq_map,yM,List.all_map,yM,<-ih]
     rfl
   exact this bs
  rw[e]
  exact⟨.bl _,H,I.kept (t':=tk) λb o eb=>hk b o (by simp;exact vF (uk eb)) (uR _ eb),rfl,q⟩
def Yq{ns:Wp Int}(h:j<ns.length):(ns.take (j+1)).sum=(ns.take j).sum+ns.getD j 0:=by
 have e:ns.getD j 0=ns[j]:=by simp[u4,uT h]
 rw[ABW,uT h,List.sum_append,e]
 show _+(ns[j]+0)=_
 lia
theorem MF{ns:Wp Int}:∀{j},j<=ns.length->preSum (λi=>ns.getD i 0) j=(ns.take j).sum
 |0,_=>by simp[preSum]
 |j+1,h=>by
  rw[preSum,MF (by lia),Yq (by lia)]
def U9{ns:Wp Int}(h:∀n∈ns,0<=n/\n<=1000000):0<=ns.sum/\ns.sum<=1000000*ns.length:=by
 induction ns with
 |nil=>simp
 |cons a l ih=>
  have h1:=h a (by simp)
  have h2:=ih λn hn=>h n (by simp[hn])
  rw[wx,vH]
  have:((l.length+1:Nat):Int)=(l.length:Int)+1:=by lia
  lia
def KJ{lo hi:uS Int}(ht:IsTup s.heap t items)(hs:s.heap.IsSliceOf sl vl vu .none)(pl:AA1 vl lo)(pu:AA1 vu hi)(hw:HT.sIx items.size 0 lo=0/\HT.sIx items.size items.size hi=items.size)(h:Q (.ref t) s):wpAny (model prog w) A (getItem (.ref t) (.ref sl)) Q E s:=by
 obtain⟨os,hos,hcs,hds⟩:=id hs
 have hTs:s.TypeIs (.ref sl) "slice":=⟨os,hos,hcs⟩
 unfold getItem
 try with_reducible refine vx ?_
 first|refine uQ (uh ?_)|skip
 refine uQ (wpAny_sequenceKey ht.typeIs (by decide) ?_)
 refine uQ (wX (name:=u9 "__getitem__") ht.typeIs vg
  (wm vg ht.typeIs ABk ?_ (AB4 _ _)))
 show wpAny _ _ (AAM (.ref t) >>= _) _ _ s
 refine uQ (tupleItemsOf_ ht ?_)
 refine uQ (AA2 hTs ?_)
 rw[vD (by decide)]
 refine uQ (HT.HE hs pl pu ?_)
 show wpAny _ _ (if(((HT.sIx items.size 0 lo:Nat):Int)==0 && (1:Int)==1 && (HT.sIx items.size items.size hi-HT.sIx items.size 0 lo)==items.size)=true then _ else _) _ _ s
 rw[vD (by rw[hw.1,hw.2];simp)]
 unfold Builtin.Tuple.tupleIsExact
 refine uQ (uQ (AA2 ht.typeIs (uh ?_)))
 rw[vD (by decide)]
 exact uQ (AA0 (uh ⟨_,rfl,uh h⟩))
def rY(K:W1):V->uS Int->uS Int->Hp->VK->Prop:=λx lo hi H Q=>∃a xs,x=.ref a/\SqT K H a xs/\HT.sIx xs.length 0 lo=0/\HT.sIx xs.length xs.length hi=xs.length/\Q x H
def jP:SlR X (rY X.K):=by
 intro pins s σ H x v vl vu lo hi sl Q I rx hs pl pu h
 obtain⟨a,xs,rfl,hx,h1,h2,q⟩:=h
 cases rx
 obtain⟨its,r,ht,hz⟩:=I.tuple hx
 have hlen:its.toArray.size=xs.length:=by rw[ur];exact r.length.symm
 refine⟨"tuple",_,vg.lookup,ht.typeIs,?_⟩
 exact KJ ht hs pl pu (by rw[hlen];exact⟨h1,h2⟩) ⟨.ref a,H,I,rfl,q⟩
noncomputable def pF(K:W1):R2:=λx y H Q=>∃a b ys,x=.ref a/\y=.ref b/\SqT K H a []/\SqT K H b ys/\Q (.ref b) H
def Zz:OpR X (binaryOp .Add) (pF X.K):=by
 intro pins s σ H x y v u Q I rx ry h
 obtain⟨a,b,ys,rfl,rfl,ha,hb,q⟩:=h
 cases rx
 cases ry
 obtain⟨its,r1,p1,_⟩:=I.tuple ha
 obtain⟨its2,r2,p2,_⟩:=I.tuple hb
 have e0:its=[]:=r1.N6.mpr rfl
 subst e0
 obtain⟨⟨cls,dd,data,sl⟩,ho,hc,n,hd⟩:=id p1
 obtain⟨⟨cls2,dd2,data2,sl2⟩,ho2,hc2,n2,hd2⟩:=id p2
 simp only at hc hd hc2 hd2
 subst hc hd hc2 hd2
 exact concat_meets ⟨_,ho,rfl⟩ ⟨_,ho2,rfl⟩ AAr ABv zF y0 (yn _ _)
  (tuple_addW0 a b #[] its2.toArray n n2 dd dd2 sl sl2 rfl) ⟨ho,ho2,⟨.ref b,H,I,rfl,q⟩⟩
end St
end
noncomputable section
namespace Mi
open PySem PySem.Spec L2
inductive D where
 |non|bl (b:va)|int (i:Int)|str (x:Str)|ty (n:yE)|tup (ds:Wp D)|lst (ds:Wp D)|dct (kvs:Wp (Key×D))|scr (ns:Wp Int)|ref (n:Nat)
inductive Wv where
 |val (d:D)|own (ds:Wp D)
inductive Cl where
 |lst (ds:Wp D)|dct (kvs:Wp (Key×D))|tab (x:Str)|ins (C:Str) (fs:Wp (Str×D))
abbrev Sto:=Wp Cl
structure Ms where
 cel:Wp ug
 tmp:Wp ug
def Ms.mem(M:Ms)(a:ug):Prop:=a∈M.cel\/a∈M.tmp
noncomputable def Ms.no:Ms:=⟨[],[]⟩
def KL(K:W1)(a:ug)(xs:Wp V):Prop:=∃(o:Obj) (its:ym uY) (n:Nat),K.lookup a=Gc o/\o.cls=.type "list" /\o.dict=none/\o.data=.seq its n/\its.size<=sizeLine/\Vals xs its.toList
mutual
inductive BN(K:W1)(M:Ms)(H:Hp):V->D->Prop
 |non:BN K M H .non .non
 |bl (b:va):BN K M H (.bl b) (.bl b)
 |int (i:Int):BN K M H (.int i) (.int i)
 |str (x:Str):BN K M H (.str x) (.str x)
 |ty (n:yE):BN K M H (.ty n) (.ty n)
 |tup {a:ug} {xs:Wp V} {ds:Wp D} (h:SqT K H a xs) (r:Af K M H xs ds):BN K M H (.ref a) (.tup ds)
 |lst {a:ug} {xs:Wp V} {ds:Wp D} (h:H a=Gc (.lst xs)) (n:¬M.mem a) (r:Af K M H xs ds):BN K M H (.ref a) (.lst ds)
 |scr {a:ug} {ns:Wp Int} (h:(Rd H a (.lst (ns.map V.int))/\¬M.mem a)\/KL K a (ns.map V.int)):BN K M H (.ref a) (.scr ns)
 |dct {a:ug} {kvs:Wp (Key×V)} {es:Wp (Key×D)} (h:H a=Gc (.dK kvs)) (n:¬M.mem a) (r:B6 K M H kvs es):BN K M H (.ref a) (.dct es)
 |ref {a:ug} {n:Nat} (h:M.cel[n]?=Gc a):BN K M H (.ref a) (.ref n)
inductive Af(K:W1)(M:Ms)(H:Hp):Wp V->Wp D->Prop
 |nil:Af K M H [] []
 |cons {v:V} {d:D} {vs:Wp V} {ds:Wp D} (h:BN K M H v d) (t:Af K M H vs ds):Af K M H (v::vs) (d::ds)
inductive B6(K:W1)(M:Ms)(H:Hp):Wp (Key×V)->Wp (Key×D)->Prop
 |nil:B6 K M H [] []
 |cons {k:Key} {v:V} {d:D} {vs:Wp (Key×V)} {ds:Wp (Key×D)} (h:BN K M H v d) (t:B6 K M H vs ds):B6 K M H ((k,v)::vs) ((k,d)::ds)
end
def Mob:HO->Prop
 | .lst _=>AAF
 | .dK _=>AAF
 | .tbl _=>AAF
 | .ins _ _ _=>AAF
 |_=>wI
def MOk(M:Ms)(H:Hp):Prop:=∀a,M.mem a->∃o,H a=Gc o/\Mob o
structure Sp1(M:Ms)(H:Hp)(M':Ms)(H':Hp):Prop where
 mo:MOk M H
 pre:M.cel <+: M'.cel
 fresh:∀a,M'.mem a->M.mem a\/H a=none
 keep:∀a o,H a=Gc o->¬M.mem a->H' a=Gc o
structure Gr(M:Ms)(H:Hp)(M':Ms)(H':Hp):Prop where
 mo:MOk M H
 pre:M.cel <+: M'.cel
 tmp:M'.tmp=M.tmp
 fresh:∀a,a∈M'.cel->a∈M.cel\/H a=none
 keep:∀a o,H a=Gc o->a∉M.cel->H' a=Gc o
 some:∀a,H a≠none->H' a≠none
section
variable{M M' M2:Ms}{H H' H2:Hp}
def MOk.some(mo:MOk M H)(h:M.mem a):H a≠none:=λz=>by
 obtain⟨o,e,_⟩:=mo a h
 rw[e]at z;cases z
def MOk.at(mo:MOk M H)(k:∀b o,H b=Gc o->H' b=Gc o)(h:M.mem a):∃o,H' a=Gc o/\Mob o:=(mo a h).imp λo z=>⟨k a o z.1,z.2⟩
def Gr.st(g:Gr M H M' H'):Sp1 M H M' H':=⟨g.mo,g.pre,λa z=>z.elim (λz=>(g.fresh a z).imp .inl id) λz=>.inl (.inr (by rw[<-g.tmp];exact z)),λa o e n=>g.keep a o e λz=>n (.inl z)⟩
def Gr.refl(mo:MOk M H):Gr M H M H:=⟨mo,vk,rfl,λ_ z=>.inl z,λ_ _ e _=>e,λ_ e=>e⟩
def Gr.none(g:Gr M H M' H')(h:H' a=none):H a=none:=by
 cases e:H a with
 |none=>rfl
 |some o=>exact absurd h (g.some a (by rw[e];intro z;cases z))
def Gr.trans(h:Gr M H M' H')(g:Gr M' H' M2 H2):Gr M H M2 H2:=
 ⟨h.mo,h.pre.trans g.pre,g.tmp.trans h.tmp,λa z=>(g.fresh a z).elim (h.fresh a) λz=>.inr (h.none z),λa o e n=>g.keep a o (h.keep a o e n) (λz=>by
   rcases h.fresh a z with z|z
   .exact n z
   .rw[e]at z;cases z),λa e=>g.some a (h.some a e)⟩
def Gr.grow(mo:MOk M H)(k:∀a o,H a=Gc o->H' a=Gc o):Gr M H M H':=
 ⟨mo,vk,rfl,λ_ z=>.inl z,λb u eb _=>k b u eb,λb eb z=>by
   cases h:H b with
   |none=>exact eb h
   |some o=>rw[k b o h]at z;cases z⟩
def Lr{α:Type}{xs ys:Wp α}(h:xs <+: ys){n:Nat}{a:α}(e:xs[n]?=Gc a):ys[n]?=Gc a:=by
 obtain⟨zs,rfl⟩:=h
 rw[uU (ua.mp e).1]
 exact e
def Sp1.VG(g:Sp1 M H M' H')(e:H a=Gc o)(n:¬Mob o):H' a=Gc o:=g.keep a o e λz=>by
 obtain⟨u,q,m⟩:=g.mo a z
 rw[e]at q;cases q;exact n m
def Sp1.sqT(g:Sp1 M H M' H')(h:SqT K H a xs):SqT K H' a xs:=by
 rcases h with h|h
 .rcases h with h|⟨o,h⟩
  .exact .inl (.inl (g.VG h id))
  .exact .inl (.inr ⟨o,g.VG h id⟩)
 .exact .inr h
def Sp1.nm(g:Sp1 M H M' H')(e:H a=Gc o)(n:¬M.mem a):¬M'.mem a:=λz=>by
 rcases g.fresh _ z with z|z
 .exact n z
 .rw[z]at e;cases e
def BN.step(g:Sp1 M H M' H')(h:BN K M H v d):BN K M' H' v d:=
 BN.rec (motive_1:=λv d _=>BN K M' H' v d) (motive_2:=λv d _=>Af K M' H' v d) (motive_3:=λv d _=>B6 K M' H' v d) .non .bl .int .str .ty (λh _ r=>.tup (g.sqT h) r) (λh n _ r=>.lst (g.keep _ _ h n) (g.nm h n) r) (λh=>by
  rcases h with⟨h,n⟩|h
  .rcases h with h|⟨o,h⟩
   .exact .scr (.inl ⟨.inl (g.keep _ _ h n),g.nm h n⟩)
   .exact .scr (.inl ⟨.inr ⟨o,g.keep _ _ h n⟩,g.nm h n⟩)
  .exact .scr (.inr h)) (λh n _ r=>.dct (g.keep _ _ h n) (g.nm h n) r) (λh=>.ref (Lr g.pre h)) .nil (λ_ _ h t=>.cons h t) .nil (λ_ _ h t=>.cons h t) h
def Af.ind{P:Wp V->Wp D->Prop}(n:P [] [])(c:∀{v} {d} {vs} {ds},BN K M H v d->P vs ds->P (v::vs) (d::ds))(h:Af K M H vs ds):P vs ds:=
 Af.rec (motive_1:=λ_ _ _=>AAF) (motive_2:=λv d _=>P v d) (motive_3:=λ_ _ _=>AAF) trivial (λ_=>trivial) (λ_=>trivial) (λ_=>trivial) (λ_=>trivial) (λ_ _ _=>trivial) (λ_ _ _ _=>trivial) (λ_=>trivial) (λ_ _ _ _=>trivial) (λ_=>trivial) n (λh _ _ t=>c h t) trivial (λ_ _ _ _=>trivial) h
def B6.ind{P:Wp (Key×V)->Wp (Key×D)->Prop}(n:P [] [])(c:∀{k} {v} {d} {vs} {ds},BN K M H v d->P vs ds->P ((k,v)::vs) ((k,d)::ds))(h:B6 K M H vs ds):P vs ds:=
 B6.rec (motive_1:=λ_ _ _=>AAF) (motive_2:=λ_ _ _=>AAF) (motive_3:=λv d _=>P v d) trivial (λ_=>trivial) (λ_=>trivial) (λ_=>trivial) (λ_=>trivial) (λ_ _ _=>trivial) (λ_ _ _ _=>trivial) (λ_=>trivial) (λ_ _ _ _=>trivial) (λ_=>trivial) trivial (λ_ _ _ _=>trivial) n (λh _ _ t=>c h t) h
def Af.step(g:Sp1 M H M' H')(h:Af K M H v d):Af K M' H' v d:=h.ind .nil λh t=>.cons (h.step g) t
def B6.step(g:Sp1 M H M' H')(h:B6 K M H v d):B6 K M' H' v d:=h.ind .nil λh t=>.cons (h.step g) t
def Af.length(h:Af K M H v d):v.length=d.length:=h.ind (P:=λv d=>v.length=d.length) rfl λ_ t=>congrArg (· +1) t
def Af.get{i:Nat}(h:Af K M H v d):d[i]?=Gc y->∃x,v[i]?=Gc x/\BN K M H x y:=
 h.ind (P:=λv d=>∀i,d[i]?=Gc y->∃x,v[i]?=Gc x/\BN K M H x y) (λi e=>by simp at e) (λh t i e=>by
  cases i with
  |zero=>simp at e;subst e;exact⟨_,rfl,h⟩
  |succ i=>exact t i e) i
def Af.append(h:Af K M H v d)(s:Af K M H v' d'):Af K M H (v++v') (d++d'):=h.ind (P:=λv d=>Af K M H (v++v') (d++d')) s λh t=>.cons h t
def Af.take n(h:Af K M H v d):Af K M H (v.take n) (d.take n):=h.ind (P:=λv d=>∀n,Af K M H (v.take n) (d.take n)) (λn=>by rw[List.take_nil,List.take_nil];exact .nil) (λh t n=>by
 cases n with
 |zero=>exact .nil
 |succ n=>exact .cons h (t n)) n
def Af.drop n(h:Af K M H v d):Af K M H (v.drop n) (d.drop n):=h.ind (P:=λv d=>∀n,Af K M H (v.drop n) (d.drop n)) (λn=>by rw[List.drop_nil,List.drop_nil];exact .nil) (λh t n=>by
 cases n with
 |zero=>exact .cons h (t 0)
 |succ n=>exact t n) n
theorem Af.set(r:BN K M H x y):∀{v} {d} i,Af K M H v d->Af K M H (v.set i x) (d.set i y)
 |_,_,_,.nil=>.nil
 |_,_,0,.cons _ t=>.cons r t
 |_,_,i+1,.cons q t=>.cons q (Af.set r i t)
end
abbrev En:=Wp (uS D)
abbrev Sg:=Wp (uS V)
structure EnR(K:W1)(M:Ms)(E:En)(σ:Sg)(H:Hp):Prop where
 len:E.length=σ.length
 val:∀(i:Nat) (d:D),E[i]?=Gc (Gc d)->∃v,σ[i]?=Gc (Gc v)/\BN K M H v d
noncomputable def LY(x:Str):Str:=(x++(".<locals>.":Str))++("<lambda>":Str)
def KG(K:W1)(c P:ug):Prop:=
 ∃o vs file tf flags tg inF text tt,K.lookup c=Gc o/\o.cls=AAE "code" /\o.data=Data.fields vs/\vs[11]?=Gc (u6 P)/\vs.getD 11 vL=u6 P/\vs.getD 18 vL=AAC file tf/\vs.getD 7 vL=AAB flags tg/\vs.getD 9 vL=AAD inF/\vs.getD 10 vL=AAB text tt/\c≠P
def TabAt(K:W1)(x:Str)(P:ug):Prop:=
 ∃f oc od fd osl c,vG K mainGlobals x=Gc (Gc (u6 f))/\K.lookup f=Gc ⟨oc,od,Data.func fd,osl⟩/\fd.code=u6 c/\KG K c P
def VC(q:Str)(o:Obj):Prop:=∃vs t,o.data=Data.fields vs/\vs[1]?=Gc (AAC q t)
structure SK(K:W1)(H:Hp)(x:Str)(P:ug)(ps:ym uY):Prop where
 tri:PySem.TriplesOk ps.toList
 tat:TabAt K x P
 cod:∀pos cv,PySem.codeAmong pos ps.toList=Gc cv->∃c o,cv=u6 c/\H c=Gc (.frz o (.own 0))/\VC (LY x) o
def SK.step(t:SK K H x P ps)(g:Sp1 M H M' H'):SK K H' x P ps:=⟨t.tri,t.tat,λpos cv e=>by
 obtain⟨c,o,h1,h2,h3⟩:=t.cod pos cv e
 exact⟨c,o,h1,g.VG h2 id,h3⟩⟩
def QZ(K:W1)(M:Ms)(H:Hp)(a:ug):Cl->Prop
 | .lst ds=>∃xs,H a=Gc (.lst xs)/\Af K M H xs ds
 | .dct es=>∃kvs,H a=Gc (.dK kvs)/\B6 K M H kvs es
 | .tab x=>∃ps,H a=Gc (.tbl ps)/\SK K H x a ps
 | .ins C fs=>∃Ca dx fv,vG K mainGlobals C=Gc (Gc (.ref Ca))/\H a=Gc (.ins Ca dx fv)/\H dx=Gc (.own a)/\fv.map (·.1)=fs.map (·.1)/\Af K M H (fv.map (·.2)) (fs.map (·.2))
structure StR(K:W1)(M:Ms)(S:Sto)(H:Hp):Prop where
 mo:MOk M H
 nd:M.cel.Nodup
 nt:∀a∈M.tmp,a∉M.cel
 len:M.cel.length=S.length
 cell:∀(n:Nat) (a:ug) (c:Cl),M.cel[n]?=Gc a->S[n]?=Gc c->QZ K M H a c
def QZ.step(q:QZ K M H a c)(g:Sp1 M H M' H')(k:∀o,H a=Gc o->H' a=Gc o):QZ K M' H' a c:=by
 cases c with
 |lst ds=>obtain⟨xs,e,rr⟩:=q;exact⟨xs,k _ e,rr.step g⟩
 |dct ds=>obtain⟨xs,e,rr⟩:=q;exact⟨xs,k _ e,rr.step g⟩
 |tab ds=>obtain⟨xs,e,rr⟩:=q;exact⟨xs,k _ e,rr.step g⟩
 |ins C fs=>obtain⟨Ca,dx,fv,h,e,eo,n,rr⟩:=q;exact⟨Ca,dx,fv,h,k _ e,g.VG eo id,n,rr.step g⟩
def EnR.step(r:EnR K M E σ H)(g:Sp1 M H M' H'):EnR K M' E σ H':=⟨r.len,λi d e=>by
 obtain⟨v,h1,h2⟩:=r.val i d e
 exact⟨v,h1,h2.step g⟩⟩
def StR.at(r:StR K M S H){n:Nat}(e:S[n]?=Gc c):∃a,M.cel[n]?=Gc a/\QZ K M H a c:=by
 have hn:n<M.cel.length:=by rw[r.len];exact(ua.mp e).1
 exact⟨_,uT hn,r.cell n _ c (uT hn) e⟩
def StR.grow(r:StR K M S H)(k:∀a o,H a=Gc o->H' a=Gc o):StR K M S H':=by
 have g:Sp1 M H M H':=⟨r.mo,vk,λ_ z=>.inl z,λa o e _=>k a o e⟩
 refine⟨λa z=>r.mo.at k z,r.nd,r.nt,r.len,λn a c h1 h2=>?_⟩
 exact(r.cell n a c h1 h2).step g λo e=>k _ _ e
def StR.chg(r:StR K M S H)(h1:M.cel[n]?=Gc a)(h2:S[n]?=Gc (.lst ds))(hy:Af K M H ys es):StR K M (S.set n (.lst es)) (upd H a (.lst ys))/\Gr M H M (upd H a (.lst ys)):=by
 have ha:a∈M.cel:=uw h1
 have hl:n<S.length:=(ua.mp h2).1
 have g:Gr M H M (upd H a (.lst ys)):=⟨r.mo,vk,rfl,λ_ z=>.inl z,λb o eb nb=>by rw[AM (λz=>nb (by rw[z];exact ha))];exact eb,λb eb=>by
  by_cases h:b=a
  .subst h;rw[AX];intro z;cases z
  .rw[AM h];exact eb⟩
 refine⟨⟨λb z=>?_,r.nd,r.nt,by rw[wV];exact r.len,λm b c e1 e2=>?_⟩,g⟩
 .by_cases h:b=a
  .subst h;exact⟨_,AX,trivial⟩
  .rw[AM h];exact r.mo b z
 .by_cases h:n=m
  .subst h
   rw[h1]at e1;cases e1
   rw[ui hl]at e2;cases e2
   exact⟨ys,AX,hy.step g.st⟩
  .rw[uW h]at e2
   have hb:b≠a:=λz=>by
    subst z
    exact h ((yV (ua.mp h1).1 r.nd).mp (h1.trans e1.symm))
   exact(r.cell m b c e1 e2).step g.st λo e=>by rw[AM hb];exact e
def StR.cV(r:StR K M S H)(e:H a=none)(k:∀b o,H b=Gc o->H' b=Gc o)(ea:H' a=Gc (.lst xs))(rr:Af K M H xs ds):StR K ⟨M.cel++[a],M.tmp⟩ (S++[.lst ds]) H'/\Gr M H ⟨M.cel++[a],M.tmp⟩ H':=by
 have g:Gr M H ⟨M.cel++[a],M.tmp⟩ H':=⟨r.mo,xT _ _,rfl,λb z=>by
  rcases vE.mp z with z|z
  .exact .inl z
  .simp at z;subst z;exact .inr e,λb o eb _=>k b o eb,λb eb z=>by
  cases h:H b with
  |none=>exact eb h
  |some o=>rw[k b o h]at z;cases z⟩
 have na:¬M.mem a:=λz=>r.mo.some z e
 refine⟨⟨λb z=>?_,?_,λb hb z=>?_,by simp[r.len],λm b c e1 e2=>?_⟩,g⟩
 .have z':M.mem b\/b=a:=by
   rcases z with z|z
   .rcases vE.mp z with z|z
    .exact .inl (.inl z)
    .simp at z;exact .inr z
   .exact .inl (.inr z)
  rcases z' with z|z
  .exact r.mo.at k z
  .subst z;exact⟨_,ea,trivial⟩
 .rw[yW]
  refine⟨r.nd,by simp,λx hx y hy=>?_⟩
  simp at hy;subst hy
  exact λz=>na (.inl (by rw[<-z];exact hx))
 .rcases vE.mp z with z|z
  .exact r.nt b hb z
  .simp at z;subst z;exact na (.inr hb)
 .by_cases h:m<S.length
  .rw[uU (by rw[r.len];exact h)]at e1
   rw[uU h]at e2
   exact(r.cell m b c e1 e2).step g.st λo e=>k _ _ e
  .have hm:m=S.length:=by
    have:=(ua.mp e2).1
    simp at this;lia
   subst hm
   rw[vJ (by rw[r.len];exact ue _)]at e1
   rw[vJ (ue _)]at e2
   rw[r.len]at e1
   simp at e1 e2
   subst e1 e2
   exact⟨xs,ea,rr.step g.st⟩
noncomputable def sv:uS AAq->va
 |some .local=>true
 |some .cell=>true
 |some .free=>true
 |_=>false
noncomputable def oE(sc:wY)(x:Str):va:=sv (sc.names.lookup x)
def gh(h:oE sc x=true):Vis sc x:=by
 unfold oE at h
 unfold Vis
 cases e:sc.names.lookup x with
 |none=>rw[e]at h;cases h
 |some k=>
  rw[e]at h
  cases k<;>first|(cases h;done)|simp
abbrev Ev:=En->Sto->uS (D×Sto)
inductive tD(K:W1)(f:Ev)(σ:Sg)(H:Hp)(Q:VK):Prop
 |mk (M:Ms) (E:En) (S:Sto) (d:D) (S':Sto) (e:f E S=Gc (d,S')) (r:EnR K M E σ H) (st:StR K M S H) (q:∀v H' M',Gr M H M' H'->StR K M' S' H'->BN K M' H' v d->Q v H')
structure DE(X:Cx)(e:vj)(f:Ev):Prop where
 pe:PE X e (tD X.K f)
def Ax(h:PE X e t)(m:∀σ H Q,t' σ H Q->t σ H Q):PE X e t':=λpins s σ H Q I q=>h pins s σ H Q I (m _ _ _ q)
def VP(h:PT X e t)(m:∀σ H Q,t' σ H Q->t σ H Q):PT X e t':=λpins s σ H Q I q=>h pins s σ H Q I (m _ _ _ q)
def EI(h:tD K f σ H Q)(m:∀v H',Q v H'->Q' v H'):tD K f σ H Q':=by
 obtain⟨M,E,S,d,S',e,r,st,q⟩:=h
 exact⟨M,E,S,d,S',e,r,st,λv H' M' g s r=>m _ _ (q v H' M' g s r)⟩
def Ab{α β:Type}{o:uS α}{k:α->uS β}{y:β}(e:o.bind k=Gc y):∃x,o=Gc x/\k x=Gc y:=by
 cases o with
 |none=>cases e
 |some x=>exact⟨x,rfl,e⟩
def IV{α β:Type}{o:uS α}{k:α->β}{y:β}(e:o.map k=Gc y):∃x,o=Gc x/\k x=y:=by
 cases o with
 |none=>cases e
 |some x=>cases e;exact⟨x,rfl,rfl⟩
noncomputable def fz:Wv->D
 | .val d=>d
 | .own ds=>.lst ds
noncomputable def at?(E:En)(i:Nat):uS D:=(E[i]?).join
def at?_some(h:at? E i=Gc w):E[i]?=Gc (Gc w):=by
 unfold at? at h
 cases e:E[i]? with
 |none=>rw[e]at h;cases h
 |some q=>rw[e]at h;exact congrArg Gc h
noncomputable def evs:Wp Ev->En->Sto->uS (Wp D×Sto)
 | [],_,S=>Gc ([],S)
 |f::fs,E,S=>(f E S).bind λr=>(evs fs E r.2).map λq=>(r.1::q.1,q.2)
noncomputable def tDs(K:W1):Wp Ev->TA
 | []=>ou
 |f::fs=>iR (tD K f) (tDs K fs)
structure DEs(X:Cx)(es:Wp vj)(fs:Wp Ev):Prop where
 pe:PA X es (tDs X.K fs)
def AI:DEs X [] []:=⟨NR⟩
def AD(h:DE X e f)(t:DEs X es fs)(hs:zn (uf (e::es) X.env=(false,eval e X.env)::uf es X.env) ww):DEs X (e::es) (f::fs):=⟨F6 h.pe t.pe hs⟩
section
variable{K:W1}{M M':Ms}{E:En}{S:Sto}{σ:Sg}{H H':Hp}
theorem EZ:∀{fs} {M} {S} {ds} {S'} {H} {Q},evs fs E S=Gc (ds,S')->EnR K M E σ H->StR K M S H->(∀vs H' M',Gr M H M' H'->StR K M' S' H'->Af K M' H' vs ds->Q vs H')->tDs K fs σ H Q
 | [],M,S,ds,S',H,Q,e,r,st,q=>by
   cases e
   exact q [] H M (.refl st.mo) st .nil
 |f::fs,M,S,ds,S',H,Q,e,r,st,q=>by
  obtain⟨⟨d,S1⟩,e1,e⟩:=Ab e
  obtain⟨⟨es,S2⟩,e2,e⟩:=IV e
  cases e
  refine⟨M,E,S,d,S1,e1,r,st,λv H1 M1 g1 st1 d1=>?_⟩
  exact EZ e2 (r.step g1.st) st1 λvs H2 M2 g2 st2 d2=>q _ _ M2 (g1.trans g2) st2 (.cons (d1.step g2.st) d2)
theorem Ht:∀{fs} {S} {ds} {S'},evs fs E S=Gc (ds,S')->ds.length=fs.length
 | [],_,_,_,e=>by cases e;rfl
 |f::fs,S,ds,S',e=>by
  obtain⟨⟨d,S1⟩,e1,e⟩:=Ab e
  obtain⟨⟨es,S2⟩,e2,e⟩:=IV e
  cases e
  simp[Ht e2]
def Sh(K:W1)(M:Ms)(H:Hp)(v:V):Wv->Prop
 | .val d=>BN K M H v d
 | .own ds=>∃a xs,v=.ref a/\H a=Gc (.lst xs)/\Af K M H xs ds
def ivP(K:W1)(M:Ms)(H:Hp)(v:V):D->Prop
 | .non=>v=.non
 | .bl b=>v=.bl b
 | .int i=>v=.int i
 | .str x=>v=.str x
 | .ty n=>v=.ty n
 | .tup ds=>∃a xs,v=.ref a/\SqT K H a xs/\Af K M H xs ds
 |_=>AAF
def BN.iv(h:BN K M H v d):ivP K M H v d:=by
 cases h with
 |tup h r=>exact⟨_,_,rfl,h,r⟩
 |non=>rfl
 |bl=>rfl
 |int=>rfl
 |str=>rfl
 |ty=>rfl
 |_=>trivial
inductive Shs(K:W1)(M:Ms)(H:Hp):Wp V->Wp Wv->Prop
 |nil:Shs K M H [] []
 |cons {v:V} {w:Wv} {vs:Wp V} {ws:Wp Wv} (h:Sh K M H v w) (t:Shs K M H vs ws):Shs K M H (v::vs) (w::ws)
noncomputable def dr(S:Sto):D->Wv
 | .ref n=>match S[n]? with
   |some (.lst ds)=>.own ds
   |_=>.val (.ref n)
 |d=>.val d
def aR(st:StR K M S H)(h:BN K M H v d):Sh K M H v (dr S d):=by
 cases h with
 |ref h=>
  rename_i a n
  show Sh K M H (.ref a) (match S[n]? with|some (.lst ds)=>.own ds|_=>.val (.ref n))
  split
  .rename_i ds e
   obtain⟨xs,h1,h2⟩:=st.cell n a _ h e
   exact⟨a,xs,rfl,h1,h2⟩
  .exact .ref h
 |non=>exact .non
 |bl b=>exact .bl b
 |int b=>exact .int b
 |str b=>exact .str b
 |ty b=>exact .ty b
 |tup h r=>exact .tup h r
 |lst h n r=>exact .lst h n r
 |scr h=>exact .scr h
 |dct h n r=>exact .dct h n r
theorem Zq(st:StR K M S H):∀{vs} {ds},Af K M H vs ds->Shs K M H vs (ds.map (dr S))
 |_,_,.nil=>.nil
 |_,_,.cons h t=>.cons (aR st h) (Zq st t)
def NwR(K:W1)(M:Ms)(H H':Hp)(v:V):Wv->Prop
 | .val d=>BN K M H' v d
 | .own ds=>∃a xs,v=.ref a/\H a=none/\H' a=Gc (.lst xs)/\Af K M H xs ds
structure Nw(K:W1)(M:Ms)(H H':Hp)(v:V)(w:Wv):Prop where
 grow:∀a o,H a=Gc o->H' a=Gc o
 rel:NwR K M H H' v w
def Nw.same(mo:MOk M H)(h:BN K M H v d):Nw K M H H v (.val d):=⟨λ_ _ e=>e,h⟩
def CP(e:H a=none):∀b u,H b=Gc u->upd H a o b=Gc u:=λb u eb=>by rw[AM (λz=>by subst z;rw[e]at eb;cases eb)];exact eb
def Nw.lst(mo:MOk M H)(e:H a=none)(h:Af K M H xs ds):Nw K M H (upd H a (.lst xs)) (.ref a) (.own ds):=⟨CP e,a,xs,rfl,e,AX,h⟩
def Nw.tup(mo:MOk M H)(e:H a=none)(h:Af K M H xs ds):Nw K M H (upd H a (.tup xs)) (.ref a) (.val (.tup ds)):=⟨CP e,.tup (.of AX) (h.step (Gr.grow mo (CP e)).st)⟩
noncomputable def fin:va->Wv->Sto->uS (D×Sto)
 |_,.val d,S=>Gc (d,S)
 |false,.own ds,S=>Gc (.lst ds,S)
 |true,.own ds,S=>Gc (.ref S.length,S++[.lst ds])
def Nw.fin(n:Nw K M H H' v w)(st:StR K M S H)(e:fin c w S=Gc (d,S')):∃M',Gr M H M' H'/\StR K M' S' H'/\BN K M' H' v d:=by
 cases w with
 |val d'=>
  cases e
  exact⟨M,.grow st.mo n.grow,st.grow n.grow,n.rel⟩
 |own ds=>
  obtain⟨a,xs,rfl,h1,h2,h3⟩:=n.rel
  cases c with
  |false=>
   cases e
   exact⟨M,.grow st.mo n.grow,st.grow n.grow,.lst h2 (λz=>st.mo.some z h1) (h3.step (Gr.grow st.mo n.grow).st)⟩
  |true=>
   cases e
   obtain⟨s1,g1⟩:=st.cV h1 n.grow h2 h3
   refine⟨_,g1,s1,.ref ?_⟩
   rw[<-st.len]
   exact uz
abbrev Op1:=Wv->uS Wv
abbrev Op2:=Wv->Wv->uS Wv
abbrev OpN:=Wp Wv->uS Wv
inductive rOp(K:W1)(op:Op2)(x y:V)(H:Hp)(Q:VK):Prop
 |mk (M:Ms) (w1 w2 r:Wv) (e:op w1 w2=Gc r) (mo:MOk M H) (s1:Sh K M H x w1) (s2:Sh K M H y w2) (q:∀v H',Nw K M H H' v r->Q v H')
inductive rUn(K:W1)(op:Op1)(x:V)(H:Hp)(Q:VK):Prop
 |mk (M:Ms) (w r:Wv) (e:op w=Gc r) (mo:MOk M H) (s:Sh K M H x w) (q:∀v H',Nw K M H H' v r->Q v H')
inductive rN(K:W1)(op:OpN)(xs:Wp V)(H:Hp)(Q:VK):Prop
 |mk (M:Ms) (ws:Wp Wv) (r:Wv) (e:op ws=Gc r) (mo:MOk M H) (s:Shs K M H xs ws) (q:∀v H',Nw K M H H' v r->Q v H')
noncomputable def Oz(c:va)(op:OpN)(fs:Wp Ev):Ev:=λE S=>(evs fs E S).bind λr=>(op (r.1.map (dr r.2))).bind λw=>fin c w r.2
abbrev eOp:=Oz false
abbrev fE:=Oz true
noncomputable def o1(op:Op1):OpN| [a]=>op a|_=>none
noncomputable def o2(op:Op2):OpN| [a,b]=>op a b|_=>none
def NP(e:Oz c op fs E S=Gc (d,S'))(r:EnR K M E σ H)(st:StR K M S H)(h:∀v H' M',Gr M H M' H'->StR K M' S' H'->BN K M' H' v d->Q v H'):tDs K fs σ H λvs H1=>rN K op vs H1 Q:=by
 obtain⟨⟨ds,S1⟩,e1,e⟩:=Ab e
 obtain⟨w,e2,e⟩:=Ab e
 refine EZ e1 r st λvs H1 M1 g1 st1 d1=>⟨M1,_,w,e2,st1.mo,Zq st1 d1,λv H2 n=>?_⟩
 obtain⟨M2,g2,st2,d2⟩:=n.fin st1 e
 exact h v H2 M2 (g1.trans g2) st2 d2
end
def gH(h:rN K (o2 f) [x,y] H Q):rOp K f x y H Q:=by
 obtain⟨M,ws,r,e,mo,s,q⟩:=h
 cases s with
 |cons h1 s=>
  cases s with
  |cons h2 s=>
   cases s
   exact⟨M,_,_,r,e,mo,h1,h2,q⟩
def iu(h:rN K (o1 f) [x] H Q):rUn K f x H Q:=by
 obtain⟨M,ws,r,e,mo,s,q⟩:=h
 cases s with
 |cons h1 s=>
  cases s
  exact⟨M,_,r,e,mo,h1,q⟩
def SD(h:tD K (Oz c (o2 f) [fa,fb]) σ H Q):tOp (rOp K f) (tD K fa) (tD K fb) σ H Q:=by
 obtain⟨M,E,S,d,S',e,r,st,q⟩:=h
 have z:tD K fa σ H λx H1=>tD K fb σ H1 λy H2=>rN K (o2 f) [x,y] H2 Q:=NP (Q:=Q) e r st q
 exact EI z λx H1 z1=>EI z1 λy H2 z2=>gH z2
def Vs(h:tD K (Oz c (o1 f) [fa]) σ H Q):tUn (rUn K f) (tD K fa) σ H Q:=by
 obtain⟨M,E,S,d,S',e,r,st,q⟩:=h
 have z:tD K fa σ H λx H1=>rN K (o1 f) [x] H1 Q:=NP (Q:=Q) e r st q
 exact EI z λx H1 z1=>iu z1
section
variable{X:Cx}{a b e:vj}{fs:Wp Ev}{pos p:Pos}{c:va}
def Po(ho:OpR X (binaryOp op) (rOp X.K f))(ha:DE X a fa)(hb:DE X b fb):DE X (.BinOp a op b pos) (Oz c (o2 f) [fa,fb]):=⟨Ax (oG ho ha.pe hb.pe) λ_ _ _ h=>SD h⟩
def O0(ho:OpR X (compareOp op) (rOp X.K f))(ha:DE X a fa)(hb:DE X b fb)(hm:zn (behindInMarks op b=false) ww):DE X (.Compare a [op] [b] pos) (Oz c (o2 f) [fa,fb]):=⟨Ax (bw ho ha.pe hb.pe hm) λ_ _ _ h=>SD h⟩
def pR(ho:UnR X (unaryOp op) (rUn X.K f))(ha:DE X a fa):DE X (.UnaryOp op a pos) (Oz c (o1 f) [fa]):=⟨Ax (qA ho ha.pe) λ_ _ _ h=>Vs h⟩
def Fd(hr:IxR X (rOp X.K f))(ha:DE X a fa)(hb:DE X b fb)(hs:zn (Oo b) wp):DE X (.Subscript a b pos) (Oz c (o2 f) [fa,fb]):=⟨Ax (cF hr ha.pe hb.pe hs) λ_ _ _ h=>SD h⟩
def DH{id:yE}(hc:Eg X (.builtin id) (rN X.K f))(hg:Gl X x)(hm:X.mg x=none)(hv:bootBuiltins x=Gc (.builtin id))(ha:DEs X (e::es) fs)(hn:zn (x≠ "__name__") xz)(hdb:zn ((x==("__debug__":Str))=false) xz)(he:zn (uf (e::es) X.env=(false,eval e X.env)::uf es X.env) ww)(hpl:zn ((backTo pos (uf es X.env)).any (·.1)=false) ww):DE X (.Call (.Name x p) (e::es) [] pos) (Oz c f fs):=⟨
 Ax (XM hc hg hm hv ha.pe hn hdb he hpl) λ_ _ _ h=>by
  obtain⟨M,E,S,d,S',e,r,st,q⟩:=h
  exact NP e r st q⟩
def Ug(hc:Eg X (.type T) (rN X.K f))(hg:Gl X x)(hm:X.mg x=none)(hv:bootBuiltins x=Gc (.type T))(ha:DEs X (e::es) fs)(hn:zn (x≠ "__name__") xz)(hdb:zn ((x==("__debug__":Str))=false) xz)(he:zn (uf (e::es) X.env=(false,eval e X.env)::uf es X.env) ww)(hpl:zn ((backTo pos (uf es X.env)).any (·.1)=false) ww):DE X (.Call (.Name x p) (e::es) [] pos) (Oz c f fs):=⟨
 Ax (Vz hc hg hm hv ha.pe hn hdb he hpl) λ_ _ _ h=>by
  obtain⟨M,E,S,d,S',e,r,st,q⟩:=h
  exact NP e r st q⟩
noncomputable def eC(d:D):Ev:=λ_ S=>Gc (d,S)
def Pm(h:PE X e (tC v))(r:∀K M H,BN K M H v d):DE X e (eC d):=⟨Ax h λσ H Q z=>by
 obtain⟨M,E,S,w,S',e,rr,st,q⟩:=z
 cases e
 exact q _ _ M (.refl st.mo) st (r _ _ _)⟩
def BR:DE X (.Constant (.int i) j pos) (eC (.int i)):=Pm jq λ_ _ _=>.int _
def Qt:DE X (.Constant (.bool i) j pos) (eC (.bl i)):=Pm ni λ_ _ _=>.bl _
def DV:DE X (.Constant (.str i) j pos) (eC (.str i)):=Pm Nf λ_ _ _=>.str _
def Jk:DE X (.Constant .none j pos) (eC .non):=Pm kJ λ_ _ _=>.non
noncomputable def eV(i:Nat):Ev:=λE S=>(at? E i).map λd=>(d,S)
def AH i(hN:zn (X.N[i]?=Gc x) ww)(hv:zn (oE X.env.scope x=true) ww)(hd:zn ((x==("__debug__":Str))=false) xz)(hcd:zn ((x==("__classdict__":Str))=false) xz):DE X (.Name x pos) (eV i):=⟨Ax (Ig hN (gh hv) hd hcd) λσ H Q z=>by
 obtain⟨M,E,S,d,S',e,r,st,q⟩:=z
 obtain⟨d',e1,e⟩:=IV e
 cases e
 obtain⟨v,hv,rd⟩:=r.val i d (at?_some e1)
 exact⟨v,hv,q v H M (.refl st.mo) st rd⟩⟩
end
def HA:fillsNumberSlot (.type "tuple") "mul"=pure false:=
 fillsNumberSlot_seq (id:="tuple.__mul__") (r:=Gc (.builtin "tuple.__rmul__")) zV.lookup (by decide+kernel) F.slot_tuple_rmul.lookup (by decide+kernel)
def K2:seqRepeat? (.type "tuple")=pure (Gc (.builtin "tuple.__mul__")):=by
 unfold seqRepeat?
 rw[seqSlot_of (T:="tuple") (name:="__mul__") (id:="tuple.__mul__") zV.lookup (by decide+kernel),seqSlot_of (T:="tuple") (name:="__rmul__") (id:="tuple.__rmul__") F.slot_tuple_rmul.lookup (by decide+kernel)]
 rfl
def Io a(t:Tok) l items n dd sl:Meets (zI.«int.__rmul__» ⟨[.int a t,.ref l],[]⟩) (λ_ R s=>s.heap.get? l=Gc {cls:=.type "tuple",dict:=dd,data:=.seq items n,slots:=sl}/\R (.ok (.ret Value.notImplemented)) s):=
 .of_wp λprog w A R s h=>by obtain⟨hp,g,d,tk,os⟩:=s;obtain⟨hl,h⟩:=h;wp_walk;exact⟨_,rfl,h⟩
def PM(its:Wp uY) m:AB5 (λx1 x2=>x1++x2) #[] (uq m its.toArray)=(uq m its).flatten.toArray:=by
 have:=foldl_rep its m []
 rw[vK]at this
 exact this
def cM:OpR X (binaryOp .Mult) (λx y H Q=>∃a xs k,x=.ref a/\y=.int k/\SqT X.K H a xs/\xs≠[]/\1<=k/\xs.length*k.toNat<=sizeLine/\(k=1->Q (.ref a) H)/\(k≠1->∀p,H p=none->Q (.ref p) (upd H p (.tup (uq k.toNat xs).flatten)))):=by
 intro pins s σ H x y v u Q I rx ry h
 obtain⟨a,xs,k,rfl,rfl,hx,hne,hk,hz,q1,q2⟩:=h
 cases rx
 obtain⟨t,rfl⟩:=ry
 obtain⟨its,r,⟨⟨c,dd,data,sl⟩,ho,hc,n,hd⟩,hzz⟩:=I.tuple hx
 simp only at hc hd
 subst hc hd
 have hl:=r.length
 have hsz:its.toArray.size=xs.length:=by rw[ur];exact hl.symm
 have hpos:0<xs.length:=ABn.mpr hne
 have hkl:k.toNat<=sizeLine:=ub (Nat.le_mul_of_pos_left _ hpos) hz
 have hk63:k<2^63:=by
  have:(sizeLine:Nat)<2^63:=by decide
  lia
 refine yh (T:="tuple") (U:="int") (by decide) ⟨_,ho,rfl⟩ (λs'=>zT s' k t) HA ABE yL K2 AAt.lookup
  (zU yL (zT s k t) AAu (AAd _ _) (Io k t a its.toArray n dd sl) ⟨ho,rfl,⟨_,ho,rfl⟩,?_⟩)
 refine wm zV ⟨_,ho,rfl⟩ F.entry_tuple_mul ?_ (AB8 _ _)
 unfold zI.«tuple.__mul__»
 wp_walk using vA ho
 rw[vC (show¬(decide (k< -2^63)||decide (k≥2^63))=true by
  rw[vw]
  rintro (z|z)
  .have:=uu z;lia
  .have:=uu z;lia)]
 wp_walk using vA ho
 by_cases h1:k=1
 .subst h1
  rw[vD (show(its.toArray.isEmpty||(1:Int)==1)=true by simp)]
  wp_walk using vA ho
  exact⟨_,rfl,.ref a,H,I,rfl,q1 rfl⟩
 .have hemp:its.toArray.isEmpty=false:=by
   cases its with
   |nil=>rw[xg]at hl;lia
   |cons b bs=>rfl
  rw[vC (show¬(its.toArray.isEmpty||k==1)=true by rw[hemp];simpa using h1)]
  wp_walk using vA ho
  have hmul:((its.toArray.size:Int)*k)=((xs.length*k.toNat:Nat):Int):=by
   rw[hsz,ABG]
   congr 1
   lia
  rw[vC (show¬(decide (k<=0)||its.toArray.isEmpty)=true by
   rw[hemp,Bool.or_false]
   intro z
   have:=uu z
   lia)]
  wp_walk
  rw[vC (show¬((its.toArray.size:Int)*k>(2^63-1) / 8) by
   rw[hmul]
   have:(sizeLine:Nat)<=(2^63-1) / 8:=by decide
   lia)]
  wp_walk
  rw[vC (show¬AAQ ((its.toArray.size:Int)*k)=true by
   unfold AAQ
   rw[hmul]
   intro z
   have:=uu z
   lia)]
  rw[PM]
  wp_walk
  have hlen:(uq k.toNat its).flatten.length<=sizeLine:=by rw[len_rep,yG,<-hl];exact hz
  rw[vC (show¬((uq k.toNat its).flatten.toArray.size>sizeLine) by rw[ur];lia)]
  wp_walk
  refine⟨_,rfl,.ref _,_,I.laid (o:=.tup (uq k.toNat xs).flatten) (t':=s.toks) (λb ob q=>uR _ q) (ue _) ?_,rfl,q2 h1 _ (I.hok.fresh (ue _))⟩
  exact⟨by rw[len_rep,yG];exact hz,_,r.rep k.toNat,yj _ _⟩
mutual
noncomputable def D.py:D->PyData
 | .non=>.none| .bl b=>.bool b| .int i=>.int i| .str x=>.str x| .ty _=>.none
 | .tup ds=>.tuple (D.pys ds)| .lst ds=>.list (D.pys ds)| .dct _=>.none| .scr _=>.none| .ref _=>.none
noncomputable def D.pys:Wp D->Wp PyData
 | []=>[]
 |d::ds=>D.py d::D.pys ds
end
mutual
noncomputable def D.lay:D->va
 | .non=>true| .bl _=>true| .int _=>true| .str x=>yQ x| .ty _=>false| .dct _=>false| .scr _=>false| .ref _=>false
 | .tup ds=>D.Ov ds| .lst ds=>D.Ov ds
noncomputable def D.Ov:Wp D->va
 | []=>true
 |d::ds=>D.lay d && D.Ov ds
end
mutual
theorem Kc:∀{d:D},d.lay=true->d.py.canLay0=true
 | .non,_=>rfl
 | .bl _,_=>rfl
 | .int _,_=>rfl
 | .str x,h=>h
 | .ty _,h=>wt h
 | .dct _,h=>wt h
 | .scr _,h=>wt h
 | .ref _,h=>wt h
 | .tup ds,h=>by show zK (D.pys ds)=true;exact Oi h
 | .lst ds,h=>by show zK (D.pys ds)=true;exact Oi h
theorem Oi:∀{ds:Wp D},D.Ov ds=true->zK (D.pys ds)=true
 | [],_=>rfl
 |d::ds,h=>by
  have h':(D.lay d && D.Ov ds)=true:=h
  rw[uc]at h'
  show(PyData.canLay0 d.py && zK (D.pys ds))=true
  rw[Kc h'.1,Oi h'.2];rfl
end
section
variable{X:Cx}{pins:Wp (ug×Obj)}{σ:Sg}{H:Hp}{s:uj}{M:Ms}
def L8(I:Inv X pins σ H s)(h:Rd H a (.lst xs)):∃its,Vals xs its/\∃o n,s.heap.get? a=Gc o/\o.cls=.type "list" /\o.data=.seq its.toArray n:=by
 obtain⟨z,its,n,r,e⟩:=h.ok I.hok
 exact⟨its,r,_,n,e,rfl,rfl⟩
def BN.reads(I:Inv X pins σ H s)(h:BN X.K M H v d):∀{u},RelV v u->d.lay=true->∃as,Reads s.heap u d.py as:=
 BN.rec (motive_1:=λv d _=>∀{u:uY},RelV v u->d.lay=true->∃as,Reads s.heap u d.py as) (motive_2:=λvs ds _=>∀{us:Wp uY},Vals vs us->D.Ov ds=true->∃as,ReadsAll s.heap us (D.pys ds) as) (motive_3:=λ_ _ _=>AAF)
  (λr _=>by cases r;exact⟨_,.none⟩) (λb _ r _=>by cases r;exact⟨_,.bool b⟩) (λb _ r _=>by obtain⟨t,rfl⟩:=r;exact⟨_,.int b t⟩) (λb _ r _=>by obtain⟨t,rfl⟩:=r;exact⟨_,.str b t⟩) (λ_ _ _ h=>wt h)
  (fun h _ ih _ r hl => by
    cases r
    obtain⟨its,rv,⟨o,e,hc,n,hd⟩,_⟩:=I.tuple h
    obtain⟨as,ra⟩:=ih rv hl
    exact⟨as,.tuple e hc hd ra⟩)
  (fun h _ _ ih _ r hl => by
    cases r
    obtain⟨its,rv,o,n,e,hc,hd⟩:=L8 I (.inl h)
    obtain⟨as,ra⟩:=ih rv hl
    exact⟨_,.list e hc hd ra⟩)
  (λ_ _ _ h=>wt h) (λ_ _ _ _ _ _ h=>wt h) (λ_ _ _ h=>wt h)
  (fun r _ => by cases r; exact ⟨_, .nil⟩) (fun {v d vs ds} _ _ ih1 ih2 _ r hl => by
    cases r with
    |cons r1 r2=>
     have hl':(D.lay d && D.Ov ds)=true:=hl
     rw[uc]at hl'
     obtain⟨as,ra⟩:=ih1 r1 hl'.1
     obtain⟨bs,rb⟩:=ih2 r2 hl'.2
     exact⟨_,.cons ra rb⟩) trivial (λ_ _ _ _=>trivial) h
def Af.reads(I:Inv X pins σ H s)(h:Af X.K M H vs ds):∀{us},Vals vs us->D.Ov ds=true->∃as,ReadsAll s.heap us (D.pys ds) as:=
 h.ind (P:=λvs ds=>∀{us:Wp uY},Vals vs us->D.Ov ds=true->∃as,ReadsAll s.heap us (D.pys ds) as) (λr _=>by cases r;exact⟨_,.nil⟩) (λ{v d vs ds} h ih2 _ r hl=>by
  cases r with
  |cons r1 r2=>
   have hl':(D.lay d && D.Ov ds)=true:=hl
   rw[uc]at hl'
   obtain⟨as,ra⟩:=h.reads I r1 hl'.1
   obtain⟨bs,rb⟩:=ih2 r2 hl'.2
   exact⟨_,.cons ra rb⟩)
end
noncomputable def deq(a b:D):va:=PyData.eqv a.py b.py
noncomputable def Ou(a b:D):va:=a.lay && b.lay && decide (min a.py.depth b.py.depth<=60)
noncomputable def wEq:Op2:=λa b=>if Ou (fz a) (fz b)=true then Gc (.val (.bl (deq (fz a) (fz b))))else none
noncomputable def wNe:Op2:=λa b=>if Ou (fz a) (fz b)=true then Gc (.val (.bl (!deq (fz a) (fz b))))else none
section
variable{X:Cx}
def Sh.reads{pins:Wp (ug×Obj)}{σ:Sg}(h:Sh X.K M H v w)(I:Inv X pins σ H s)(r:RelV v u)(hl:(fz w).lay=true):∃as,Reads s.heap u (fz w).py as:=by
 cases w with
 |val d=>exact BN.reads I h r hl
 |own ds=>
  obtain⟨a,xs,rfl,h1,h2⟩:=h
  cases r
  obtain⟨its,rv,o,n,e,hc,hd⟩:=L8 I (.inl h1)
  obtain⟨as,ra⟩:=Af.reads I h2 rv hl
  exact⟨_,.list e hc hd ra⟩
def NQ(hu:X.A.units+100<cLine):OpR X (compareOp .Eq) (rOp X.K wEq):=by
 intro pins s σ H x y v u Q I rx ry h
 obtain⟨M,w1,w2,r,e,mo,s1,s2,q⟩:=h
 unfold wEq at e
 split at e
 .rename_i hk
  unfold Ou at hk
  rw[uc,uc]at hk
  cases e
  obtain⟨as,ra⟩:=s1.reads I rx hk.1.1
  obtain⟨bs,rb⟩:=s2.reads I ry hk.1.2
  have hd:=uu hk.2
  exact SeqAt.compareEq_reads ra rb (Kc hk.1.1) (Kc hk.1.2) (by lia) ⟨.bl _,H,I,rfl,q _ _ (.same mo (.bl _))⟩
 .cases e
def Q7(hu:X.A.units+100<cLine):OpR X (compareOp .NotEq) (rOp X.K wNe):=by
 intro pins s σ H x y v u Q I rx ry h
 obtain⟨M,w1,w2,r,e,mo,s1,s2,q⟩:=h
 unfold wNe at e
 split at e
 .rename_i hk
  unfold Ou at hk
  rw[uc,uc]at hk
  cases e
  obtain⟨as,ra⟩:=s1.reads I rx hk.1.1
  obtain⟨bs,rb⟩:=s2.reads I ry hk.1.2
  have hd:=uu hk.2
  exact SeqAt.compareNe_reads ra rb (Kc hk.1.1) (Kc hk.1.2) (by lia) ⟨.bl _,H,I,rfl,q _ _ (.same mo (.bl _))⟩
 .cases e
noncomputable def wI2(f:Int->Int->uS D):Op2
 | .val (.int i),.val (.int j)=>(f i j).map .val
 |_,_=>none
def RA(o:OpR X g (rI C h))(hf:∀i j d,f i j=Gc d->C i j/\∀K M H,BN K M H (h i j) d):OpR X g (rOp X.K (wI2 f)):=by
 intro pins s σ H x y v u Q I rx ry hh
 obtain⟨M,w1,w2,r,e,mo,s1,s2,q⟩:=hh
 unfold wI2 at e
 split at e
 .obtain rfl:=BN.iv s1
  obtain rfl:=BN.iv s2
  rename_i i j
  cases e1:f i j with
  |none=>rw[e1]at e;cases e
  |some d=>
   rw[e1]at e
   cases e
   obtain⟨c,rd⟩:=hf i j d e1
   exact o pins s σ H _ _ v u Q I rx ry ⟨i,j,rfl,rfl,c,q _ _ (.same mo (rd _ _ _))⟩
 .cases e
def MI(o:OpR X g (rI0 h))(hf:∀i j d,f i j=Gc d->∀K M H,BN K M H (h i j) d):OpR X g (rOp X.K (wI2 f)):=by
 intro pins s σ H x y v u Q I rx ry hh
 obtain⟨M,w1,w2,r,e,mo,s1,s2,q⟩:=hh
 unfold wI2 at e
 split at e
 .obtain rfl:=BN.iv s1
  obtain rfl:=BN.iv s2
  rename_i i j
  cases e1:f i j with
  |none=>rw[e1]at e;cases e
  |some d=>
   rw[e1]at e
   cases e
   exact o pins s σ H _ _ v u Q I rx ry ⟨i,j,rfl,rfl,q _ _ (.same mo (hf i j d e1 _ _ _))⟩
 .cases e
noncomputable def QL:Op2:=wI2 λi j=>Gc (.int (i-j))
noncomputable def Zf:Nat:=2^60000
noncomputable def Ff:Nat:=2^8000
noncomputable def Dj(i j:Int):va:=decide (i.natAbs<2^64)||(decide (j.natAbs<2^64)||(decide (i.natAbs<Zf) && decide (j.natAbs<Zf)))
def du:OpR X (binaryOp .Mult) (rI (λi j=>Dj i j=true) λi j=>.int (i*j)):=by
 intro pins s σ H x y v u Q I rx ry h
 obtain⟨i,j,rfl,rfl,hk,q⟩:=h
 unfold Dj at hk
 rw[vw,vw,uc]at hk
 rcases hk with hk|hk|hk
 .have:=uu hk
  exact ZH pins s σ H _ _ v u Q I rx ry ⟨i,j,rfl,rfl,.inl ⟨by lia,by lia⟩,q⟩
 .have:=uu hk
  exact ZH pins s σ H _ _ v u Q I rx ry ⟨i,j,rfl,rfl,.inr ⟨by lia,by lia⟩,q⟩
 .have h1:i.natAbs<2^60000:=uu hk.1
  have h2:j.natAbs<2^60000:=uu hk.2
  obtain⟨t1,rfl⟩:=rx
  obtain⟨t2,rfl⟩:=ry
  exact PyProof.Rows.mul_int ⟨.int _,H,I.tok _,⟨_,rfl⟩,q⟩ (PyProof.Rows.mulOk_of_bits (m:=60000) (n:=60000) (ABX.mpr h1) (ABX.mpr h2) (by decide))
noncomputable def p0:Op2:=wI2 λi j=>if Dj i j=true then Gc (.int (i*j))else none
noncomputable def Oa:Op2:=wI2 λi j=>if(decide (0<j) && decide (j.natAbs<Ff))=true then Gc (.int (i / j))else none
noncomputable def Ox:Op2:=wI2 λi j=>if 0<j then Gc (.int (i % j))else none
noncomputable def ky:Op2:=wI2 λi j=>if(decide (0<=j) && decide (j<=1000) && decide (i.natAbs<2^64))=true then Gc (.int (i^j.toNat))else none
noncomputable def wLt:Op2:=wI2 λi j=>Gc (.bl (decide (i<j)))
noncomputable def wLe:Op2:=wI2 λi j=>Gc (.bl (decide (i<=j)))
noncomputable def wGt:Op2:=wI2 λi j=>Gc (.bl (decide (j<i)))
noncomputable def wGe:Op2:=wI2 λi j=>Gc (.bl (decide (j<=i)))
def pd:OpR X (binaryOp .Sub) (rOp X.K QL):=MI iI λi j d e K M H=>by cases e;exact .int _
def Z9:OpR X (binaryOp .Mult) (rOp X.K p0):=RA du λi j d e=>by
 split at e
 .rename_i hk
  cases e
  exact⟨hk,λ_ _ _=>.int _⟩
 .cases e
def lX:OpR X (binaryOp .FloorDiv) (rOp X.K Oa):=RA St.YT λi j d e=>by
 split at e
 .rename_i hk
  rw[uc]at hk
  cases e
  exact⟨⟨uu hk.1,uu hk.2⟩,λ_ _ _=>.int _⟩
 .cases e
def dO:OpR X (binaryOp .Mod) (rOp X.K Ox):=RA i0 λi j d e=>by
 split at e
 .rename_i hk
  cases e
  exact⟨hk,λ_ _ _=>.int _⟩
 .cases e
def mn:OpR X (binaryOp .Pow) (rOp X.K ky):=RA iX λi j d e=>by
 split at e
 .rename_i hk
  rw[uc,uc]at hk
  cases e
  have:=uu hk.1.2
  exact⟨⟨uu hk.1.1,by lia,uu hk.2⟩,λ_ _ _=>.int _⟩
 .cases e
def qi:OpR X (compareOp .Lt) (rOp X.K wLt):=MI iO λi j d e K M H=>by cases e;exact .bl _
def qK:OpR X (compareOp .LtE) (rOp X.K wLe):=MI Xe λi j d e K M H=>by cases e;exact .bl _
def kI:OpR X (compareOp .Gt) (rOp X.K wGt):=MI nX λi j d e K M H=>by cases e;exact .bl _
def qH:OpR X (compareOp .GtE) (rOp X.K wGe):=MI nB λi j d e K M H=>by cases e;exact .bl _
noncomputable def asL:Wv->uS (Wp D)
 | .own ds=>Gc ds
 | .val (.lst ds)=>Gc ds
 |_=>none
noncomputable def asT:Wv->uS (Wp D)
 | .val (.tup ds)=>Gc ds
 |_=>none
noncomputable def asC:Wv->uS (Wp D)
 | .val (.scr ns)=>Gc (ns.map .int)
 |_=>none
noncomputable def asS(w:Wv):uS (Wp D):=(asL w).or ((asT w).or (asC w))
section
variable{K:W1}{M:Ms}{H:Hp}{v:V}{w:Wv}{ds:Wp D}
def Sh.l(h:Sh K M H v w)(e:asL w=Gc ds):∃a xs,v=.ref a/\H a=Gc (.lst xs)/\Af K M H xs ds:=by
 cases w with
 |own es=>cases e;obtain⟨a,xs,rfl,h1,h2⟩:=h;exact⟨a,xs,rfl,h1,h2⟩
 |val d=>
  cases d<;>first|(cases e;done)|skip
  cases e
  cases h with
  |lst h n r=>exact⟨_,_,rfl,h,r⟩
def Sh.t(h:Sh K M H v w)(e:asT w=Gc ds):∃a xs,v=.ref a/\SqT K H a xs/\Af K M H xs ds:=by
 cases w with
 |own es=>cases e
 |val d=>
  cases d<;>first|(cases e;done)|skip
  cases e
  cases h with
  |tup h r=>exact⟨_,_,rfl,h,r⟩
theorem LH:∀{ns:Wp Int},Af K M H (ns.map V.int) (ns.map D.int)
 | []=>.nil
 |n::ns=>.cons (.int n) LH
def Sh.c(h:Sh K M H v w)(e:asC w=Gc ds):∃a xs,v=.ref a/\SqL K H a xs/\Af K M H xs ds:=by
 cases w with
 |own es=>cases e
 |val d=>
  cases d<;>first|(cases e;done)|skip
  cases e
  cases h with
  |scr h=>
   refine⟨_,_,rfl,?_,LH⟩
   rcases h with h|h
   .exact .inl h.1
   .exact .inr h
def Sh.s(h:Sh K M H v w)(e:asS w=Gc ds):∃a xs,v=.ref a/\(SqL K H a xs\/SqT K H a xs)/\Af K M H xs ds:=by
 unfold asS at e
 cases e1:asL w with
 |some es=>
  rw[e1]at e
  cases e
  obtain⟨a,xs,h1,h2,h3⟩:=h.l e1
  exact⟨a,xs,h1,.inl (.of h2),h3⟩
 |none=>
  rw[e1]at e
  cases e2:asT w with
  |some es=>
   rw[e2]at e
   cases e
   obtain⟨a,xs,h1,h2,h3⟩:=h.t e2
   exact⟨a,xs,h1,.inr h2,h3⟩
  |none=>
   rw[e2]at e
   obtain⟨a,xs,h1,h2,h3⟩:=h.c e
   exact⟨a,xs,h1,.inl h2,h3⟩
end
noncomputable def Eu:Op1:=λw=>match w with
 | .val (.str z)=>if z.length<=sizeLine then Gc (.val (.int z.length))else none
 |_=>(asS w).map λds=>.val (.int ds.length)
def Dw:Eg X (.builtin "len") (rN X.K (o1 Eu)):=by
 intro pins s σ H xs us Q I r h
 obtain⟨M,ws,w,e,mo,sh,q⟩:=h
 cases sh with
 |nil=>cases e
 |cons h1 t=>
  cases t with
  |cons h2 t=>cases e
  |nil=>
   rename_i v w1
   have e':Eu w1=Gc w:=e
   unfold Eu at e'
   split at e'
   .split at e'
    .rename_i z hz
     cases e'
     cases h1
     exact Pa pins s σ H _ us Q I r ⟨z,rfl,hz,q _ _ (.same mo (.int _))⟩
    .cases e'
   .cases e1:asS w1 with
    |none=>rw[e1]at e';cases e'
    |some ds=>
     rw[e1]at e'
     cases e'
     obtain⟨a,ys,rfl,h3,h4⟩:=h1.s e1
     refine Pf pins s σ H _ us Q I r ⟨a,ys,rfl,h3,q _ _ ?_⟩
     rw[h4.length]
     exact .same mo (.int _)
noncomputable def wIx:Op2:=λa b=>match a,b with
 |a,.val (.int i)=>(asS a).bind λds=>(atI ds i).map .val
 |_,_=>none
def bE(h:Af K M H xs ds)(e:atI ds i=Gc d):∃x,atI xs i=Gc x/\BN K M H x d:=by
 unfold atI at e⊢
 rw[h.length]
 cases e1:ixN ds.length i with
 |none=>rw[e1]at e;cases e
 |some j=>
  rw[e1]at e
  exact h.get e
def Mq:IxR X (rOp X.K wIx):=by
 intro value slice pins s σ H x y v u Q I rx ry h hs
 obtain⟨M,w1,w2,r,e,mo,s1,s2,q⟩:=h
 unfold wIx at e
 split at e
 .rename_i i
  cases e1:asS w1 with
  |none=>rw[e1]at e;cases e
  |some ds=>
   rw[e1]at e
   simp only[AAx]at e
   cases e2:atI ds i with
   |none=>rw[e2]at e;cases e
   |some d=>
    rw[e2]at e
    cases e
    obtain rfl:=BN.iv s2
    obtain⟨a,ys,rfl,h3,h4⟩:=s1.s e1
    obtain⟨z,h5,h6⟩:=bE h4 e2
    rcases h3 with h3|h3
    .exact cI value slice pins s σ H _ _ v u Q I rx ry ⟨a,ys,i,z,rfl,rfl,h3,h5,q _ _ (.same mo h6)⟩ hs
    .exact kC value slice pins s σ H _ _ v u Q I rx ry ⟨a,ys,i,z,rfl,rfl,h3,h5,q _ _ (.same mo h6)⟩ hs
 .cases e
end
section
variable{X:Cx}
noncomputable def asI:Wv->uS Int
 | .val (.int i)=>Gc i
 |_=>none
noncomputable def asX:Wv->uS Str
 | .val (.str x)=>Gc x
 |_=>none
def Pq(e:asI w=Gc i):w=.val (.int i):=by
 cases w with
 |own=>cases e
 |val d=>cases d with
  |int=>cases e;rfl
  |_=>cases e
def Yx(e:asX w=Gc i):w=.val (.str i):=by
 cases w with
 |own=>cases e
 |val d=>cases d with
  |str=>cases e;rfl
  |_=>cases e
def RI(e:asT w=Gc i):w=.val (.tup i):=by
 cases w with
 |own=>cases e
 |val d=>cases d with
  |tup=>cases e;rfl
  |_=>cases e
noncomputable def Sn{α β:Type}(f:Wv->uS α)(g:α->α->uS β)(h:uS β)(a b:Wv):uS β:=match f a with
 |none=>h
 |some x=>match f b with
  |none=>h
  |some y=>g x y
def OK{α β:Type}{f:Wv->uS α}{g:α->α->uS β}{h:uS β}{r:β}(e:Sn f g h a b=Gc r):h=Gc r\/∃x y,f a=Gc x/\f b=Gc y/\g x y=Gc r:=by
 unfold Sn at e
 cases e1:f a with
 |none=>rw[e1]at e;exact .inl e
 |some x=>
  rw[e1]at e
  cases e2:f b with
  |none=>rw[e2]at e;exact .inl e
  |some y=>rw[e2]at e;exact .inr ⟨x,y,rfl,rfl,e⟩
noncomputable def CM:Op2:=λa b=>Sn asI (λi j=>Gc (.val (.int (i+j)))) (Sn asX (λx y=>if x.length+y.length<=sizeLine then Gc (.val (.str (x++y)))else none) (Sn asT (λxs ys=>if xs.length+ys.length<=sizeLine then Gc (.val (.tup (xs++ys)))else none)
 (Sn asL (λxs ys=>if xs.length+ys.length<=sizeLine then Gc (.own (xs++ys))else none) none a b) a b) a b) a b
def TU{α:Type}{p:Prop} [Decidable p] {x:α}{r:α}(e:(if p then Gc x else none)=Gc r):p/\x=r:=by
 by_cases h:p
 .rw[vD h]at e;cases e;exact⟨h,rfl⟩
 .rw[vC h]at e;cases e
def JT:OpR X (binaryOp .Add) (rOp X.K CM):=by
 intro pins s σ H x y v u Q I rx ry h
 obtain⟨M,w1,w2,r,e,mo,s1,s2,q⟩:=h
 rcases OK e with e|⟨i,j,e1,e2,e⟩
 .rcases OK e with e|⟨i,j,e1,e2,e⟩
  .rcases OK e with e|⟨xs,ys,e1,e2,e⟩
   .rcases OK e with e|⟨xs,ys,e1,e2,e⟩
    .cases e
    .obtain⟨hz,rfl⟩:=TU e
     obtain⟨a,xs',rfl,h1,r1⟩:=s1.l e1
     obtain⟨b,ys',rfl,h2,r2⟩:=s2.l e2
     have l1:=r1.length
     have l2:=r2.length
     exact gu pins s σ H _ _ v u Q I rx ry ⟨a,b,xs',ys',rfl,rfl,h1,h2,by lia,λp hp=>q _ _ (.lst mo hp (r1.append r2))⟩
   .obtain rfl:=RI e1
    obtain rfl:=RI e2
    obtain⟨hz,rfl⟩:=TU e
    obtain⟨a,xs',rfl,h1,r1⟩:=BN.iv s1
    obtain⟨b,ys',rfl,h2,r2⟩:=BN.iv s2
    have l1:=r1.length
    have l2:=r2.length
    by_cases hx:xs'=[]
    .subst hx
     cases r1
     refine St.Zz pins s σ H _ _ v u Q I rx ry ⟨_,_,_,rfl,rfl,h1,h2,q _ _ (.same mo ?_)⟩
     exact .tup h2 r2
    .refine bX pins s σ H _ _ v u Q I rx ry ⟨_,_,_,_,rfl,rfl,h1,h2,hx,by lia,λz=>?_,λ_ p hp=>q _ _ (.tup mo hp (r1.append r2))⟩
     subst z
     cases r2
     rw[vv]at q
     exact q _ _ (.same mo (.tup h1 r1))
  .obtain rfl:=Yx e1
   obtain rfl:=Yx e2
   obtain⟨hz,rfl⟩:=TU e
   obtain rfl:=BN.iv s1
   obtain rfl:=BN.iv s2
   exact SU pins s σ H _ _ v u Q I rx ry ⟨_,_,rfl,rfl,hz,q _ _ (.same mo (.str _))⟩
 .obtain rfl:=Pq e1
  obtain rfl:=Pq e2
  cases e
  obtain rfl:=BN.iv s1
  obtain rfl:=BN.iv s2
  exact gX pins s σ H _ _ v u Q I rx ry ⟨_,_,rfl,rfl,q _ _ (.same mo (.int _))⟩
noncomputable def hJ:Op2:=λa b=>(asI b).bind λk=>match asI a with
 |some i=>if Dj i k=true then Gc (.val (.int (i*k)))else none
 |none=>match asT a with
  |some xs=>if(!xs.isEmpty && decide (1<=k) && decide (xs.length*k.toNat<=sizeLine))=true then Gc (.val (.tup (uq k.toNat xs).flatten))else none
  |none=>(asL a).bind λxs=>if(decide (k<2^63) && decide (-(2^63)<=k) && decide (xs.length*k.toNat<=sizeLine))=true then Gc (.own (uq k.toNat xs).flatten)else none
theorem Af.rep(h:Af K M H xs ds):∀n,Af K M H (uq n xs).flatten (uq n ds).flatten
 |0=>.nil
 |n+1=>by
  rw[wK,wK,xl,xl]
  exact h.append (Af.rep h n)
def ak:OpR X (binaryOp .Mult) (rOp X.K hJ):=by
 intro pins s σ H x y v u Q I rx ry h
 obtain⟨M,w1,w2,r,e,mo,s1,s2,q⟩:=h
 obtain⟨k,e2,e0⟩:=Ab e
 obtain rfl:=Pq e2
 clear e e2
 cases e1:asI w1 with
 |some i=>
  obtain rfl:=Pq e1
  clear e1
  refine Z9 pins s σ H x y v u Q I rx ry ⟨M,_,_,r,?_,mo,s1,s2,q⟩
  obtain⟨hk,rfl⟩:=TU e0
  show AB9 Wv.val (if Dj i k=true then Gc (D.int (i*k))else none)=Gc _
  rw[vD hk]
  rfl
 |none=>
  rw[e1]at e0
  dsimp only at e0
  obtain rfl:=BN.iv s2
  cases e3:asT w1 with
  |some xs=>
   rw[e3]at e0
   obtain rfl:=RI e3
   obtain⟨hk,rfl⟩:=TU e0
   rw[uc,uc]at hk
   obtain⟨a,ys,rfl,h1,r1⟩:=BN.iv s1
   have l1:=r1.length
   have z:=uu hk.2
   have hk1:=uu hk.1.2
   have hne:ys≠[]:=λzz=>by
    subst zz
    cases r1
    exact absurd hk.1.1 (by decide)
   refine cM pins s σ H _ _ v u Q I rx ry ⟨a,ys,k,rfl,rfl,h1,hne,hk1,by rw[l1];exact z,λe1=>?_,λ_ p hp=>q _ _ (.tup mo hp (r1.rep _))⟩
   subst e1
   have:(uq (1:Int).toNat xs).flatten=xs:=by simp
   rw[this]at q
   exact q _ _ (.same mo (.tup h1 r1))
  |none=>
   rw[e3]at e0
   obtain⟨xs,e4,e0⟩:=Ab e0
   obtain⟨hk,rfl⟩:=TU e0
   rw[uc,uc]at hk
   obtain⟨a,xs',rfl,h1,r1⟩:=s1.l e4
   have l1:=r1.length
   have z:=uu hk.2
   exact gJ pins s σ H _ _ v u Q I rx ry ⟨a,k,xs',rfl,rfl,h1,uu hk.1.2,uu hk.1.1,by rw[l1];exact z,λp hp=>q _ _ (.lst mo hp (r1.rep _))⟩
noncomputable def Ts:Op1
 | .val (.int i)=>Gc (.val (.int (-i)))
 |_=>none
def cg:UnR X (unaryOp .USub) (rUn X.K Ts):=by
 intro pins s σ H x v Q I rx h
 obtain⟨M,w,r,e,mo,s1,q⟩:=h
 unfold Ts at e
 split at e
 .cases e
  obtain rfl:=BN.iv s1
  exact jW pins s σ H _ v Q I rx ⟨_,rfl,q _ _ (.same mo (.int _))⟩
 .cases e
noncomputable def IA:D->va
 | .non=>true| .bl _=>true| .int _=>true| .str _=>true
 |_=>false
def Sh.flat(h:Sh K M H v w)(f:IA (fz w)=true):BN K M H v (fz w):=by
 cases w with
 |val d=>exact h
 |own ds=>cases f
noncomputable def inD(x:D)(xs:Wp D):va:=xs.any λy=>deq y x
def R5(h:BN K M H v d)(f:IA d=true):Mm v=true:=by
 cases h<;>first|rfl|cases f
def br(h:BN K M H v d)(g:BN K M H u e)(f:IA d=true)(f':IA e=true):eqV v u=deq d e:=by
 cases h<;>first|(cases f;done)|skip
 all_goals (cases g<;>first|(cases f';done)|rfl)
def WY(h:Af K M H vs ds):ds.all IA=true->vs.all Mm=true:=h.ind (P:=λvs ds=>ds.all IA=true->vs.all Mm=true) (λ_=>rfl) λh t f=>by
 rw[yM,uc]at f⊢
 exact⟨R5 h f.1,t f.2⟩
def bW(g:BN K M H u e)(f':IA e=true)(h:Af K M H vs ds):ds.all IA=true->inV u vs=inD e ds:=h.ind (P:=λvs ds=>ds.all IA=true->inV u vs=inD e ds) (λ_=>rfl) λh t f=>by
 rw[yM,uc]at f
 have ih:=t f.2
 unfold inV inD at ih⊢
 rw[xK,xK,ih,br h g f.1 f']
noncomputable def wIn(neg:va):Op2:=λa b=>(asS b).bind λds=>if(IA (fz a) && ds.all IA)=true then Gc (.val (.bl (if neg then !inD (fz a) ds else inD (fz a) ds)))else none
def Zs(e:wIn neg w1 w2=Gc r)(mo:MOk M H)(s1:Sh X.K M H x w1)(s2:Sh X.K M H y w2)(q:∀v H',Nw X.K M H H' v r->Q v H'):rIn X.K neg x y H Q:=by
 unfold wIn at e
 cases e1:asS w2 with
 |none=>rw[e1]at e;cases e
 |some ds=>
  rw[e1]at e
  simp only[AAx]at e
  split at e
  .rename_i hk
   rw[uc]at hk
   cases e
   obtain⟨a,xs,rfl,h3,h4⟩:=s2.s e1
   have g1:=s1.flat hk.1
   refine⟨a,xs,rfl,h3,R5 g1 hk.1,WY h4 hk.2,?_⟩
   rw[bW g1 hk.1 h4 hk.2]
   exact q _ _ (.same mo (.bl _))
  .cases e
def gw:OpR X (compareOp .In) (rOp X.K (wIn false)):=by
 intro pins s σ H x y v u Q I rx ry h
 obtain⟨M,w1,w2,r,e,mo,s1,s2,q⟩:=h
 exact Vr pins s σ H _ _ v u Q I rx ry (Zs e mo s1 s2 q)
def WG:OpR X (compareOp .NotIn) (rOp X.K (wIn true)):=by
 intro pins s σ H x y v u Q I rx ry h
 obtain⟨M,w1,w2,r,e,mo,s1,s2,q⟩:=h
 exact PQ pins s σ H _ _ v u Q I rx ry (Zs e mo s1 s2 q)
noncomputable def isN:Wv->va
 | .val .non=>true
 |_=>false
noncomputable def Wn(neg:va):Op2:=λa b=>match b with
 | .val .non=>Gc (.val (.bl (if neg then !isN a else isN a)))
 |_=>none
def UU(s:Sh K M H x w):decide (x=.non)=isN w:=by
 cases w with
 |own ds=>obtain⟨a,xs,rfl,_⟩:=s;rfl
 |val d=>cases s<;>rfl
def cx:OpR X (compareOp .Is) (rOp X.K (Wn false)):=by
 intro pins s σ H x y v u Q I rx ry h
 obtain⟨M,w1,w2,r,e,mo,s1,s2,q⟩:=h
 unfold Wn at e
 split at e
 .cases e
  obtain rfl:=BN.iv s2
  refine jI pins s σ H _ _ v u Q I rx ry ⟨rfl,?_⟩
  rw[UU s1]
  exact q _ _ (.same mo (.bl _))
 .cases e
def YV:OpR X (compareOp .IsNot) (rOp X.K (Wn true)):=by
 intro pins s σ H x y v u Q I rx ry h
 obtain⟨M,w1,w2,r,e,mo,s1,s2,q⟩:=h
 unfold Wn at e
 split at e
 .cases e
  obtain rfl:=BN.iv s2
  refine bT pins s σ H _ _ v u Q I rx ry ⟨rfl,?_⟩
  rw[UU s1]
  exact q _ _ (.same mo (.bl _))
 .cases e
def JU(h:Shs K M H xs ws)(e:o1 f ws=Gc r):∃v w,xs=[v]/\ws=[w]/\Sh K M H v w/\f w=Gc r:=by
 cases h with
 |nil=>cases e
 |cons h1 t=>
  cases t with
  |cons h2 t=>cases e
  |nil=>exact⟨_,_,rfl,rfl,h1,e⟩
def Vq(h:Shs K M H xs ws)(e:o2 f ws=Gc r):∃v w v' w',xs=[v,v']/\ws=[w,w']/\Sh K M H v w/\Sh K M H v' w'/\f w w'=Gc r:=by
 cases h with
 |nil=>cases e
 |cons h1 t=>
  cases t with
  |nil=>cases e
  |cons h2 t=>
   cases t with
   |cons h3 t=>cases e
   |nil=>exact⟨_,_,_,_,rfl,rfl,h1,h2,e⟩
noncomputable def eZ:Op1
 | .val (.int i)=>Gc (.val (.int (if i<0 then-i else i)))
 |_=>none
def ff:Eg X (.builtin "abs") (rN X.K (o1 eZ)):=by
 intro pins s σ H xs us Q I r h
 obtain⟨M,ws,w,e,mo,sh,q⟩:=h
 obtain⟨v,w1,rfl,rfl,s1,e1⟩:=JU sh e
 unfold eZ at e1
 split at e1
 .cases e1
  obtain rfl:=BN.iv s1
  exact Yl pins s σ H _ us Q I r ⟨_,rfl,q _ _ (.same mo (.int _))⟩
 .cases e1
noncomputable def lI:Op2:=wI2 λi j=>Gc (.int (if j<i then j else i))
def XZ(e:wI2 f a b=Gc r):∃i j d,a=.val (.int i)/\b=.val (.int j)/\f i j=Gc d/\r=.val d:=by
 unfold wI2 at e
 split at e
 .rename_i i j
  cases e1:f i j with
  |none=>rw[e1]at e;cases e
  |some d=>rw[e1]at e;cases e;exact⟨i,j,d,rfl,rfl,e1,rfl⟩
 .cases e
def fY(hc:X.calm=true):Eg X (.builtin "min") (rN X.K (o2 lI)):=by
 intro pins s σ H xs us Q I r h
 obtain⟨M,ws,w,e,mo,sh,q⟩:=h
 obtain⟨v,w1,v',w2,rfl,rfl,s1,s2,e1⟩:=Vq sh e
 obtain⟨i,j,d,rfl,rfl,e2,rfl⟩:=XZ e1
 cases e2
 obtain rfl:=BN.iv s1
 obtain rfl:=BN.iv s2
 exact UM hc pins s σ H _ us Q I r ⟨_,_,rfl,q _ _ (.same mo (.int _))⟩
noncomputable def B7:Op1:=λw=>(asS w).map λds=>.val (.tup ds)
def aX:Eg X (.type "tuple") (rN X.K (o1 B7)):=by
 intro pins s σ H xs us Q I r h
 obtain⟨M,ws,w,e,mo,sh,q⟩:=h
 obtain⟨v,w1,rfl,rfl,s1,e1⟩:=JU sh e
 unfold B7 at e1
 cases e2:asS w1 with
 |none=>rw[e2]at e1;cases e1
 |some ds=>
  rw[e2]at e1
  cases e1
  obtain⟨a,ys,rfl,h3,h4⟩:=s1.s e2
  refine OF pins s σ H _ us Q I r ⟨a,ys,rfl,?_⟩
  rcases h3 with h3|h3
  .exact .inl ⟨h3,λl hl=>q _ _ (.tup mo hl h4)⟩
  .exact .inr ⟨h3,q _ _ (.same mo (.tup h3 h4))⟩
noncomputable def O9:Op1:=λw=>(asS w).map λds=>.own ds
def eM:Eg X (.type "list") (rN X.K (o1 O9)):=by
 intro pins s σ H xs us Q I r h
 obtain⟨M,ws,w,e,mo,sh,q⟩:=h
 obtain⟨v,w1,rfl,rfl,s1,e1⟩:=JU sh e
 unfold O9 at e1
 cases e2:asS w1 with
 |none=>rw[e2]at e1;cases e1
 |some ds=>
  rw[e2]at e1
  cases e1
  obtain⟨a,ys,rfl,h3,h4⟩:=s1.s e2
  exact P4 pins s σ H _ us Q I r ⟨a,ys,rfl,h3,λl hl=>q _ _ (.lst mo hl h4)⟩
noncomputable def Wl:Op1
 | .val (.int i)=>Gc (.val (.int i))
 | .val (.bl b)=>Gc (.val (.int (if b then 1 else 0)))
 |_=>none
def UI:Eg X (.type "int") (rN X.K (o1 Wl)):=by
 intro pins s σ H xs us Q I r h
 obtain⟨M,ws,w,e,mo,sh,q⟩:=h
 obtain⟨v,w1,rfl,rfl,s1,e1⟩:=JU sh e
 unfold Wl at e1
 split at e1
 .cases e1
  obtain rfl:=BN.iv s1
  exact Pe pins s σ H _ us Q I r (.inl ⟨_,rfl,q _ _ (.same mo (.int _))⟩)
 .cases e1
  obtain rfl:=BN.iv s1
  exact Pe pins s σ H _ us Q I r (.inr ⟨_,rfl,q _ _ (.same mo (.int _))⟩)
 .cases e1
noncomputable def blD:D->uS va
 | .bl b=>Gc b
 |_=>none
noncomputable def bls(ds:Wp D):uS (Wp va):=ds.mapM blD
theorem V2:∀{vs} {ds} {bs},Af K M H vs ds->bls ds=Gc bs->vs=bs.map V.bl
 |_,_,bs,.nil,e=>by cases e;rfl
 |_,_,bs,.cons (d:=d) (ds:=ds) h t,e=>by
  unfold bls at e
  rw[AAR]at e
  cases e1:blD d with
  |none=>rw[e1]at e;cases e
  |some b=>
   rw[e1]at e
   cases e2:ds.mapM blD with
   |none=>rw[e2]at e;cases e
   |some cs=>
    rw[e2]at e
    cases e
    have hd:d=.bl b:=by
     cases d<;>first|(cases e1;done)|skip
     cases e1;rfl
    subst hd
    cases h
    rw[ux,<-V2 t e2]
noncomputable def Ww:Op1:=λw=>(asL w).bind λds=>(bls ds).map λbs=>.val (.bl (bs.all id))
def U6(hc:X.calm=true):Eg X (.builtin "all") (rN X.K (o1 Ww)):=by
 intro pins s σ H xs us Q I r h
 obtain⟨M,ws,w,e,mo,sh,q⟩:=h
 obtain⟨v,w1,rfl,rfl,s1,e1⟩:=JU sh e
 unfold Ww at e1
 cases e2:asL w1 with
 |none=>rw[e2]at e1;cases e1
 |some ds=>
  rw[e2]at e1
  simp only[AAx]at e1
  cases e3:bls ds with
  |none=>rw[e3]at e1;cases e1
  |some bs=>
   rw[e3]at e1
   cases e1
   obtain⟨a,ys,rfl,h3,h4⟩:=s1.l e2
   exact St.Uz hc pins s σ H _ us Q I r ⟨a,bs,rfl,by rw[<-V2 h4 e3];exact .of h3,q _ _ (.same mo (.bl _))⟩
noncomputable def kdW:Wv->uS St.Kd
 | .own _=>Gc .lst
 | .val .non=>Gc .non| .val (.bl _)=>Gc .bl| .val (.int _)=>Gc .int| .val (.str _)=>Gc .str| .val (.lst _)=>Gc .lst| .val (.dct _)=>Gc .dct| .val (.tup _)=>Gc .tup
 | .val (.ty _)=>none| .val (.scr _)=>none| .val (.ref _)=>none
end
section
variable{X:Cx}
def W6(k:St.Kd):xO K (.type k.ty) (.type "list")=Gc (k.isA "list"):=by
 cases k<;>rfl
noncomputable def PD(T:yE):va:=T== "int" ||T== "bool" ||T== "tuple" ||T== "str" ||T== "list"
def fT(h:PD T=true)(k:St.Kd):xO K (.type k.ty) (.type T)=Gc (k.isA T):=by
 unfold PD at h
 simp only[vw,wJ]at h
 rcases h with(((rfl|rfl)|rfl)|rfl)|rfl
 .exact St.cA k
 .exact St.Xh k
 .exact St.kit_tuple k
 .exact St.aL k
 .exact W6 k
noncomputable def QH:Op2:=λa t=>match t with
 | .val (.ty T)=>if PD T=true then(kdW a).map λk=>.val (.bl (k.isA T))else none
 |_=>none
def P7:Eg X (.builtin "isinstance") (rN X.K (o2 QH)):=by
 intro pins s σ H xs us Q I r h
 obtain⟨M,ws,w,e,mo,sh,q⟩:=h
 obtain⟨v,w1,v',w2,rfl,rfl,s1,s2,e1⟩:=Vq sh e
 unfold QH at e1
 split at e1
 .rename_i T
  split at e1
  .rename_i hT
   cases e2:kdW w1 with
   |none=>rw[e2]at e1;cases e1
   |some k=>
    rw[e2]at e1
    cases e1
    obtain rfl:=BN.iv s2
    obtain⟨u1,u2,rfl,r1,r2⟩:=r.two
    cases (show u2=AAE T from r2)
    have fin:∀tk,EP X pins σ Q (.bool (k.isA T)) {s with toks:=tk}:=λtk=>⟨.bl _,H,I.tok tk,rfl,q _ _ (.same mo (.bl _))⟩
    have kk:=fT (K:=X.K) hT k
    cases w1 with
    |own ds=>
     cases e2
     obtain⟨a,ys,rfl,h1,_⟩:=s1
     exact FI I r1 (.lst h1) kk fin
    |val d=>
     have s1':BN X.K M H v d:=s1
     cases s1' with
     |non=>cases e2;exact FI I r1 .non kk fin
     |bl b=>cases e2;exact FI I r1 (.bl b) kk fin
     |int b=>cases e2;exact FI I r1 (.int b) kk fin
     |str b=>cases e2;exact FI I r1 (.str b) kk fin
     |ty b=>cases e2
     |scr h=>cases e2
     |lst h n rr=>cases e2;exact FI I r1 (.lst h) kk fin
     |dct h n rr=>cases e2;exact FI I r1 (.dK h) kk fin
     |ref h=>cases e2
     |tup h rr=>
      cases e2
      rename_i a ys ds
      cases (show u1=u6 a from r1)
      obtain⟨its,_,⟨o,h1,h2,_⟩,_⟩:=I.tuple h
      exact v8 AB2 I.kIn ⟨o,h1,h2⟩ kk (λz=>nomatch z) fin
  .cases e1
 .cases e1
noncomputable def BC(fs:Wp Ev):Ev:=λE S=>(evs fs E S).bind λr=>if r.1.length<=sizeLine then Gc (.tup r.1,r.2)else none
noncomputable def YU(c:va)(fs:Wp Ev):Ev:=λE S=>(evs fs E S).bind λr=>if r.1.length<=sizeLine then fin c (.own r.1) r.2 else none
abbrev Ja:=YU false
abbrev JZ:=YU true
def Dv(h:DEs X es fs):DE X (.Tuple es k pos) (BC fs):=⟨Ax (Uh h.pe) λσ H Q z=>by
 obtain⟨M,E,S,d,S',e,r,st,q⟩:=z
 obtain⟨⟨ds,S1⟩,e1,e⟩:=Ab e
 dsimp only at e
 split at e
 .cases e
  refine EZ e1 r st λvs H1 M1 g1 st1 d1=>⟨by rw[d1.length];assumption,λp hp=>?_⟩
  have n:=Nw.tup st1.mo hp d1
  exact q _ _ M1 (g1.trans (.grow st1.mo n.grow)) (st1.grow n.grow) n.rel
 .cases e⟩
def VD(h:DEs X es fs):DE X (.List es pos) (YU c fs):=⟨Ax (iC h.pe) λσ H Q z=>by
 obtain⟨M,E,S,d,S',e,r,st,q⟩:=z
 obtain⟨⟨ds,S1⟩,e1,e⟩:=Ab e
 dsimp only at e
 split at e
 .refine EZ e1 r st λvs H1 M1 g1 st1 d1=>⟨by rw[d1.length];assumption,λp hp=>?_⟩
  obtain⟨M2,g2,st2,d2⟩:=(Nw.lst st1.mo hp d1).fin st1 e
  exact q _ _ M2 (g1.trans g2) st2 d2
 .cases e⟩
noncomputable def D7(f g:Ev):Ev:=λE S=>(f E S).bind λr=>match r.1 with
 | .bl true=>g E r.2
 | .bl false=>Gc (.bl false,r.2)
 |_=>none
noncomputable def eOr(f g:Ev):Ev:=λE S=>(f E S).bind λr=>match r.1 with
 | .bl false=>g E r.2
 | .bl true=>Gc (.bl true,r.2)
 |_=>none
noncomputable def E7(f:Ev):Ev:=λE S=>(f E S).bind λr=>match r.1 with
 | .bl b=>Gc (.bl (!b),r.2)
 |_=>none
noncomputable def eIf(c f g:Ev):Ev:=λE S=>(c E S).bind λr=>match r.1 with
 | .bl true=>f E r.2
 | .bl false=>g E r.2
 |_=>none
def NN(h:BN K M H v (.bl b)):v=.bl b:=by cases h;rfl
variable{a b c:vj}{rest:Wp vj}{f g h:Ev}
def Vf(h:DE X a f):DE X (.BoolOp op [a] pos) f:=⟨iU h.pe⟩
def jM(ha:DE X a f)(hb:DE X (.BoolOp .And (b::rest) pos) g):DE X (.BoolOp .And (a::b::rest) pos) (D7 f g):=⟨Ax (gS ha.pe hb.pe) λσ H Q z=>by
 obtain⟨M,E,S,d,S',e,r,st,q⟩:=z
 obtain⟨⟨d1,S1⟩,e1,e⟩:=Ab e
 dsimp only at e
 refine⟨M,E,S,d1,S1,e1,r,st,λv H1 M1 g1 st1 r1=>?_⟩
 split at e
 .cases NN r1
  refine⟨_,rfl,?_⟩
  refine Za ?_
  exact⟨M1,E,S1,d,S',e,r.step g1.st,st1,λv H2 M2 g2 st2 r2=>q _ _ M2 (g1.trans g2) st2 r2⟩
 .cases e
  cases NN r1
  refine⟨_,rfl,?_⟩
  refine ZW ?_
  exact q _ _ M1 g1 st1 r1
 .cases e⟩
def fV(ha:DE X a f)(hb:DE X (.BoolOp .Or (b::rest) pos) g):DE X (.BoolOp .Or (a::b::rest) pos) (eOr f g):=⟨Ax (oJ ha.pe hb.pe) λσ H Q z=>by
 obtain⟨M,E,S,d,S',e,r,st,q⟩:=z
 obtain⟨⟨d1,S1⟩,e1,e⟩:=Ab e
 dsimp only at e
 refine⟨M,E,S,d1,S1,e1,r,st,λv H1 M1 g1 st1 r1=>?_⟩
 split at e
 .cases NN r1
  refine⟨_,rfl,?_⟩
  refine ZW ?_
  exact⟨M1,E,S1,d,S',e,r.step g1.st,st1,λv H2 M2 g2 st2 r2=>q _ _ M2 (g1.trans g2) st2 r2⟩
 .cases e
  cases NN r1
  refine⟨_,rfl,?_⟩
  refine Za ?_
  exact q _ _ M1 g1 st1 r1
 .cases e⟩
def qS(ha:DE X a f):DE X (.UnaryOp .Not a pos) (E7 f):=⟨Ax (kQ ha.pe) λσ H Q z=>by
 obtain⟨M,E,S,d,S',e,r,st,q⟩:=z
 obtain⟨⟨d1,S1⟩,e1,e⟩:=Ab e
 dsimp only at e
 split at e
 .cases e
  refine⟨M,E,S,_,_,e1,r,st,λv H1 M1 g1 st1 r1=>?_⟩
  cases NN r1
  exact⟨_,rfl,q _ _ M1 g1 st1 (.bl _)⟩
 .cases e⟩
inductive tDT(K:W1)(f:Ev)(σ:Sg)(H:Hp)(Q:va->Hp->Prop):Prop
 |mk (M:Ms) (E:En) (S:Sto) (b:va) (S':Sto) (e:f E S=Gc (.bl b,S')) (r:EnR K M E σ H) (st:StR K M S H) (q:∀H' M',Gr M H M' H'->StR K M' S' H'->Q b H')
structure DT(X:Cx)(e:vj)(f:Ev):Prop where
 pe:PT X e (tDT X.K f)
structure DW(X:Cx)(e:vj)(f:Ev):Prop where
 pe:PW X e (tDT X.K f)
def DW.dt(h:DW X a f):DT X a f:=⟨PW.pt h.pe⟩
def X1(h:PT X a (jK t))(m:∀σ H Q,tD X.K f σ H Q->t σ H Q):DT X a f:=⟨VP h λσ H Q z=>by
 obtain⟨M,E,S,b,S',e,r,st,q⟩:=z
 refine m _ _ _ ⟨M,E,S,_,S',e,r,st,λv H1 M1 g1 st1 r1=>?_⟩
 cases NN r1
 exact⟨_,rfl,q _ M1 g1 st1⟩⟩
def Fy(h:DE X a f)(he:zn (∀whole,isTrue a X.env whole=(do let v<-whole;standAt a.pos;holding [v] (truthy v))) xL):DT X a f:=X1 (t:=tD X.K f) (ij h.pe he) λ_ _ _ z=>z
def IX{f:Op2}(ho:OpR X (compareOp op) (rOp X.K f))(ha:DE X a fa)(hb:DE X b fb)(hm:zn (behindInMarks op b=false) ww):DT X (.Compare a [op] [b] pos) (eOp (o2 f) [fa,fb]):=
 X1 (VZ ho ha.pe hb.pe hm) λ_ _ _ h=>SD h
def Fp(ha:DT X a f):DT X (.UnaryOp .Not a pos) (E7 f):=⟨VP (gq ha.pe) λσ H Q z=>by
 obtain⟨M,E,S,b,S',e,r,st,q⟩:=z
 obtain⟨⟨w1,S1⟩,e1,e⟩:=Ab e
 dsimp only at e
 split at e
 .cases e
  exact⟨M,E,S,_,_,e1,r,st,q⟩
 .cases e⟩
def aO(ha:DT X a f):DW X (.BoolOp .And [a] pos) f:=⟨eG ha.pe⟩
def Y7(ha:DT X a f):DW X (.BoolOp .Or [a] pos) f:=⟨iF ha.pe⟩
def Vt(h:PW X e t)(m:∀σ H Q,t' σ H Q->t σ H Q):PW X e t':=λwh pins s σ H Q I q=>h wh pins s σ H Q I (m _ _ _ q)
def jg(ha:DT X a f)(hb:DW X (.BoolOp .And (b::rest) pos) g):DW X (.BoolOp .And (a::b::rest) pos) (D7 f g):=⟨Vt (gQ ha.pe hb.pe) λσ H Q z=>by
 obtain⟨M,E,S,k,S',e,r,st,q⟩:=z
 obtain⟨⟨w1,S1⟩,e1,e⟩:=Ab e
 dsimp only at e
 split at e
 .refine⟨M,E,S,_,S1,e1,r,st,λH1 M1 g1 st1=>?_⟩
  refine Za ?_
  exact⟨M1,E,S1,k,S',e,r.step g1.st,st1,λH2 M2 g2 st2=>q _ M2 (g1.trans g2) st2⟩
 .cases e
  refine⟨M,E,S,_,_,e1,r,st,λH1 M1 g1 st1=>?_⟩
  refine ZW ?_
  exact q _ M1 g1 st1
 .cases e⟩
def j6(ha:DT X a f)(hb:DW X (.BoolOp .Or (b::rest) pos) g):DW X (.BoolOp .Or (a::b::rest) pos) (eOr f g):=⟨Vt (pS ha.pe hb.pe) λσ H Q z=>by
 obtain⟨M,E,S,k,S',e,r,st,q⟩:=z
 obtain⟨⟨w1,S1⟩,e1,e⟩:=Ab e
 dsimp only at e
 split at e
 .refine⟨M,E,S,_,S1,e1,r,st,λH1 M1 g1 st1=>?_⟩
  refine ZW ?_
  exact⟨M1,E,S1,k,S',e,r.step g1.st,st1,λH2 M2 g2 st2=>q _ M2 (g1.trans g2) st2⟩
 .cases e
  refine⟨M,E,S,_,_,e1,r,st,λH1 M1 g1 st1=>?_⟩
  refine Za ?_
  exact q _ M1 g1 st1
 .cases e⟩
def sF(hc:DT X c f)(ha:DE X a g)(hb:DE X b h):DE X (.IfExp c a b pos) (eIf f g h):=⟨Ax (XQ hc.pe ha.pe hb.pe) λσ H Q z=>by
 obtain⟨M,E,S,d,S',e,r,st,q⟩:=z
 obtain⟨⟨w1,S1⟩,e1,e⟩:=Ab e
 dsimp only at e
 split at e
 .refine⟨M,E,S,_,S1,e1,r,st,λH1 M1 g1 st1=>?_⟩
  refine Za ?_
  exact⟨M1,E,S1,d,S',e,r.step g1.st,st1,λv H2 M2 g2 st2 r2=>q _ _ M2 (g1.trans g2) st2 r2⟩
 .refine⟨M,E,S,_,S1,e1,r,st,λH1 M1 g1 st1=>?_⟩
  refine ZW ?_
  exact⟨M1,E,S1,d,S',e,r.step g1.st,st1,λv H2 M2 g2 st2 r2=>q _ _ M2 (g1.trans g2) st2 r2⟩
 .cases e⟩
end
inductive Fl where
 |nx
 |ret (d:D)
abbrev Ex:=En->Sto->uS (Fl×En×Sto)
def End(K:W1)(M:Ms)(H:Hp)(Dn:Ends)(E':En)(S':Sto):Fl->Prop
 | .nx=>∀σ' H' M',Gr M H M' H'->EnR K M' E' σ' H'->StR K M' S' H'->Dn.nx σ' H'
 | .ret d=>∀v H' M',Gr M H M' H'->StR K M' S' H'->BN K M' H' v d->Dn.rt v H'
inductive tX(K:W1)(f:Ex)(Dn:Ends)(σ:Sg)(H:Hp):Prop
 |mk (M:Ms) (E:En) (S:Sto) (fl:Fl) (E':En) (S':Sto) (e:f E S=Gc (fl,E',S')) (r:EnR K M E σ H) (st:StR K M S H) (q:End K M H Dn E' S' fl)
structure DS(X:Cx)(st:vI)(f:Ex):Prop where
 pe:PS X st (tX X.K f)
structure DSs(X:Cx)(st:Wp vI)(f:Ex):Prop where
 pe:PSs X st (tX X.K f)
def FY(h:PS X e t)(m:∀Dn σ H,t' Dn σ H->t Dn σ H):PS X e t':=λpins s σ H Dn I q=>h pins s σ H Dn I (m _ _ _ q)
def OG(h:PSs X e t)(m:∀Dn σ H,t' Dn σ H->t Dn σ H):PSs X e t':=λpins s σ H Dn I q=>h pins s σ H Dn I (m _ _ _ q)
def End.later{M M1:Ms}(q:End K M H Dn E' S' fl)(g:Gr M H M1 H1):End K M1 H1 Dn E' S' fl:=by
 cases fl with
 |nx=>exact λσ' H' M' g' r st=>q σ' H' M' (g.trans g') r st
 |ret d=>exact λv H' M' g' st r=>q v H' M' (g.trans g') st r
noncomputable def AN(f g:Ex):Ex:=λE S=>(f E S).bind λr=>match r.1 with
 | .nx=>g r.2.1 r.2.2
 | .ret w=>Gc (.ret w,r.2)
noncomputable def BO:Ex:=λE S=>Gc (.nx,E,S)
section
variable{X:Cx}{st:vI}{rest a b:Wp vI}{f g h:Ex}{c e:vj}{k:Ev}{pos:Pos}
def CO:DSs X [] BO:=⟨OG bc λDn σ H z=>by
 obtain⟨M,E,S,fl,E',S',e,r,st,q⟩:=z
 cases e
 exact q _ _ M (.refl st.mo) r st⟩
def Aa(h1:DS X st f)(h2:DSs X rest g):DSs X (st::rest) (AN f g):=⟨OG (N1 h1.pe h2.pe) λDn σ H z=>by
 obtain⟨M,E,S,fl,E',S',e,r,st,q⟩:=z
 obtain⟨⟨f1,E1,S1⟩,e1,e⟩:=Ab e
 dsimp only at e
 split at e
 .exact⟨M,E,S,.nx,E1,S1,e1,r,st,λσ1 H1 M1 g1 r1 st1=>⟨M1,E1,S1,fl,E',S',e,r1,st1,q.later g1⟩⟩
 .cases e
  exact⟨M,E,S,.ret _,_,_,e1,r,st,q⟩⟩
def Aq(h1:DS X st f):DSs X [st] f:=⟨KQ h1.pe⟩
noncomputable def xIf(c:Ev)(f g:Ex):Ex:=λE S=>(c E S).bind λr=>match r.1 with
 | .bl true=>f E r.2
 | .bl false=>g E r.2
 |_=>none
def HF(hc:DT X c k)(ha:DSs X a f)(hb:DSs X b g):DS X (.If c a b pos) (xIf k f g):=⟨FY (nZ hc.pe ha.pe hb.pe) λDn σ H z=>by
 obtain⟨M,E,S,fl,E',S',e,r,st,q⟩:=z
 obtain⟨⟨w1,S1⟩,e1,e⟩:=Ab e
 dsimp only at e
 split at e
 .refine⟨M,E,S,_,S1,e1,r,st,λH1 M1 g1 st1=>?_⟩
  refine Za ?_
  exact⟨M1,E,S1,fl,E',S',e,r.step g1.st,st1,q.later g1⟩
 .refine⟨M,E,S,_,S1,e1,r,st,λH1 M1 g1 st1=>?_⟩
  refine ZW ?_
  exact⟨M1,E,S1,fl,E',S',e,r.step g1.st,st1,q.later g1⟩
 .cases e⟩
noncomputable def AZ(k:Ev):Ex:=λE S=>(k E S).map λr=>(.ret r.1,E,r.2)
def CQ(h:DE X e k):DS X (.Return (Gc e) pos) (AZ k):=⟨FY (Rq h.pe) λDn σ H z=>by
 obtain⟨M,E,S,fl,E',S',e,r,st,q⟩:=z
 obtain⟨⟨d,S1⟩,e1,e⟩:=IV e
 cases e
 exact⟨M,E,S,d,S1,e1,r,st,λv H1 M1 g1 st1 r1=>q _ _ M1 g1 st1 r1⟩⟩
end
section
variable{K:W1}
def EnR.put(r:EnR K M E σ H)(rd:BN K M H v d):EnR K M (E.set i (Gc d)) (σ.set i (Gc v)) H:=by
 refine⟨by rw[wV,wV];exact r.len,λj e ej=>?_⟩
 by_cases h:i=j
 .subst h
  by_cases hi:i<E.length
  .rw[ui hi]at ej
   cases ej
   exact⟨v,ui (by rw[<-r.len];exact hi),rd⟩
  .rw[List.getElem?_eq_none_iff.mpr (by rw[wV];lia)]at ej;cases ej
 .rw[uW h]at ej
  obtain⟨v',h1,h2⟩:=r.val j e ej
  exact⟨v',by rw[uW h];exact h1,h2⟩
end
noncomputable def Az(i:Nat)(k:Ev):Ex:=λE S=>(k E S).map λr=>(.nx,E.set i (Gc r.1),r.2)
def Ep{X:Cx}{e:vj}{pos pos':Pos} i(h:DE X e k)(hN:X.N.Nodup)(hi:zn (X.N[i]?=Gc x) ww)(hx:zn (Loc X.env.scope x) wn)(hs:zn (swapsWith e (Gc (.Name x pos')) pos.line X.env=pure false) ww)(hf:zn (X.fn x=true\/X.env.scope.names.lookup x=Gc .local) wf):DS X (.Assign [.Name x pos'] e pos) (Az i k):=⟨
 FY (ZM hN hi hx h.pe hs hf) λDn σ H z=>by
  obtain⟨M,E,S,fl,E',S',e,r,st,q⟩:=z
  obtain⟨⟨d,S1⟩,e1,e⟩:=IV e
  cases e
  exact⟨M,E,S,d,S1,e1,r,st,λv H1 M1 g1 st1 r1=>q _ _ M1 g1 ((r.step g1.st).put r1) st1⟩⟩
noncomputable def Bm(k:Ev):Ex:=λE S=>(k E S).map λr=>(.nx,E,r.2)
def KY(h:DE X e k)(hs:zn (swapsWith e none pos.line X.env=pure false) ww):DS X (.Expr e pos) (Bm k):=⟨FY (Uc h.pe hs) λDn σ H z=>by
 obtain⟨M,E,S,fl,E',S',e,r,st,q⟩:=z
 obtain⟨⟨d,S1⟩,e1,e⟩:=IV e
 cases e
 exact⟨M,E,S,d,S1,e1,r,st,λv H1 M1 g1 st1 r1=>q _ _ M1 g1 (r.step g1.st) st1⟩⟩
noncomputable def Em(S:Sto)(n:Nat):uS (Wp D):=match S[n]? with
 |some (.lst ds)=>Gc ds
 |_=>none
def FC(h:Em S n=Gc ds):S[n]?=Gc (.lst ds):=by
 unfold Em at h
 split at h
 .rename_i e
  cases h
  exact e
 .cases h
abbrev Mo:=Sto->Wp D->Wp D->uS (D×Wp D)
noncomputable def NH(op:Mo)(f:Ev)(fs:Wp Ev):Ev:=λE S=>(f E S).bind λr=>match r.1 with
 | .ref n=>(Em r.2 n).bind λ_=>(evs fs E r.2).bind λp=>(Em p.2 n).bind λds=>(op p.2 ds p.1).map λq=>(q.1,p.2.set n (.lst q.2))
 |_=>none
inductive k9(K:W1)(op:Mo)(x:V)(vs:Wp V)(H:Hp)(Q:VK):Prop
 |mk (M:Ms) (S:Sto) (n:Nat) (a:ug) (ds args:Wp D) (d:D) (ds':Wp D) (hx:x=.ref a) (hc:M.cel[n]?=Gc a) (hn:S[n]?=Gc (.lst ds)) (e:op S ds args=Gc (d,ds')) (st:StR K M S H) (ra:Af K M H vs args) (q:∀v H',StR K M (S.set n (.lst ds')) H'->Gr M H M H'->BN K M H' v d->Q v H')
section
variable{X:Cx}
def js(h:tD X.K (NH op f fs) σ H Q):tBM X.K "list" (k9 X.K op) (tD X.K f) (tDs X.K fs) σ H Q:=by
 obtain⟨M,E,S,d,S',e,r,st,q⟩:=h
 obtain⟨⟨d1,S1⟩,e1,e⟩:=Ab e
 dsimp only at e
 split at e
 .rename_i n
  obtain⟨ds0,e2,e⟩:=Ab e
  obtain⟨⟨args,S2⟩,e3,e⟩:=Ab e
  obtain⟨ds,e4,e⟩:=Ab e
  obtain⟨⟨dd,ds'⟩,e5,e⟩:=IV e
  cases e
  refine⟨M,E,S,_,S1,e1,r,st,λv H1 M1 g1 st1 r1=>?_⟩
  cases r1 with
  |ref hc=>
   rename_i a
   obtain⟨xs,h1,h2⟩:=st1.cell n a _ hc (FC e2)
   refine⟨.inl ⟨rfl,xs,.of h1⟩,?_⟩
   refine EZ e3 (r.step g1.st) st1 λvs H2 M2 g2 st2 r2=>?_
   exact⟨M2,S2,n,a,ds,args,dd,ds',rfl,Lr g2.pre hc,FC e4,e5,st2,r2,λv H3 st3 g3 r3=>q _ _ M2 ((g1.trans g2).trans g3) st3 r3⟩
 .cases e
def kW{id:yE}{name:Str}{apos cpos:Pos}(slot:Slot "list" name id)(hty:typeOf (.builtin id)=pure (.type "method_descriptor"))(hm:MtR X id (k9 X.K op))(ho:DE X o f)(ha:DEs X (e::es) fs)(hbase:zn (attributeBase o name X.env (eval o X.env)=eval o X.env) ww)(hfew:zn (((backTo cpos (uf (e::es) X.env)).all (λx=> !x.1) && (backToKw cpos (keywordEach [] X.env)).all (λx=>x.1.isSome) && decide ((e::es).length+([]:Wp AAc).length+(if([]:Wp AAc).isEmpty then 0 else 1)<30))=true) ww)(hline:zn ((apos.endLine==cpos.line)=true) ww)(hs:zn (uf (e::es) X.env=(false,eval e X.env)::uf es X.env) ww)(hplain:zn ((backTo cpos (uf es X.env)).any (·.1)=false) ww):DE X (.Call (.Attribute o name apos) (e::es) [] cpos) (NH op f fs):=⟨Ax (mh PySem.F.plainAttrs_list slot hty hm ho.pe ha.pe hbase hfew hline hs hplain) λσ H Q z=>js z⟩
noncomputable def NV:Mo
 |_,ds,[x]=>if ds.length<sizeLine then Gc (.non,ds++[x])else none
 |_,_,_=>none
def RP(h:Af K M H vs [d]):∃v,vs=[v]/\BN K M H v d:=by
 cases h with
 |cons h t=>cases t;exact⟨_,rfl,h⟩
def dJ:MtR X "list.append" (k9 X.K NV):=by
 intro pins s σ H x vs v us Q I rx rv h
 obtain⟨M,S,n,a,ds,args,d,ds',rfl,hc,hn,e,st,ra,q⟩:=h
 unfold NV at e
 split at e
 .split at e
  .rename_i hz
   cases e
   obtain⟨xs,h1,h2⟩:=st.cell n a _ hc hn
   obtain⟨y,rfl,ry⟩:=RP ra
   obtain⟨st2,g2⟩:=st.chg hc hn (h2.append (.cons ry .nil))
   exact QG pins s σ H _ _ v us Q I rx rv ⟨a,xs,y,rfl,rfl,h1,by rw[h2.length];exact hz,q _ _ st2 g2 .non⟩
  .cases e
 .cases e
end
noncomputable def Mt(k f o:Ev):Ex:=λE S=>(k E S).bind λr=>(f E r.2).bind λb=>(o E b.2).bind λi=>match b.1,i.1 with
 | .ref n,.int j=>(Em i.2 n).bind λds=>(ixN ds.length j).map λm=>(.nx,E,i.2.set n (.lst (ds.set m r.1)))
 |_,_=>none
def lh {ps pos:Pos}(h:DE X e k)(hb:DE X bs f)(ht:DE X t o)(ha:zn (∀v,assign (.Subscript bs t ps) X.env v=(do
      let ov ← holding [v] (eval bs X.env)
      let iv ← holding [v, ov] (eval t X.env)
      standAt ps
      holding [v, ov, iv] (setItem ov iv v)
      release [v, ov, iv] [])) wv)
    (hs:zn (swapsWithSole [.Subscript bs t ps] e pos.line X.env=pure false) ww)(hw:zn (swappedStores [.Subscript bs t ps] e X.env=pure none) ww)
    (h1:zn ((assignEach [.Subscript bs t ps] X.env).map (·.2)=[assign (.Subscript bs t ps) X.env]) ww) :
    DS X (.Assign [.Subscript bs t ps] e pos) (Mt k f o):=⟨
  FY (Ys h.pe (iz hb.pe ht.pe set_list ha) hs hw h1) fun Dn σ H z => by
    obtain⟨M,E,S,fl,E',S',e,r,st,q⟩:=z
    obtain⟨⟨d,S1⟩,e1,e⟩:=Ab e
    obtain⟨⟨b,S2⟩,e2,e⟩:=Ab e
    obtain⟨⟨i,S3⟩,e3,e⟩:=Ab e
    dsimp only at e e1 e2 e3
    split at e
    · rename_i n j _
      obtain⟨ds,e4,e⟩:=Ab e
      obtain⟨m,e5,e⟩:=IV e
      cases e
      refine ⟨M, E, S, d, S1, e1, r, st, fun v H1 M1 g1 st1 r1 => ?_⟩
      refine ⟨M1, E, S1, _, S2, e2, r.step g1.st, st1, fun bv H2 M2 g2 st2 r2 => ?_⟩
      refine ⟨M2, E, S2, _, S3, e3, (r.step g1.st).step g2.st, st2, fun iv H3 M3 g3 st3 r3 => ?_⟩
      cases r3
      cases r2 with
      | ref hc =>
        rename_i a
        have hc3:=Lr g3.pre hc
        obtain⟨xs,h1,h2⟩:=st3.cell n a _ hc3 (FC e4)
        obtain⟨st4,g4⟩:=st3.chg hc3 (FC e4) (h2.set ((r1.step g2.st).step g3.st) m)
        have g:=((g1.trans g2).trans g3).trans g4
        exact ⟨a, xs, j, m, rfl, rfl, h1, by rw [h2.length]; exact e5, q _ _ M3 g (r.step g.st) st4⟩
    · cases e⟩
abbrev Fn:=Wp D->Sto->uS (D×Sto)
noncomputable def flD:Fl->D
 | .nx=>.non
 | .ret d=>d
noncomputable def AV(N:Nat)(body:Ex):Fn:=λds S=>(body (ds.map Gc++uq (N-ds.length) none) S).map λr=>(flD r.1,r.2.2)
def AS{α:Type}(a:α):α:=Classical.choose (⟨a,rfl⟩:∃x,x=a)
def JQ(a:α):AS a=a:=Classical.choose_spec (⟨a,rfl⟩:∃x,x=a)
inductive spD(K:W1)(np:Nat)(f:Fn)(vs:Wp V)(H:Hp)(Q:VK)(E:XK):Prop
 |mk (M:Ms) (ds:Wp D) (S:Sto) (d:D) (S':Sto) (l:ds.length=np) (e:f ds S=Gc (d,S')) (r:Af K M H vs ds) (st:StR K M S H) (q:∀v H' M',Gr M H M' H'->StR K M' S' H'->BN K M' H' v d->Q v H')
def Pt{α:Type}{xs:Wp α}{i:Nat}{x:α}(h:(xs.map Gc)[i]?=Gc (Gc x)):xs[i]?=Gc x:=by
 rw[uo]at h
 cases e:xs[i]? with
 |none=>rw[e]at h;cases h
 |some y=>rw[e]at h;cases h;rfl
def UK{α:Type}{xs:Wp (uS α)}{k i:Nat}{x:α}(h:(xs++uq k none)[i]?=Gc (Gc x)):xs[i]?=Gc (Gc x):=by
 by_cases hi:i<xs.length
 .rw[uU hi]at h;exact h
 .rw[vJ (by lia),yz]at h
  split at h<;>cases h
def bY{α:Type}{xs:Wp (uS α)}{k i:Nat}{x:uS α}(h:xs[i]?=Gc x):(xs++uq k none)[i]?=Gc x:=by
 rw[uU (ua.mp h).1];exact h
def EnR.args(r:Af K M H vs ds) k:EnR K M (ds.map Gc++uq k none) (vs.map Gc++uq k none) H:=by
 refine⟨by simp[r.length],λi d e=>?_⟩
 obtain⟨v,h1,h2⟩:=r.get (Pt (UK e))
 exact⟨v,bY (by rw[uo,h1];rfl),h2⟩
def fJ(Fu:Fun K x x st f fd)(S:Aj N ps (AB st))(hp:ps.length=np)(hb:∀cdv A outer s H E,Cg k (A.deeper (u5 x (AB st) s.heap.objs.size f cdv))->DSs (IW CX0 P w K mg base N x (AB st) f cdv A outer s H E).nox (Ar st) b):Jm P w K mg base CX0 (k+1) f fd ps (spD K np (AS (AV N.length b))):=by
 rw[JQ]
 refine Fu.ok S (λvs H Q E h=>?_) (λcdv A outer s H vs Q E hr h=>?_)
 .obtain⟨M,ds,S0,d,S',hl,_,r,_⟩:=h
  have:=r.length
  lia
 .obtain⟨M,ds,S0,d,S',hl,e,r,st,q⟩:=h
  have hlen:=r.length
  refine⟨_,(hb cdv A outer s H E hr).pe,?_⟩
  obtain⟨⟨fl,E',S1⟩,e1,e⟩:=IV e
  cases e
  refine⟨M,_,S0,fl,E',S1,e1,?_,st,?_⟩
  .rw[show L2.start N vs=vs.map Gc++uq (N.length-ds.length) none from by unfold L2.start;rw[hlen]]
   exact .args r _
  .cases fl with
   |nx=>exact λσ' H' M' g _ st'=>q _ _ M' g st' .non
   |ret d=>exact λv H' M' g st' r'=>q _ _ M' g st' r'
def gF(S:St.Src K mg x st)(sc:Aj N ps (AB st))(hp:ps.length=np)(hbi:∀f fd,Fun K x x st f fd->Binds K fd ps [])(hb:∀f cdv A outer s H E,Cg k (A.deeper (u5 x (AB st) s.heap.objs.size f cdv))->DSs (IW CX0 P w K mg base N x (AB st) f cdv A outer s H E).nox (Ar st) b):St.Dfn P w K mg base x (k+1) ps (spD K np (AS (AV N.length b))):=by
 obtain⟨f,fd,Fu,hm⟩:=S.ex
 exact⟨f,fd,hm,Fu.kp,hbi f fd Fu,fJ Fu sc hp λcdv A outer s H E hr=>hb f cdv A outer s H E hr⟩
noncomputable def AF(f:Fn)(fs:Wp Ev):Ev:=λE S=>(evs fs E S).bind λr=>f r.1 r.2
def Wd(hn:fs.length=np)(h:tD K (AF f fs) σ H Q):dc (spD K np f) [] E0 (tDs K fs) σ H Q:=by
 obtain⟨M,E,S,d,S',e,r,st,q⟩:=h
 obtain⟨⟨ds,S1⟩,e1,e⟩:=Ab e
 refine EZ e1 r st λvs H1 M1 g1 st1 r1=>?_
 rw[vv]
 exact⟨M1,ds,S1,d,S',by rw[Ht e1];exact hn,e,r1,st1,λv H2 M2 g2 st2 r2=>q _ _ M2 (g1.trans g2) st2 r2⟩
def bS{X:Cx}{k np:Nat}{x:Str}{ps:Wp Str}{p pos:Pos}(d:St.Dfn X.prog X.w X.K X.mg X.base x k ps (spD X.K np f))(hr:Cg k X.A)(hg:Gl X x)(ha:DEs X (e::es) fs)(hn:zn (fs.length=np) ww)(hdb:zn ((x==("__debug__":Str))=false) xz)(he:zn (uf (e::es) X.env=(false,eval e X.env)::uf es X.env) ww)(hpl:zn ((backTo pos (uf es X.env)).any (·.1)=false) ww):DE X (.Call (.Name x p) (e::es) [] pos) (AF f fs):=⟨Ax (St.oY d hr hg ha.pe hdb he hpl) λσ H Q z=>Wd hn z⟩
abbrev Tf:=D->En->Sto->uS En
inductive tG(K:W1)(t:Tf)(v:V)(σ:Sg)(H:Hp)(Q:St->Hp->Prop):Prop
 |mk (M:Ms) (d:D) (E E':En) (S:Sto) (e:t d E S=Gc E') (r:EnR K M E σ H) (st:StR K M S H) (rd:BN K M H v d) (q:∀σ',EnR K M E' σ' H->Q σ' H)
structure DG(X:Cx)(tg:vj)(t:Tf):Prop where
 pe:PG X tg (tG X.K t)
noncomputable def tNm(i:Nat):Tf:=λd E _=>Gc (E.set i (Gc d))
def T7(h:PG X e t)(m:∀v σ H Q,t' v σ H Q->t v σ H Q):PG X e t':=λpins s σ H v u Q I r q=>h pins s σ H v u Q I r (m _ _ _ _ q)
def HI{X:Cx}{pos:Pos} i(hN:X.N.Nodup)(hi:zn (X.N[i]?=Gc x) ww)(hx:zn (Loc X.env.scope x) wn)(hf:zn (X.fn x=true\/X.env.scope.names.lookup x=Gc .local) wf):DG X (.Name x pos) (tNm i):=⟨T7 (Z5 hN hi hx hf) λv σ H Q z=>by
 obtain⟨M,d,E,E',S,e,r,st,rd,q⟩:=z
 cases e
 exact q _ (r.put rd)⟩
noncomputable def tMs:Wp Tf->Wp D->En->Sto->uS En
 | [],[],E,_=>Gc E
 |t::ts,d::ds,E,S=>(t d E S).bind λE1=>tMs ts ds E1 S
 |_,_,_,_=>none
noncomputable def tTp(ts:Wp Tf):Tf:=λd E S=>match d with
 | .tup ds=>tMs ts ds E S
 | .lst ds=>tMs ts ds E S
 | .ref n=>(Em S n).bind λds=>tMs ts ds E S
 |_=>none
noncomputable def tGs(K:W1):Wp Tf->TGs
 | []=>rE
 |t::ts=>kE (tG K t) (tGs K ts)
theorem Ro{K:W1}{M:Ms}{H:Hp}{S:Sto}(st:StR K M S H):∀{ts} {ds} {vs} {E E'} {σ} {Q:Sg->Hp->Prop},tMs ts ds E S=Gc E'->EnR K M E σ H->Af K M H vs ds->(∀σ',EnR K M E' σ' H->Q σ' H)->tGs K ts vs σ H Q
 | [],[],_,E,E',σ,Q,e,r,rd,q=>by
   cases e
   cases rd
   exact⟨rfl,q _ r⟩
 |t::ts,d::ds,_,E,E',σ,Q,e,r,rd,q=>by
  obtain⟨E1,e1,e⟩:=Ab e
  cases rd with
  |cons h1 h2=>exact⟨_,_,rfl,M,d,E,E1,S,e1,r,st,h1,λσ1 r1=>Ro st e r1 h2 q⟩
 | [],_::_,_,E,E',σ,Q,e,r,rd,q=>by cases e
 |_::_,[],_,E,E',σ,Q,e,r,rd,q=>by cases e
theorem ON:∀{ts} {ds} {E E'} {S},tMs ts ds E S=Gc E'->ds.length=ts.length
 | [],[],_,_,_,_=>rfl
 |t::ts,d::ds,E,E',S,e=>by
  obtain⟨E1,e1,e⟩:=Ab e
  simp[ON e]
 | [],_::_,_,_,_,e=>by cases e
 |_::_,[],_,_,_,e=>by cases e
structure DGs(X:Cx)(es:Wp vj)(ts:Wp Tf):Prop where
 pe:PGs X es (tGs X.K ts)
def Le:DGs X [] []:=⟨bf⟩
def Cu(h:DG X e t)(g:DGs X es ts)(hs:zn ((assignEach (e::es) X.env).map (·.2)=assign e X.env::(assignEach es X.env).map (·.2)) ww):DGs X (e::es) (t::ts):=⟨Xa h.pe g.pe hs⟩
def U5{X:Cx}{k:Nat}{pos:Pos}(hc:X.calm=true)(h:DGs X es ts)(hn:zn ((assignEach es X.env).length=ts.length) ww)(hst:zn ((assignEach es X.env).findIdx? (·.1)=none) ww):DG X (.Tuple es k pos) (tTp ts):=⟨
 T7 (iM hc h.pe hn hst) λv σ H Q z=>by
  obtain⟨M,d,E,E',S,e,r,st,rd,q⟩:=z
  unfold tTp at e
  split at e
  .cases rd with
   |tup h1 h2=>exact⟨_,_,rfl,.inl h1,by rw[h2.length];exact ON e,Ro st e r h2 q⟩
  .cases rd with
   |lst h1 n h2=>exact⟨_,_,rfl,.inr h1,by rw[h2.length];exact ON e,Ro st e r h2 q⟩
  .obtain⟨ds,e1,e⟩:=Ab e
   cases rd with
   |ref hc=>
    obtain⟨xs,h1,h2⟩:=st.cell _ _ _ hc (FC e1)
    exact⟨_,_,rfl,.inr h1,by rw[h2.length];exact ON e,Ro st e r h2 q⟩
  .cases e⟩
noncomputable def IP(t:Tf)(k:Ev):Ex:=λE S=>(k E S).bind λr=>(t r.1 E r.2).map λE'=>(.nx,E',r.2)
def RU{pos:Pos}(h:DE X e k)(hg:DG X tg t)(hs:zn (swapsWithSole [tg] e pos.line X.env=pure false) ww)(hw:zn (swappedStores [tg] e X.env=pure none) ww)(h1:zn ((assignEach [tg] X.env).map (·.2)=[assign tg X.env]) ww):DS X (.Assign [tg] e pos) (IP t k):=⟨FY (Ys h.pe hg.pe hs hw h1) λDn σ H z=>by
 obtain⟨M,E,S,fl,E',S',e,r,st,q⟩:=z
 obtain⟨⟨d,S1⟩,e1,e⟩:=Ab e
 obtain⟨E2,e2,e⟩:=IV e
 cases e
 exact⟨M,E,S,d,S1,e1,r,st,λv H1 M1 g1 st1 r1=>⟨M1,d,E,_,S1,e2,r.step g1.st,st1,r1,λσ' r2=>q _ _ M1 g1 r2 st1⟩⟩⟩
noncomputable def Tv(i j:Nat)(f g:Ev):Ex:=λE S=>(evs [f,g] E S).bind λr=>match r.1 with
 | [d,d']=>Gc (.nx,(E.set i (Gc d)).set j (Gc d'),r.2)
 |_=>none
def qa{pt2 pos:Pos}(hc:X.calm=true)(hN:X.N.Nodup)(hi:X.N[i]?=Gc x)(hj:X.N[j]?=Gc y)(hij:i≠j)(hx:X.env.scope.names.lookup x=Gc .local)(hy:X.env.scope.names.lookup y=Gc .local)(ha:DE X a f)(hb:DE X b g)(hw:zn (swappedStores [.Tuple [.Name x px,.Name y py] kt pt] (.Tuple [a,b] k2 pt2) X.env=pure (Gc [x,y])) ww)(hsa:zn (uf [a,b] X.env=(false,eval a X.env)::uf [b] X.env) ww)(hsb:zn (uf [b] X.env=(false,eval b X.env)::uf [] X.env) ww)(hs:zn (swapsWithSole [.Tuple [.Name x px,.Name y py] kt pt] (.Tuple [a,b] k2 pt2) pos.line X.env=pure false) ww):DS X (.Assign [.Tuple [.Name x px,.Name y py] kt pt] (.Tuple [a,b] k2 pt2) pos) (Tv i j f g):=⟨by
 refine FY (iZ hc hN hi hj hij hx hy (F6 ha.pe (F6 hb.pe NR hsb) hsa) hw hs) λDn σ H z=>?_
 obtain⟨M,E,S,fl,E',S',e,r,st,q⟩:=z
 obtain⟨⟨ds,S1⟩,e1,e⟩:=Ab e
 refine EZ (K:=X.K) (fs:=[f,g]) e1 r st λvs H1 M1 g1 st1 r1=>?_
 dsimp only at e
 split at e
 .rename_i d d'
  cases e
  cases r1 with
  |cons h1 t=>
   cases t with
   |cons h2 t=>
    cases t
    exact⟨_,_,rfl,q _ _ M1 g1 (((r.step g1.st).put h1).put h2) st1⟩
 .cases e⟩
noncomputable def Cp:Ex:=λ_ _=>none
def IQ:DS X st Cp:=⟨λ_ _ _ _ _ _ z=>by
 obtain⟨M,E,S,fl,E',S',e,_⟩:=z
 cases e⟩
abbrev Gd:=Wp (Nat×Wp D)
def gOk(gs:Gd)(S:Sto):Prop:=∀g∈gs,Em S g.1=Gc g.2
abbrev Sr:=En->Sto->uS ((Wp D×Gd)×Sto)
structure iG(K:W1)(M:Ms)(H:Hp)(gs:Gd)(ds:Wp D)(J:It):Prop where
 go:∀(i:Nat) (H2:Hp) (M2:Ms) (S2:Sto),Sp1 M H M2 H2->StR K M2 S2 H2->gOk gs S2->i<ds.length->J.go i H2
 stop:∀(i:Nat) (H2:Hp) (M2:Ms) (S2:Sto),Sp1 M H M2 H2->StR K M2 S2 H2->gOk gs S2->ds.length<=i->J.stop i H2
 yld:∀(i:Nat) (H2:Hp) (M2:Ms) (S2:Sto) (x:V) (H3:Hp) (d:D),Sp1 M H M2 H2->StR K M2 S2 H2->gOk gs S2->ds[i]?=Gc d->J.yld i H2 x H3->(∀a o,H2 a=Gc o->H3 a=Gc o)/\BN K M2 H3 x d
inductive tI(K:W1)(s:Sr)(σ:Sg)(H:Hp)(R:It->Hp->Prop):Prop
 |mk (M:Ms) (E:En) (S:Sto) (ds:Wp D) (gs:Gd) (S':Sto) (e:s E S=Gc ((ds,gs),S')) (r:EnR K M E σ H) (st:StR K M S H) (q:∀J H' M',Gr M H M' H'->StR K M' S' H'->iG K M' H' gs ds J->R J H')
structure DI(X:Cx)(tg iter:vj)(s:Sr):Prop where
 pe:PI X tg iter (tI X.K s)
def N2(h:PI X tg e t)(m:∀σ H R,t' σ H R->t σ H R):PI X tg e t':=λpins s σ H R I q=>h pins s σ H R I (m _ _ _ q)
noncomputable def tS(K:W1)(tl:TE):TI:=λσ H R=>tl σ H λx H1=>∃a,x=.ref a/\(((∃xs,SqL K H1 a xs)/\R (Itl K a) H1)\/((∃xs,SqT K H1 a xs)/\R (Itt K a) H1))
def jR(hl:PE X l tl):PI X tg l (tS X.K tl):=by
 intro pins s σ H R I h
 refine thn (hl pins s σ H _ I h) λv s1 z=>?_
 obtain⟨x,H1,I1,r1,q1⟩:=z
 obtain⟨a,e,q1⟩:=q1
 subst e
 cases r1
 rcases q1 with⟨⟨xs,hq⟩,q⟩|⟨⟨xs,hq⟩,q⟩
 .obtain⟨its,rv,p,hz⟩:=I1.list hq
  refine wc p.isList ?_
  refine⟨s1.heap.objs.size,[s1.heap.objs.size],_,_,H1,rfl,I1.kept (t':=s1.toks) λb o e=>uR _ e,UY a _,⟨_,uy _ rfl,rfl,rfl⟩,λb hb=>?_,q⟩
  have e:b=s1.heap.objs.size:=by simpa using hb
  subst e
  exact I1.dN (ue _) (I1.hok.fresh (ue _))
 .obtain⟨its,rv,p,hz⟩:=I1.tuple hq
  refine wq (show s1.heap.IsTuple a its.toArray from p) ?_
  refine⟨s1.heap.objs.size,[s1.heap.objs.size],_,_,H1,rfl,I1.kept (t':=s1.toks) λb o e=>uR _ e,TJ a _,⟨_,uy _ rfl,rfl,rfl⟩,λb hb=>?_,q⟩
  have e:b=s1.heap.objs.size:=by simpa using hb
  subst e
  exact I1.dN (ue _) (I1.hok.fresh (ue _))
def Af.get'(h:Af K M H vs ds)(hi:i<ds.length):∃x,vs[i]?=Gc x:=by
 have:=h.length
 exact⟨vs[i],uT (by lia)⟩
structure SqF(K:W1)(M:Ms)(H:Hp)(gs:Gd)(k:va)(a:ug)(ds:Wp D):Prop where
 keep:∀(H2:Hp) (M2:Ms) (S2:Sto),Sp1 M H M2 H2->StR K M2 S2 H2->gOk gs S2->∃xs,(if k=true then SqT K H2 a xs else SqL K H2 a xs)/\Af K M2 H2 xs ds
noncomputable def sqD(S:Sto):D->uS (Wp D×Gd)
 | .tup ds=>Gc (ds,[])
 | .lst ds=>Gc (ds,[])
 | .ref n=>(Em S n).map λds=>(ds,[(n,ds)])
 | .scr ns=>Gc (ns.map .int,[])
 |_=>none
def Ri(st:StR K M S H)(h:BN K M H v d)(e:sqD S d=Gc (ds,gs)):∃k a,v=.ref a/\SqF K M H gs k a ds:=by
 cases h with
 |tup h r=>cases e;exact⟨true,_,rfl,⟨λH2 M2 S2 g _ _=>⟨_,g.sqT h,r.step g⟩⟩⟩
 |lst h n r=>cases e;exact⟨false,_,rfl,⟨λH2 M2 S2 g _ _=>⟨_,SqL.of (g.keep _ _ h n),r.step g⟩⟩⟩
 |scr h=>
  cases e
  refine⟨false,_,rfl,⟨λH2 M2 S2 g _ _=>⟨_,?_,LH⟩⟩⟩
  rcases h with⟨h,n⟩|h
  .rcases h with h|⟨o,h⟩
   .exact .inl (.inl (g.keep _ _ h n))
   .exact .inl (.inr ⟨o,g.keep _ _ h n⟩)
  .exact .inr h
 |ref h=>
  obtain⟨es,e1,e⟩:=IV e
  cases e
  refine⟨false,_,rfl,⟨λH2 M2 S2 g st2 ok=>?_⟩⟩
  obtain⟨xs,h1,h2⟩:=st2.cell _ _ _ (Lr g.pre h) (FC (ok _ (vR.mpr rfl)))
  exact⟨xs,SqL.of h1,h2⟩
 |non=>cases e
 |bl b=>cases e
 |int b=>cases e
 |str b=>cases e
 |ty b=>cases e
 |dct h n r=>cases e
def nW(h:SqF K M H gs k a ds):iG K M H gs ds (if k=true then Itt K a else Itl K a):=by
 cases k with
 |true=>
  exact{
   go:=λi H2 M2 S2 g st ok hi=>let⟨xs,h1,h2⟩:=h.keep H2 M2 S2 g st ok;let⟨x,hx⟩:=h2.get' hi;⟨xs,x,h1,hx⟩
   stop:=λi H2 M2 S2 g st ok hi=>let⟨xs,h1,h2⟩:=h.keep H2 M2 S2 g st ok;⟨xs,h1,by have:=h2.length;lia⟩
   yld:=λi H2 M2 S2 x H3 d g st ok hd hy=>by
    obtain⟨xs,h1,h2⟩:=h.keep H2 M2 S2 g st ok
    obtain⟨rfl,hy⟩:=hy
    refine⟨λ_ _ e=>e,?_⟩
    have hx:=hy xs h1
    obtain⟨x',h3,h4⟩:=h2.get hd
    rw[hx]at h3;cases h3
    exact h4}
 |false=>
  exact{
   go:=λi H2 M2 S2 g st ok hi=>let⟨xs,h1,h2⟩:=h.keep H2 M2 S2 g st ok;let⟨x,hx⟩:=h2.get' hi;⟨xs,x,h1,hx⟩
   stop:=λi H2 M2 S2 g st ok hi=>let⟨xs,h1,h2⟩:=h.keep H2 M2 S2 g st ok;⟨xs,h1,by have:=h2.length;lia⟩
   yld:=λi H2 M2 S2 x H3 d g st ok hd hy=>by
    obtain⟨xs,h1,h2⟩:=h.keep H2 M2 S2 g st ok
    obtain⟨rfl,hy⟩:=hy
    refine⟨λ_ _ e=>e,?_⟩
    have hx:=hy xs h1
    obtain⟨x',h3,h4⟩:=h2.get hd
    rw[hx]at h3;cases h3
    exact h4}
noncomputable def F1(f:Ev):Sr:=λE S=>(f E S).bind λr=>(sqD r.2 r.1).map λp=>(p,r.2)
def OX(e:sqD S d=Gc (ds,gs)):gOk gs S:=by
 cases d<;>first|(cases e;done)|skip
 all_goals first
  |(cases e;intro g hg;cases hg;done)
  |(obtain⟨es,e1,e⟩:=IV e
    cases e
    intro g hg
    rw[vR.mp hg]
    exact e1)
def Yt(h:DE X e f):DI X tg e (F1 f):=⟨N2 (jR h.pe) λσ H R z=>by
 obtain⟨M,E,S,ds,gs,S',e,r,st,q⟩:=z
 obtain⟨⟨d,S1⟩,e1,e⟩:=Ab e
 obtain⟨⟨ds',gs'⟩,e2,e⟩:=IV e
 cases e
 refine⟨M,E,S,d,S1,e1,r,st,λv H1 M1 g1 st1 r1=>?_⟩
 obtain⟨k,a,rfl,sq⟩:=Ri st1 r1 e2
 obtain⟨xs,hs,_⟩:=sq.keep H1 M1 S1 (Gr.refl st1.mo).st st1 (OX e2)
 have it:=nW sq
 refine⟨a,rfl,?_⟩
 cases k with
 |true=>exact .inr ⟨⟨xs,hs⟩,q _ _ M1 g1 st1 it⟩
 |false=>exact .inl ⟨⟨xs,hs⟩,q _ _ M1 g1 st1 it⟩⟩
noncomputable def Nd(lo:Int)(n:Nat):Wp D:=(u7 n).map λ(i:Nat)=>.int (lo+(i:Int))
theorem jw:iG K M H [] (Nd lo n) (Itr lo n) where
 go:=λi H2 M2 S2 g st ok hi=>by
  have:i<n:=by unfold Nd at hi;simpa using hi
  exact this
 stop:=λi H2 M2 S2 g st ok hi=>by
  have:n<=i:=by unfold Nd at hi;simpa using hi
  exact this
 yld:=λi H2 M2 S2 x H3 d g st ok hd hy=>by
  obtain⟨rfl,rfl⟩:=hy
  refine⟨λ_ _ e=>e,?_⟩
  unfold Nd at hd
  rw[uo]at hd
  cases e:(u7 n)[i]? with
  |none=>rw[e]at hd;cases hd
  |some j=>
   rw[e]at hd
   cases hd
   have:j=i:=by
    obtain⟨h1,h2⟩:=ua.mp e
    simpa using h2.symm
   subst this
   exact .int _
noncomputable def Ow(fs:Wp Ev):Sr:=λE S=>(evs fs E S).bind λr=>match r.1 with
 | [.int j]=>if(decide (-(2^62)<=j) && decide (j<2^62))=true then Gc ((Nd 0 j.toNat,[]),r.2)else none
 | [.int i,.int j]=>if(decide (-(2^62)<=i) && decide (i<2^62) && decide (-(2^62)<=j) && decide (j<2^62))=true then Gc ((Nd i (j-i).toNat,[]),r.2)else none
 |_=>none
def RF(h:Af K M H vs [.int j]):vs=[.int j]:=by
 cases h with
 |cons h t=>cases t;cases h;rfl
def O5(h:Af K M H vs [.int i,.int j]):vs=[.int i,.int j]:=by
 cases h with
 |cons h t=>cases h;cases RF t;rfl
def QQ(hg:Gl X "range")(hm:X.mg "range"=none)(ha:DEs X [a] [o])(hs:zn (uf [a] X.env=[(false,eval a X.env)]) ww):DI X tg (.Call (.Name "range" p) [a] [] pos) (Ow [o]):=⟨
 N2 (UZ hg hm ha.pe hs) λσ H R z=>by
  obtain⟨M,E,S,ds,gs,S',e,r,st,q⟩:=z
  obtain⟨⟨ws,S1⟩,e1,e⟩:=Ab e
  have hl:=Ht e1
  refine EZ e1 r st λvs H1 M1 g1 st1 r1=>?_
  dsimp only at e
  split at e
  .split at e
   .rename_i j hk
    rw[uc]at hk
    cases e
    exact⟨j,RF r1,uu hk.1,uu hk.2,q _ _ M1 g1 st1 jw⟩
   .cases e
  .simp at hl
  .cases e⟩
open Classical in
def Lx(gs:Gd)(t:Tf)(body:Ex):Wp D->En->Sto->uS (Fl×En×Sto)
 | [],E,S=>if gOk gs S then Gc (.nx,E,S)else none
 |d::ds,E,S=>if gOk gs S then(t d E S).bind λE1=>(body E1 S).bind λr=>match r.1 with
  | .nx=>Lx gs t body ds r.2.1 r.2.2
  | .ret w=>Gc (.ret w,r.2)
  else none
def M8(s:Sr)(t:Tf)(body:Ex):Ex:=λE S=>(s E S).bind λr=>Lx r.1.2 t body r.1.1 E r.2
def PK{α:Type}{xs:Wp α}{x:α}{r:Wp α}(h:xs.drop i=x::r):xs[i]?=Gc x/\xs.drop (i+1)=r/\i<xs.length:=by
 have hi:i<xs.length:=by
  by_cases hi:i<xs.length
  .exact hi
  .rw[v5 (by lia)]at h;cases h
 rw[vQ hi]at h
 cases h
 exact⟨uT hi,rfl,hi⟩
def ZC(hp:PassesOwn (model X.prog X.w) X.A X.env X.xe)(hc:X.calm=true)(hi:DI X tg iter s)(hg:DG X tg t)(hb:DSs X body b)(hs:zn (∀x,foldedSetIterable iter X.env x=pure x) xL):DS X (.For tg iter body [] pos) (M8 s t b):=⟨FY (fN hp hc hi.pe hg.pe hb.pe hs) λDn σ H z=>by
 obtain⟨M,E,S,fl,E',S',e,r,st,q⟩:=z
 obtain⟨⟨⟨ds,gs⟩,S1⟩,e1,e⟩:=Ab e
 dsimp only at e
 refine⟨M,E,S,ds,gs,S1,e1,r,st,λJ H1 M1 g1 st1 it=>?_⟩
 refine⟨λi m σ' H'=>m=ds.length-i/\∃E2 S2 M2,Lx gs t b (ds.drop i) E2 S2=Gc (fl,E',S')/\Gr M1 H1 M2 H'/\EnR X.K M2 E2 σ' H'/\StR X.K M2 S2 H',⟨_,rfl,E,S1,M1,e,.refl st1.mo,r.step g1.st,st1⟩,λi m σ2 H2 hW=>?_⟩
 obtain⟨rfl,E2,S2,M2,e2,g2,r2,st2⟩:=hW
 cases ed:ds.drop i with
 |nil=>
  rw[ed]at e2
  unfold Lx at e2
  split at e2
  .rename_i ok
   cases e2
   left
   exact⟨it.stop i H2 M2 _ g2.st st2 ok (ABY.mp ed),q _ _ M2 (g1.trans g2) r2 st2⟩
  .cases e2
 |cons d rest=>
  obtain⟨d1,d2,d3⟩:=PK ed
  rw[ed]at e2
  unfold Lx at e2
  split at e2
  .rename_i ok
   obtain⟨E3,e3,e2⟩:=Ab e2
   obtain⟨⟨f4,E4,S4⟩,e4,e2⟩:=Ab e2
   dsimp only at e2
   right
   refine⟨it.go i H2 M2 S2 g2.st st2 ok d3,λσ' H'=>∃m',m'<ds.length-i/\(m'=ds.length-(i+1)/\∃E2 S2 M2,Lx gs t b (ds.drop (i+1)) E2 S2=Gc (fl,E',S')/\Gr M1 H1 M2 H'/\EnR X.K M2 E2 σ' H'/\StR X.K M2 S2 H'),λσ' H' z=>z,λx H3 hy=>?_⟩
   obtain⟨k3,rx⟩:=it.yld i H2 M2 S2 x H3 d g2.st st2 ok d1 hy
   have g3:Gr M2 H2 M2 H3:=.grow st2.mo k3
   refine⟨M2,d,E2,E3,S2,e3,r2.step g3.st,st2.grow k3,rx,λσ4 r4=>?_⟩
   refine⟨M2,E3,S2,f4,E4,S4,e4,r4,st2.grow k3,?_⟩
   split at e2
   .exact λσ6 H6 M6 g6 r6 st6=>⟨_,by lia,rfl,E4,S4,M6,by rw[d2];exact e2,(g2.trans g3).trans g6,r6,st6⟩
   .cases e2
    exact λv H6 M6 g6 st6 r6=>q _ _ M6 (((g1.trans g2).trans g3).trans g6) st6 r6
  .cases e2⟩
noncomputable def HR(c:Ev)(b:Ex):Nat->En->Sto->uS (Fl×En×Sto)
 |0,_,_=>none
 |k+1,E,S=>(c E S).bind λr=>match r.1 with
  | .bl true=>(b E r.2).bind λp=>match p.1 with
    | .nx=>HR c b k p.2.1 p.2.2
    | .ret w=>Gc (.ret w,p.2)
  | .bl false=>Gc (.nx,E,r.2)
  |_=>none
noncomputable def Pg(fuel:En->Nat)(c:Ev)(b:Ex):Ex:=λE S=>HR c b (fuel E) E S
def lY fuel(hp:PassesOwn (model X.prog X.w) X.A X.env X.xe)(hc:DT X c k)(hb:DSs X body b):DS X (.While c body [] pos) (Pg fuel k b):=⟨
 FY (Xl hp hc.pe hb.pe) λDn σ H z=>by
  obtain⟨M,E,S,fl,E',S',e,r,st,q⟩:=z
  refine⟨λm σ' H'=>∃E2 S2 M2,HR k b m E2 S2=Gc (fl,E',S')/\Gr M H M2 H'/\EnR X.K M2 E2 σ' H'/\StR X.K M2 S2 H',⟨fuel E,E,S,M,e,.refl st.mo,r,st⟩,λm σ2 H2 hW=>?_⟩
  obtain⟨E2,S2,M2,e2,g2,r2,st2⟩:=hW
  cases m with
  |zero=>cases e2
  |succ m=>
   obtain⟨⟨w3,S3⟩,e3,e2⟩:=Ab e2
   dsimp only at e2
   split at e2
   .obtain⟨⟨f4,E4,S4⟩,e4,e2⟩:=Ab e2
    refine⟨M2,E2,S2,true,S3,e3,r2,st2,λH3 M3 g3 st3=>?_⟩
    refine Za ⟨λσ' H'=>∃m',m'<m+1/\∃E2 S2 M2,HR k b m' E2 S2=Gc (fl,E',S')/\Gr M H M2 H'/\EnR X.K M2 E2 σ' H'/\StR X.K M2 S2 H',λσ' H' z=>z,?_⟩
    refine⟨M3,E2,S3,f4,E4,S4,e4,r2.step g3.st,st3,?_⟩
    dsimp only at e2
    split at e2
    .exact λσ5 H5 M5 g5 r5 st5=>⟨m,by lia,E4,S4,M5,e2,(g2.trans g3).trans g5,r5,st5⟩
    .cases e2
     exact λv H5 M5 g5 st5 r5=>q _ _ M5 ((g2.trans g3).trans g5) st5 r5
   .cases e2
    refine⟨M2,_,S2,false,_,e3,r2,st2,λH3 M3 g3 st3=>?_⟩
    refine ZW ?_
    exact q _ _ M3 (g2.trans g3) (r2.step g3.st) st3
   .cases e2⟩
noncomputable def Ur(i:Nat):En->Nat:=λE=>match at? E i with
 |some (.int j)=>j.natAbs+2
 |_=>0
section
variable{M M' M2:Ms}{H H' H2:Hp}{S:Sto}
structure GrX(M:Ms)(H:Hp)(M':Ms)(H':Hp):Prop where
 pre:M.cel <+: M'.cel
 fresh:∀a,a∈M'.cel->a∈M.cel\/H a=none
 keep:∀a o,H a=Gc o->a∉M.cel->H' a=Gc o
 some:∀a,H a≠none->H' a≠none
def GrX.none(g:GrX M H M' H')(h:H' a=none):H a=none:=by
 cases e:H a with
 |none=>rfl
 |some o=>exact absurd h (g.some a (by rw[e];intro z;cases z))
def Gr.x(g:Gr M H M' H'):GrX M H M' H':=⟨g.pre,g.fresh,g.keep,g.some⟩
def GrX.trans(h:GrX M H M' H')(g:GrX M' H' M2 H2):GrX M H M2 H2:=
 ⟨h.pre.trans g.pre,λa z=>(g.fresh a z).elim (h.fresh a) λz=>.inr (h.none z),λa o e n=>g.keep a o (h.keep a o e n) (λz=>by
   rcases h.fresh a z with z|z
   .exact n z
   .rw[e]at z;cases z),λa e=>g.some a (h.some a e)⟩
def StR.iQ(r:StR K M S H)(e:H a=none):StR K ⟨M.cel,a::M.tmp⟩ S (upd H a (.lst []))/\GrX M H ⟨M.cel,a::M.tmp⟩ (upd H a (.lst []))/\Sp1 M H ⟨M.cel,a::M.tmp⟩ (upd H a (.lst [])):=by
 have k:∀b o,H b=Gc o->upd H a (.lst []) b=Gc o:=CP e
 have na:¬M.mem a:=λz=>r.mo.some z e
 have s1:Sp1 M H ⟨M.cel,a::M.tmp⟩ (upd H a (.lst [])):=⟨r.mo,vk,λb z=>by
  rcases z with z|z
  .exact .inl (.inl z)
  .rcases uZ.mp z with z|z
   .subst z;exact .inr e
   .exact .inl (.inr z),λb o eb _=>k b o eb⟩
 refine⟨⟨λb z=>?_,r.nd,λb hb z=>?_,r.len,λn b c h1 h2=>?_⟩,⟨vk,λb z=>.inl z,λb o eb _=>k b o eb,λb eb z=>?_⟩,s1⟩
 .by_cases h:b=a
  .subst h;exact⟨_,AX,trivial⟩
  .rw[AM h]
   refine r.mo b ?_
   rcases z with z|z
   .exact .inl z
   .rcases uZ.mp z with z|z
    .exact absurd z h
    .exact .inr z
 .rcases uZ.mp hb with hb|hb
  .subst hb;exact na (.inl z)
  .exact r.nt b hb z
 .exact(r.cell n b c h1 h2).step s1 λo e=>k _ _ e
 .cases h:H b with
  |none=>exact eb h
  |some o=>rw[k b o h]at z;cases z
def StR.Z0(r:StR K M S H)(ha:a∈M.tmp):StR K M S (upd H a (.lst ys))/\Sp1 M H M (upd H a (.lst ys)):=by
 have s1:Sp1 M H M (upd H a (.lst ys)):=⟨r.mo,vk,λb z=>.inl z,λb o eb nb=>by rw[AM (λz=>nb (by rw[z];exact .inr ha))];exact eb⟩
 refine⟨⟨λb z=>?_,r.nd,r.nt,r.len,λn b c h1 h2=>?_⟩,s1⟩
 .by_cases h:b=a
  .subst h;exact⟨_,AX,trivial⟩
  .rw[AM h];exact r.mo b z
 .have hb:b≠a:=λz=>r.nt a ha (by rw[<-z];exact uw h1)
  exact(r.cell n b c h1 h2).step s1 λo e=>by rw[AM hb];exact e
def StR.bB(r:StR K ⟨c,a::t⟩ S H)(nt:a∉t)(e:H a=Gc (.lst xs))(rr:Af K ⟨c,a::t⟩ H xs ds)(ef:fin cf (.own ds) S=Gc (d,S')):∃c',StR K ⟨c',t⟩ S' H/\BN K ⟨c',t⟩ H (.ref a) d/\c <+: c'/\(∀b∈c',b∈c\/b=a):=by
 have nc:a∉c:=r.nt a um
 cases cf with
 |false=>
  cases ef
  have s1:Sp1 ⟨c,a::t⟩ H ⟨c,t⟩ H:=⟨r.mo,vk,λb z=>.inl (z.imp id (uX _)),λ_ _ e _=>e⟩
  refine⟨c,⟨λb z=>r.mo b (z.imp id (uX _)),r.nd,λb hb=>r.nt b (uX _ hb),r.len,λn b cl h1 h2=>?_⟩,.lst e (λz=>z.elim nc nt) (rr.step s1),vk,λb z=>.inl z⟩
  exact(r.cell n b cl h1 h2).step s1 λo e=>e
 |true=>
  cases ef
  have s1:Sp1 ⟨c,a::t⟩ H ⟨c++[a],t⟩ H:=⟨r.mo,xT _ _,λb z=>by
   rcases z with z|z
   .rcases vE.mp z with z|z
    .exact .inl (.inl z)
    .exact .inl (.inr (by rw[vR.mp z];exact um))
   .exact .inl (.inr (uX _ z)),λ_ _ e _=>e⟩
  have hl:c.length=S.length:=r.len
  refine⟨c++[a],⟨λb z=>?_,?_,λb hb z=>?_,by simp[hl],λn b cl h1 h2=>?_⟩,.ref ?_,xT _ _,λb z=>?_⟩
  .refine r.mo b ?_
   rcases z with z|z
   .rcases vE.mp z with z|z
    .exact .inl z
    .exact .inr (by rw[vR.mp z];exact um)
   .exact .inr (uX _ z)
  .rw[yW]
   refine⟨r.nd,by simp,λx hx y hy z=>?_⟩
   simp at hy;subst hy
   exact nc (by rw[<-z];exact hx)
  .rcases vE.mp z with z|z
   .exact r.nt b (uX _ hb) z
   .rw[vR.mp z]at hb;exact nt hb
  .by_cases h:n<S.length
   .rw[uU (by rw[hl];exact h)]at h1
    rw[uU h]at h2
    exact(r.cell n b cl h1 h2).step s1 λo e=>e
   .have hm:n=S.length:=by
     have:=(ua.mp h2).1
     simp at this;lia
    subst hm
    rw[vJ (by rw[hl];exact ue _)]at h1
    rw[vJ (ue _)]at h2
    rw[hl]at h1
    simp at h1 h2
    subst h1 h2
    exact⟨xs,e,rr.step s1⟩
  .rw[<-hl];exact uz
  .rcases vE.mp z with z|z
   .exact .inl z
   .exact .inr (vR.mp z)
end
open Classical in
def BZ(gs:Gd)(t:Tf)(c:Ev)(f:Ev):Wp D->Wp D->En->Sto->uS (Wp D×Sto)
 | [],acc,_,S=>if gOk gs S then Gc (acc,S)else none
 |d::ds,acc,E,S=>if gOk gs S then(if acc.length<sizeLine then(t d E S).bind λE1=>(c E1 S).bind λr=>match r.1 with
   | .bl true=>(f E1 r.2).bind λp=>BZ gs t c f ds (acc++[p.1]) E1 p.2
   | .bl false=>BZ gs t c f ds acc E1 r.2
   |_=>none
  else none)else none
noncomputable def BI:Ev:=λ_ S=>Gc (.bl true,S)
noncomputable def NB(cap:Wp Nat)(m:Nat)(E:En):En:=cap.map (at? E)++uq m none
def Na(cf:va)(cap:Wp Nat)(m:Nat)(s:Sr)(t:Tf)(c:Ev)(f:Ev):Ev:=λE S=>(s E S).bind λr=>(BZ r.1.2 t c f r.1.1 [] (NB cap m E) r.2).bind λq=>fin cf (.own q.1) q.2
noncomputable abbrev Be:=Na false
noncomputable abbrev ZF:=Na true
noncomputable def ixC(cap:Wp Nat)(m:Nat):Wp (uS Nat):=cap.map Gc++uq m none
def EnR.cap(r:EnR K M E σ H) cap m:EnR K M (NB cap m E) (sig (ixC cap m) σ) H:=by
 unfold NB sig ixC
 refine⟨by simp,λi d e=>?_⟩
 have h1:=UK e
 rw[uo]at h1
 cases e1:cap[i]? with
 |none=>rw[e1]at h1;cases h1
 |some j=>
  rw[e1]at h1
  have h2:at? E j=Gc d:=by simpa using h1
  obtain⟨v,hv,rd⟩:=r.val j d (at?_some h2)
  refine⟨v,?_,rd⟩
  have hi:i<cap.length:=(ua.mp e1).1
  rw[wW,uU (by simpa using hi),uo,uo,e1]
  show Gc ((σ[j]?).join)=Gc (Gc v)
  rw[hv]
  rfl
def U2(h:tD K (Na cf cap m s t c f) σ H Q):c8 (ixC cap m) (tI K s) (tG K t) (tDT K c) (tD K f) σ H Q:=by
 obtain⟨M,E,S,d,S',e,r,st,q⟩:=h
 obtain⟨⟨⟨ds,gs⟩,S1⟩,e1,e⟩:=Ab e
 obtain⟨⟨accf,Sf⟩,e3,e⟩:=Ab e
 dsimp only at e e3
 refine⟨M,E,S,ds,gs,S1,e1,r,st,λJ H1 M1 g1 st1 it A0 hD=>?_⟩
 obtain⟨st0,gx0,s0⟩:=st1.iQ hD
 have nt:A0∉M1.tmp:=λz=>st1.mo.some (.inr z) hD
 refine⟨λi mm σ' H' ys=>mm=ds.length-i/\∃Ei Si Mi acc,BZ gs t c f (ds.drop i) acc Ei Si=Gc (accf,Sf)/\GrX M1 H1 Mi H'/\Mi.tmp=A0::M1.tmp/\EnR K Mi Ei σ' H'/\StR K Mi Si H'/\H' A0=Gc (.lst ys)/\Af K Mi H' ys acc,
  ⟨_,rfl,_,S1,_,[],e3,gx0,rfl,((r.step g1.st).step s0).cap cap m,st0,AX,.nil⟩,λi mm σ2 H2 ys hW=>?_⟩
 obtain⟨rfl,Ei,Si,Mi,acc,ec,gx,ht,r2,st2,hy,ry⟩:=hW
 have sp:Sp1 M1 H1 Mi H2:=⟨st1.mo,gx.pre,λa z=>by
  rcases z with z|z
  .exact(gx.fresh a z).imp .inl id
  .rw[ht]at z
   rcases uZ.mp z with z|z
   .subst z;exact .inr hD
   .exact .inl (.inr z),λa o eo no=>gx.keep a o eo λz=>no (.inl z)⟩
 refine⟨hy,?_⟩
 cases ed:ds.drop i with
 |nil=>
  rw[ed]at ec
  unfold BZ at ec
  split at ec
  .rename_i ok
   cases ec
   left
   obtain⟨ci,ti⟩:=Mi
   have ht':ti=A0::M1.tmp:=ht
   subst ht'
   obtain⟨c',st',rd',pr',sub'⟩:=st2.bB nt hy ry e
   refine⟨it.stop i H2 _ _ sp st2 ok (ABY.mp ed),q _ _ ⟨c',M1.tmp⟩ (g1.trans ⟨st1.mo,gx.pre.trans pr',rfl,λa z=>?_,gx.keep,gx.some⟩) st' rd'⟩
   rcases sub' a z with z|z
   .exact gx.fresh a z
   .subst z;exact .inr hD
  .cases ec
 |cons d rest=>
  obtain⟨d1,d2,d3⟩:=PK ed
  rw[ed]at ec
  unfold BZ at ec
  split at ec
  .rename_i ok
   split at ec
   .rename_i hz
    obtain⟨E3,e4,ec⟩:=Ab ec
    obtain⟨⟨w5,S5⟩,e5,ec⟩:=Ab ec
    right
    refine⟨it.go i H2 Mi Si sp st2 ok d3,by rw[ry.length];exact hz,λx H3 hyl=>?_⟩
    obtain⟨k3,rx⟩:=it.yld i H2 Mi Si x H3 d sp st2 ok d1 hyl
    have g3:Gr Mi H2 Mi H3:=.grow st2.mo k3
    have st3:=st2.grow k3
    refine⟨Mi,d,Ei,E3,Si,e4,r2.step g3.st,st3,rx,λσ4 r4=>?_⟩
    have hA:A0∈Mi.tmp:=by rw[ht];exact um
    have hy3:H3 A0=Gc (.lst ys):=k3 _ _ hy
    have ry3:Af K Mi H3 ys acc:=ry.step g3.st
    have fin:∀{E6:En} {S6:Sto} {M6:Ms} {H6:Hp} {zs:Wp V} {acc6:Wp D},BZ gs t c f rest acc6 E6 S6=Gc (accf,Sf)->GrX M1 H1 M6 H6->M6.tmp=A0::M1.tmp->EnR K M6 E6 σ4 H6->StR K M6 S6 H6->H6 A0=Gc (.lst zs)->Af K M6 H6 zs acc6->
      ∃m',m'<ds.length-i/\(m'=ds.length-(i+1)/\∃Ei Si Mi acc,BZ gs t c f (ds.drop (i+1)) acc Ei Si=Gc (accf,Sf)/\GrX M1 H1 Mi H6/\Mi.tmp=A0::M1.tmp/\EnR K Mi Ei σ4 H6/\StR K Mi Si H6/\H6 A0=Gc (.lst zs)/\Af K Mi H6 zs acc):=
     λ{E6 S6 M6 H6 zs acc6} ec g6 t6 r6 st6 h6 y6=>⟨_,by lia,rfl,E6,S6,M6,acc6,by rw[d2];exact ec,g6,t6,r6,st6,h6,y6⟩
    dsimp only at ec
    split at ec
    .obtain⟨⟨w7,S7⟩,e7,ec⟩:=Ab ec
     refine⟨Mi,E3,Si,true,S5,e5,r4,st3,λH5 M5 g5 st5=>?_⟩
     refine Za ?_
     refine⟨M5,E3,S5,w7,S7,e7,r4.step g5.st,st5,λy H7 M7 g7 st7 d7=>?_⟩
     have nA:∀{M6:Ms} {H6:Hp} {S6:Sto},StR K M6 S6 H6->A0∈M6.tmp->A0∉M6.cel:=λr6 h6=>r6.nt A0 h6
     have hA5:A0∈M5.tmp:=by rw[g5.tmp];exact hA
     have hA7:A0∈M7.tmp:=by rw[g7.tmp];exact hA5
     have hy5:H5 A0=Gc (.lst ys):=g5.keep _ _ hy3 (nA st3 hA)
     have hy7:H7 A0=Gc (.lst ys):=g7.keep _ _ hy5 (nA st5 hA5)
     have ry7:Af K M7 H7 ys acc:=(ry3.step g5.st).step g7.st
     refine⟨hy7,?_⟩
     obtain⟨st8,s8⟩:=st7.Z0 (ys:=ys++[y]) hA7
     have gx7:GrX M1 H1 M7 H7:=((gx.trans g3.x).trans g5.x).trans g7.x
     have gx8:GrX M1 H1 M7 (upd H7 A0 (.lst (ys++[y]))):=⟨gx7.pre,gx7.fresh,λa o eo no=>by
      rw[AM (λz=>by subst z;rw[hD]at eo;cases eo)]
      exact gx7.keep a o eo no,λa ea=>by
      by_cases h:a=A0
      .subst h;rw[AX];intro z;cases z
      .rw[AM h];exact gx7.some a ea⟩
     exact fin ec gx8 (by rw[g7.tmp,g5.tmp];exact ht) (((r4.step g5.st).step g7.st).step s8) st8 AX ((ry7.append (.cons d7 .nil)).step s8)
    .refine⟨Mi,E3,Si,false,S5,e5,r4,st3,λH5 M5 g5 st5=>?_⟩
     refine ZW ?_
     exact fin ec ((gx.trans g3.x).trans g5.x) (by rw[g5.tmp];exact ht) (r4.step g5.st) st5 (g5.keep _ _ hy3 (st3.nt A0 hA)) (ry3.step g5.st)
    .cases ec
   .cases ec
  .cases ec
structure DTs(X:Cx)(ifs:Wp vj)(c:Ev):Prop where
 pe:PTs X ifs (tDT X.K c)
def YY(h:PTs X e t)(m:∀σ H Q,t' σ H Q->t σ H Q):PTs X e t':=λpins s σ H Q I q=>h pins s σ H Q I (m _ _ _ q)
def Qa:DTs X [] BI:=⟨YY c9 λσ H Q z=>by
 obtain⟨M,E,S,b,S',e,r,st,q⟩:=z
 cases e
 exact q _ M (.refl st.mo) st⟩
def cm(h:DT X c f):DTs X [c] f:=⟨dz h.pe⟩
section
variable{X:Cx}{N':Wp Str}{cf:va}{scope:wY}{elt tg iter:vj}{pos:Pos}{t:Tf}
def Blk(X:Cx)(N':Wp Str)(scope:wY)(tg:vj)(ifs:Wp vj)(elt:vj)(t:Tf)(c f:Ev):Prop:=
 ∀(s:uj) (H:Hp) (fp:Wp ug),DG (He X N' scope s H fp) tg t/\DTs (He X N' scope s H fp) ifs c/\DE (He X N' scope s H fp) elt f
def Qx cap m N'(hc:X.calm=true)(S:AO X.N X.env.scope N' (ixC cap m) scope)(hi:DI X tg iter s)(hb:Blk X N' scope tg ifs elt t c f)(hs:zn (∀x,foldedSetIterable iter X.env x=pure x) xL):DE X (.ListComp elt [⟨tg,iter,ifs,0⟩] scope pos) (Na cf cap m s t c f):=⟨
 Ax (dP (g:=tG X.K t) (tc:=tDT X.K c) (te:=tD X.K f) hc S hi.pe (λs H fp=>⟨(hb s H fp).1.pe,(hb s H fp).2.1.pe,(hb s H fp).2.2.pe⟩) hs) λ_ _ _ h=>U2 h⟩
def To{py spos:Pos} cap m N'(hc:X.calm=true)(hN:X.N.Nodup)(hi':X.N[i]?=Gc y)(hx:X.env.scope.names.lookup y=Gc .local)(S:AO X.N X.env.scope N' (ixC cap m) scope)(hi:DI X tg iter s)(hb:Blk X N' scope tg ifs elt t c f)(hsw:zn (swapsWith (.ListComp elt [⟨tg,iter,ifs,0⟩] scope pos) (Gc (.Name y py)) spos.line X.env=pure true) ww)(hs:zn (∀x,foldedSetIterable iter X.env x=pure x) xL):DS X (.Assign [.Name y py] (.ListComp elt [⟨tg,iter,ifs,0⟩] scope pos) spos) (Az i (Na cf cap m s t c f)):=⟨
 FY (TC (g:=tG X.K t) (tc:=tDT X.K c) (te:=tD X.K f) hc hN hi' hx S hi.pe (λs H fp=>⟨(hb s H fp).1.pe,(hb s H fp).2.1.pe,(hb s H fp).2.2.pe⟩) hsw hs) λDn σ H z=>by
  obtain⟨M,E,S,fl,E',S',e,r,st,q⟩:=z
  obtain⟨⟨d,S1⟩,e1,e⟩:=IV e
  cases e
  exact U2 ⟨M,E,S,d,S1,e1,r,st,λv H1 M1 g1 st1 r1=>q _ _ M1 g1 ((r.step g1.st).put r1) st1⟩⟩
end
noncomputable def IJ{α:Type}(xs:Wp α)(lo hi:uS Int):Wp α:=(xs.drop (HT.sIx xs.length 0 lo)).take (HT.sIx xs.length xs.length hi-HT.sIx xs.length 0 lo)
def VF(h:Af K M H xs ds) lo hi:Af K M H (Zt xs lo hi) (IJ ds lo hi):=by
 unfold Zt IJ
 rw[h.length]
 exact(h.drop _).take _
def Ul{xs:Wp α}(h1:HT.sIx xs.length 0 lo=0)(h2:HT.sIx xs.length xs.length hi=xs.length):IJ xs lo hi=xs:=by
 unfold IJ
 rw[h1,h2]
 simp
noncomputable def wSl(lo hi:uS Int):Op1:=λw=>match w with
 | .val (.tup ds)=>Gc (.val (.tup (IJ ds lo hi)))
 | .val (.str z)=>if z.length<=sizeLine then Gc (.val (.str (Txt.slice z lo hi)))else none
 |w=>(asL w).map λds=>.own (IJ ds lo hi)
def r9(K:W1):V->uS Int->uS Int->Hp->VK->Prop:=λx lo hi H Q=>∃M w r,wSl lo hi w=Gc r/\MOk M H/\Sh K M H x w/\∀v H',Nw K M H H' v r->Q v H'
def kN:SlR X (λx lo hi H Q=>∃z,x=.str z/\z.length<=sizeLine/\Q (.str (Txt.slice z lo hi)) H):=by
 intro pins s σ H x v vl vu lo hi sl Q I rx hs pl pu h
 obtain⟨z,rfl,hz,q⟩:=h
 obtain⟨t,rfl⟩:=rx
 have fin:∀t' k,EP X pins σ Q (.str (Txt.slice z lo hi) t') {s with toks:=k}:=λt' k=>⟨.str _,H,I.tok k,⟨t',rfl⟩,q⟩
 cases pl with
 |none=>
  cases pu with
  |none=>exact⟨"str",_,xw.lookup,AA4 _ _ _,x9 (l:=none) (u:=none) (st:=none) hs rfl (zt ⟨ub (AA7 z _ _) hz,fin⟩)⟩
  |int j u=>exact⟨"str",_,xw.lookup,AA4 _ _ _,x9 (l:=none) (u:=Gc (j,u)) (st:=none) hs rfl (zt ⟨ub (AA7 z _ _) hz,fin⟩)⟩
 |int i u'=>
  cases pu with
  |none=>exact⟨"str",_,xw.lookup,AA4 _ _ _,x9 (l:=Gc (i,u')) (u:=none) (st:=none) hs rfl (zt ⟨ub (AA7 z _ _) hz,fin⟩)⟩
  |int j u=>exact⟨"str",_,xw.lookup,AA4 _ _ _,x9 (l:=Gc (i,u')) (u:=Gc (j,u)) (st:=none) hs rfl (zt ⟨ub (AA7 z _ _) hz,fin⟩)⟩
def m9:SlR X (r9 X.K):=by
 intro pins s σ H x v vl vu lo hi sl Q I rx hs pl pu h
 obtain⟨M,w,r,e,mo,sh,q⟩:=h
 unfold wSl at e
 split at e
 .rename_i ds
  cases e
  cases sh with
  |tup hx rr=>
   rename_i a xs
   have hl:=rr.length
   by_cases hw:HT.sIx xs.length 0 lo=0/\HT.sIx xs.length xs.length hi=xs.length
   .refine St.jP pins s σ H _ v vl vu lo hi sl Q I rx hs pl pu ⟨a,xs,rfl,hx,hw.1,hw.2,?_⟩
    have ew:IJ ds lo hi=ds:=Ul (by rw[<-hl];exact hw.1) (by rw[<-hl];exact hw.2)
    rw[ew]at q
    exact q _ _ (.same mo (.tup hx rr))
   .exact iJ pins s σ H _ v vl vu lo hi sl Q I rx hs pl pu ⟨a,xs,rfl,hx,hw,λp hp=>q _ _ (.tup mo hp (VF rr lo hi))⟩
 .split at e
  .cases e
   cases sh
   exact kN pins s σ H _ v vl vu lo hi sl Q I rx hs pl pu ⟨_,rfl,by assumption,q _ _ (.same mo (.str _))⟩
  .cases e
 .cases e1:asL w with
  |none=>rw[e1]at e;cases e
  |some ds=>
   rw[e1]at e
   cases e
   obtain⟨a,xs,rfl,h1,rr⟩:=sh.l e1
   exact dD pins s σ H _ v vl vu lo hi sl Q I rx hs pl pu ⟨a,xs,rfl,.of h1,λp hp=>q _ _ (.lst mo hp (VF rr lo hi))⟩
noncomputable def eQ:Wv->uS Int
 | .val (.int i)=>Gc i
 |_=>none
noncomputable def Il(l h:va):OpN:=λws=>match l,h,ws with
 |false,false,[a]=>wSl none none a
 |true,false,[a,b]=>(eQ b).bind λi=>wSl (Gc i) none a
 |false,true,[a,b]=>(eQ b).bind λi=>wSl none (Gc i) a
 |true,true,[a,b,c]=>(eQ b).bind λi=>(eQ c).bind λj=>wSl (Gc i) (Gc j) a
 |_,_,_=>none
def Vg(s:Sh K M H v w)(e:eQ w=Gc i):v=.int i:=by
 cases w with
 |own ds=>cases e
 |val d=>
  cases d<;>first|(cases e;done)|skip
  cases e;cases s;rfl
section
variable{X:Cx}{e lo hi:vj}{oe ol oh:Ev}{c:va}{pos p2:Pos}
def pv(h:DE X e oe)(hl:DE X lo ol):DE X (.Subscript e (.Slice (Gc lo) none none p2) pos) (Oz c (Il true false) [oe,ol]):=⟨Ax (OV m9 h.pe (Nz hl.pe) UA) λσ H Q z=>by
 obtain⟨M0,E,S0,w,S1,e,r,st,q⟩:=z
 have z:tD X.K oe σ H λx H1=>tD X.K ol σ H1 λy H2=>rN X.K (Il true false) [x,y] H2 Q:=NP (Q:=Q) e r st q
 refine EI z λx H1 z1=>EI z1 λy H2 z2=>?_
 obtain⟨M,ws,w',e1,mo,sh,q1⟩:=z2
 cases sh with
 |cons h1 t=>
  cases t with
  |cons h2 t=>
   cases t
   obtain⟨i,ei,e1⟩:=Ab e1
   exact⟨i,Vg h2 ei,M,_,w',e1,mo,h1,q1⟩⟩
def aV(h:DE X e oe)(hh:DE X hi oh):DE X (.Subscript e (.Slice none (Gc hi) none p2) pos) (Oz c (Il false true) [oe,oh]):=⟨Ax (OV m9 h.pe UA (Nz hh.pe)) λσ H Q z=>by
 obtain⟨M0,E,S0,w,S1,e,r,st,q⟩:=z
 have z:tD X.K oe σ H λx H1=>tD X.K oh σ H1 λy H2=>rN X.K (Il false true) [x,y] H2 Q:=NP (Q:=Q) e r st q
 refine EI z λx H1 z1=>EI z1 λy H2 z2=>?_
 obtain⟨M,ws,w',e1,mo,sh,q1⟩:=z2
 cases sh with
 |cons h1 t=>
  cases t with
  |cons h2 t=>
   cases t
   obtain⟨i,ei,e1⟩:=Ab e1
   exact⟨i,Vg h2 ei,M,_,w',e1,mo,h1,q1⟩⟩
def Uk(r:BN K M H v d)(e:eQ (dr S d)=Gc i):v=.int i:=by
 cases r<;>first|(cases e;done)|skip
 .cases e;rfl
 .rename_i n h
  unfold dr at e
  dsimp only at e
  split at e<;>cases e
def nU(h:DE X e oe)(hl:DE X lo ol)(hh:DE X hi oh):DE X (.Subscript e (.Slice (Gc lo) (Gc hi) none p2) pos) (Oz c (Il true true) [oe,ol,oh]):=⟨Ax (OV m9 h.pe (Nz hl.pe) (Nz hh.pe)) λσ H Q z=>by
 obtain⟨M0,E,S0,w,S1,e,r,st,q⟩:=z
 obtain⟨⟨ds,S2⟩,e1,e⟩:=Ab e
 obtain⟨w2,e2,e⟩:=Ab e
 obtain⟨⟨d1,Sa⟩,ea,e1⟩:=Ab e1
 obtain⟨⟨ds1,Sb⟩,eb,e1⟩:=IV e1
 cases e1
 obtain⟨⟨d2,Sc⟩,ec,eb⟩:=Ab eb
 obtain⟨⟨ds2,Sd⟩,ed,eb⟩:=IV eb
 cases eb
 obtain⟨⟨d3,Se⟩,ee,ed⟩:=Ab ed
 obtain⟨⟨ds3,Sf⟩,ef,ed⟩:=IV ed
 cases ed
 cases ef
 obtain⟨i,ei,e2⟩:=Ab e2
 obtain⟨j,ej,e2⟩:=Ab e2
 refine⟨M0,E,S0,d1,Sa,ea,r,st,λx H1 M1 g1 st1 r1=>?_⟩
 refine⟨M1,E,Sa,d2,Sc,ec,r.step g1.st,st1,λy H2 M2 g2 st2 r2=>⟨i,?_,?_⟩⟩
 .exact Uk r2 ei
 refine⟨M2,E,Sc,d3,Se,ee,(r.step g1.st).step g2.st,st2,λu H3 M3 g3 st3 r3=>⟨j,?_,?_⟩⟩
 .exact Uk r3 ej
 refine⟨M3,_,w2,e2,st3.mo,aR st3 ((r1.step g2.st).step g3.st),λv H4 n=>?_⟩
 obtain⟨M4,g4,st4,d4⟩:=n.fin st3 e
 exact q v H4 M4 (((g1.trans g2).trans g3).trans g4) st4 d4⟩
noncomputable def SQ(oa ob oc:Ev):Ev:=λE S=>(evs [oa,ob] E S).bind λr=>match r.1 with
 | [.int i,.int j]=>if i<=j then(oc E r.2).bind λp=>match p.1 with
     | .int k=>Gc (.bl (decide (j<=k)),p.2)
     |_=>none
   else Gc (.bl false,r.2)
 |_=>none
def oU(h:tD K (SQ oa ob oc) σ H Q):WO (rI0 λi j=>.bl (decide (i<=j))) (rI0 λi j=>.bl (decide (i<=j))) (tD K oa) (tD K ob) (tD K oc) σ H Q:=by
 obtain⟨M,E,S,d,S',e,r,st,q⟩:=h
 obtain⟨⟨ws,S1⟩,e1,e⟩:=Ab e
 have zz:=EZ (K:=K) (σ:=σ) (fs:=[oa,ob]) (Q:=λvs H2=>∃i j:Int,vs=[V.int i,V.int j]/\rI0 (λi j=>.bl (decide (i<=j))) (.int i) (.int j) H2 λz H3=>∃k,z=.bl k/\(if k=true then tD K oc σ H3 λw' H4=>rI0 (λi j=>.bl (decide (i<=j))) (.int j) w' H4 Q else Q (.bl false) H3)) e1 r st (λvs H1 M1 g1 st1 r1=>by
  dsimp only at e
  split at e
  .rename_i i j
   have hv:=O5 r1
   refine⟨i,j,hv,i,j,rfl,rfl,_,rfl,?_⟩
   by_cases hij:i<=j
   .rw[vD hij]at e
    rw[vD (by simpa using hij)]
    obtain⟨⟨w2,S2⟩,e2,e⟩:=Ab e
    dsimp only at e
    split at e
    .rename_i k
     cases e
     refine⟨M1,E,S1,_,_,e2,r.step g1.st,st1,λv H2 M2 g2 st2 r2=>?_⟩
     cases r2
     exact⟨j,k,rfl,rfl,q _ _ M2 (g1.trans g2) st2 (.bl _)⟩
    .cases e
   .rw[vC hij]at e
    cases e
    rw[vC (by simpa using hij)]
    exact q _ _ M1 g1 st1 (.bl _)
  .cases e)
 refine EI (show tD K oa σ H _ from zz) λx H1 z1=>EI z1 λy H2 z2=>?_
 obtain⟨i,j,ev,z2⟩:=z2
 cases ev
 exact z2
def aF{a b c:vj}(ha:DE X a oa)(hb:DE X b ob)(hc:DE X c oc)(hm:zn (lastMarks [.LtE,.LtE] [b,c]=false) wr):DE X (.Compare a [.LtE,.LtE] [b,c] pos) (SQ oa ob oc):=⟨
 Ax (R4 Xe Xe ha.pe hb.pe hc.pe hm) λ_ _ _ h=>oU h⟩
structure QJ(K:W1)(mg:Str->uS uY)(x:Str)(d:D):Prop where
 ex:∃v u,mg x=Gc u/\RelV v u/\∀M H,BN K M H v d
def dM(c:QJ X.K X.mg x d)(hg:Gl X x)(hd:zn ((x==("__debug__":Str))=false) xz):DE X (.Name x pos) (eC d):=⟨by
 obtain⟨v,u,h1,h2,h3⟩:=c.ex
 exact Ax (OZ hg h1 h2 hd) λσ H Q z=>by
  obtain⟨M0,E,S0,w,S1,e,rr,st,q⟩:=z
  cases e
  exact q _ _ M0 (.refl st.mo) st (h3 _ _)⟩
def kX(hg:Gl X x)(hm:X.mg x=none)(hv:bootBuiltins x=Gc (.type T))(hn:zn (x≠ "__name__") xz)(hd:zn ((x==("__debug__":Str))=false) xz):DE X (.Name x pos) (eC (.ty T)):=
 Pm (aI (v:=.ty T) hg hm hv rfl hn hd) λ_ _ _=>.ty T
structure i9(K:W1)(w:wH)(mg:Str->uS uY)(x:Str)(tbl:Wp (Str×D)):Prop where
 ex:∃a kvs,mg x=Gc (.ref a)/\TopD K w a kvs/\∀k,(tbl.lookup k=none->kvs.lookup k=none)/\∀d,tbl.lookup k=Gc d->∃v,kvs.lookup k=Gc v/\∀M H,BN K M H v d
noncomputable def gE(tbl:Wp (Str×D)):Op1
 | .val (.str k)=>(tbl.lookup k).map .val
 |_=>none
noncomputable def NS(neg:va)(tbl:Wp (Str×D)):Op1
 | .val (.str k)=>Gc (.val (.bl (if neg then !(tbl.lookup k).isSome else(tbl.lookup k).isSome)))
 |_=>none
def ja{p:Pos}(c:i9 X.K X.w X.mg x tbl)(hg:Gl X x)(h:DE X i o)(hs:zn (Oo i) wp)(hd:zn ((x==("__debug__":Str))=false) xz):DE X (.Subscript (.Name x p) i pos) (eOp (o1 (gE tbl)) [o]):=⟨by
 obtain⟨a,kvs,h1,h2,h3⟩:=c.ex
 refine Ax (cF Zp (OZ (v:=.ref a) hg h1 rfl hd) h.pe hs) λσ H Q z=>?_
 refine EI (Vs z) λy H1 z1=>?_
 obtain⟨M,w,r,e,mo,sh,q⟩:=z1
 unfold gE at e
 split at e
 .rename_i k
  cases e1:tbl.lookup k with
  |none=>rw[e1]at e;cases e
  |some d=>
   rw[e1]at e
   cases e
   cases sh
   obtain⟨v,q1,q2⟩:=(h3 k).2 d e1
   exact⟨a,kvs,k,v,rfl,rfl,h2,q1,q _ _ (.same mo (q2 _ _))⟩
 .cases e⟩
def jY{x:Str}(h2:TopD X.K X.w a kvs)(h3:∀k,(tbl.lookup k=none->kvs.lookup k=none)/\∀d,tbl.lookup k=Gc d->∃v,kvs.lookup k=Gc v/\∀M H,BN X.K M H v d)(z:rUn X.K (NS neg tbl) y H Q):Zr X.K X.w neg y (.ref a) H Q:=by
 obtain⟨M,w,r,e,mo,sh,q⟩:=z
 unfold NS at e
 split at e
 .rename_i k
  cases e
  cases sh
  refine⟨a,kvs,k,rfl,rfl,h2,?_⟩
  have:(kvs.lookup k).isSome=(tbl.lookup k).isSome:=by
   cases e1:tbl.lookup k with
   |none=>rw[(h3 k).1 e1];rfl
   |some d=>obtain⟨v,q1,_⟩:=(h3 k).2 d e1;rw[q1];rfl
  rw[this]
  exact q _ _ (.same mo (.bl _))
 .cases e
def Q2(c:i9 X.K X.w X.mg x tbl)(hg:Gl X x)(h:DE X i o)(hd:zn ((x==("__debug__":Str))=false) xz):DT X (.Compare i [.NotIn] [.Name x p] pos) (eOp (o1 (NS true tbl)) [o]):=by
 obtain⟨a,kvs,h1,h2,h3⟩:=c.ex
 exact X1 (VZ P1 h.pe (OZ (v:=.ref a) hg h1 rfl hd) rfl) λσ H Q z=>EI (Vs z) λy H1 z1=>jY (x:=x) h2 h3 z1
end
noncomputable def Mr:Nat->Wp D->Wp D
 |_,[]=>[]
 |k,d::ds=>.tup [.int k,d]::Mr (k+1) ds
theorem Js:∀{ds} {k i:Nat},(Mr k ds)[i]?=(ds[i]?).map λd=>.tup [.int ((k+i:Nat):Int),d]
 | [],k,i=>by simp[Mr]
 |d::ds,k,0=>by simp[Mr]
 |d::ds,k,i+1=>by
  simp only[Mr,List.getElem?_cons_succ]
  rw[Js,show k+1+i=k+(i+1) by lia]
theorem OD:∀{ds} {k},(Mr k ds).length=ds.length
 | [],k=>rfl
 |d::ds,k=>by simp[Mr,OD (ds:=ds)]
def SqF.sqB{K:W1}{M:Ms}{H:Hp}{gs:Gd}{k:va}{a:ug}{ds:Wp D}(h:SqF K M H gs k a ds){H2:Hp}{M2:Ms}(g:Sp1 M H M2 H2)(st:StR K M2 S2 H2)(ok:gOk gs S2):∃xs,SqB K H2 k a xs/\Af K M2 H2 xs ds:=by
 obtain⟨xs,h1,h2⟩:=h.keep H2 M2 S2 g st ok
 refine⟨xs,?_,h2⟩
 cases k with
 |true=>exact h1
 |false=>exact h1
theorem gi(h:SqF K M H gs k a ds):iG K M H gs (Mr 0 ds) (ItE K k a) where
 go:=λi H2 M2 S2 g st ok hi=>by
  rw[OD]at hi
  obtain⟨xs,h1,h2⟩:=h.sqB g st ok
  obtain⟨x,hx⟩:=h2.get' hi
  exact⟨xs,x,h1,hx⟩
 stop:=λi H2 M2 S2 g st ok hi=>by
  rw[OD]at hi
  obtain⟨xs,h1,h2⟩:=h.sqB g st ok
  exact⟨xs,h1,by have:=h2.length;lia⟩
 yld:=λi H2 M2 S2 x H3 d g st ok hd hy=>by
  obtain⟨xs,h1,h2⟩:=h.sqB g st ok
  obtain⟨p,y,hp,rfl,hy,rfl⟩:=hy
  have hx:=hy xs h1
  rw[Js]at hd
  obtain⟨d0,e,hd⟩:=IV hd
  subst hd
  obtain⟨x',h3,h4⟩:=h2.get e
  rw[hx]at h3;cases h3
  have k3:=CP (o:=.tup [.int i,y]) hp
  refine⟨k3,.tup (.of AX) (.cons ?_ (.cons (h4.step (Gr.grow st.mo k3).st) .nil))⟩
  rw[Nat.zero_add]
  exact .int _
noncomputable def eA(f:Ev):Sr:=λE S=>(f E S).bind λr=>(sqD r.2 r.1).map λp=>((Mr 0 p.1,p.2),r.2)
def iy(hg:Gl X "enumerate")(hm:X.mg "enumerate"=none)(ha:DE X a f)(hs:zn (uf [a] X.env=[(false,eval a X.env)]) ww):DI X (.Tuple elts k tp) (.Call (.Name "enumerate" p) [a] [] pos) (eA f):=⟨
 N2 (Xz hg hm (F6 ha.pe NR (by rw[hs];rfl)) hs) λσ H R z=>by
  obtain⟨M,E,S,ds,gs,S',e,r,st,q⟩:=z
  obtain⟨⟨d,S1⟩,e1,e⟩:=Ab e
  obtain⟨⟨ds',gs'⟩,e2,e⟩:=IV e
  cases e
  refine⟨M,E,S,d,S1,e1,r,st,λv H1 M1 g1 st1 r1=>?_⟩
  obtain⟨k,a,rfl,sq⟩:=Ri st1 r1 e2
  obtain⟨xs,hs,_⟩:=sq.sqB (Gr.refl st1.mo).st st1 (OX e2)
  exact⟨k,a,rfl,⟨xs,hs⟩,q _ _ M1 g1 st1 (gi sq)⟩⟩
noncomputable def Nu(ds es:Wp D):Wp D:=(ds.zip es).map λp=>.tup [p.1,p.2]
def W0{i:Nat}(h:(Nu ds es)[i]?=Gc d):∃x y,ds[i]?=Gc x/\es[i]?=Gc y/\d=.tup [x,y]:=by
 unfold Nu at h
 simp only[uo,xH]at h
 obtain⟨⟨x,y⟩,h1,h2⟩:=h
 rw[yi]at h1
 exact⟨x,y,h1.1,h1.2,h2.symm⟩
def LG:(Nu ds es).length=min ds.length es.length:=by simp[Nu]
def SqF.more(h:SqF K M H gs k a ds)(s:∀g∈gs,g∈gs'):SqF K M H gs' k a ds:=⟨λH2 M2 S2 g st ok=>h.keep H2 M2 S2 g st λx hx=>ok x (s x hx)⟩
theorem ig(h:SqF K M H gs k a ds)(h':SqF K M H gs m b es):iG K M H gs (Nu ds es) (Itz K k a m b) where
 go:=λi H2 M2 S2 g st ok hi=>by
  rw[LG]at hi
  obtain⟨xs,h1,r⟩:=h.sqB g st ok
  obtain⟨ys,h2,r'⟩:=h'.sqB g st ok
  obtain⟨x,hx⟩:=r.get' (show i<ds.length by lia)
  obtain⟨y,hy⟩:=r'.get' (show i<es.length by lia)
  exact⟨xs,ys,x,y,h1,h2,hx,hy⟩
 stop:=λi H2 M2 S2 g st ok hi=>by
  rw[LG]at hi
  obtain⟨xs,h1,r⟩:=h.sqB g st ok
  obtain⟨ys,h2,r'⟩:=h'.sqB g st ok
  have:=r.length
  have:=r'.length
  exact⟨xs,ys,h1,h2,by lia⟩
 yld:=λi H2 M2 S2 x H3 d g st ok hd hy=>by
  obtain⟨xs,h1,r⟩:=h.sqB g st ok
  obtain⟨ys,h2,r'⟩:=h'.sqB g st ok
  obtain⟨p,x1,y1,hp,rfl,q1,q2,rfl⟩:=hy
  obtain⟨d1,d2,e1,e2,rfl⟩:=W0 hd
  have hx:=q1 xs h1
  have hy:=q2 ys h2
  obtain⟨x',h3,h4⟩:=r.get e1
  obtain⟨y',h5,h6⟩:=r'.get e2
  rw[hx]at h3;cases h3
  rw[hy]at h5;cases h5
  have k3:=CP (o:=.tup [x1,y1]) hp
  exact⟨k3,.tup (.of AX) (.cons (h4.step (Gr.grow st.mo k3).st) (.cons (h6.step (Gr.grow st.mo k3).st) .nil))⟩
noncomputable def c7(f g:Ev):Sr:=λE S=>(evs [f,g] E S).bind λr=>match r.1 with
 | [d,e]=>(sqD r.2 d).bind λp=>(sqD r.2 e).map λq=>((Nu p.1 q.1,p.2++q.2),r.2)
 |_=>none
def qG{p pos tp:Pos}{elts:Wp vj}{k:Nat}(hg:Gl X "zip")(hm:X.mg "zip"=none)(ha:DE X a f)(hb:DE X b g)(hs:zn (uf [a,b] X.env=[(false,eval a X.env),(false,eval b X.env)]) ww)(hs2:zn (uf [b] X.env=[(false,eval b X.env)]) ww):DI X (.Tuple elts k tp) (.Call (.Name "zip" p) [a,b] [] pos) (c7 f g):=⟨
 N2 (jZ hg hm (AD ha (AD hb AI hs2) (by rw[hs,hs2])).pe hs hs2) λσ H R z=>by
  obtain⟨M,E,S,ds,gs,S',e,r,st,q⟩:=z
  obtain⟨⟨ws,S1⟩,e1,e⟩:=Ab e
  refine EZ (fs:=[f,g]) e1 r st λvs H1 M1 g1 st1 r1=>?_
  dsimp only at e
  split at e
  .obtain⟨⟨ds1,gs1⟩,eu,e⟩:=Ab e
   obtain⟨⟨ds2,gs2⟩,ee,e⟩:=IV e
   cases e
   cases r1 with
   |cons h1 t=>
    cases t with
    |cons h2 t=>
     cases t
     obtain⟨k1,a1,rfl,s1⟩:=Ri st1 h1 eu
     obtain⟨k2,a2,rfl,s2⟩:=Ri st1 h2 ee
     obtain⟨xs,hxs,_⟩:=s1.sqB (Gr.refl st1.mo).st st1 (OX eu)
     obtain⟨ys,hys,_⟩:=s2.sqB (Gr.refl st1.mo).st st1 (OX ee)
     exact⟨_,_,_,_,rfl,⟨_,hxs⟩,⟨_,hys⟩,q _ _ M1 g1 st1 (ig (s1.more λx hx=>zd _ hx) (s2.more λx hx=>vX _ hx))⟩
  .cases e⟩
noncomputable def intD:D->uS Int
 | .int i=>Gc i
 |_=>none
noncomputable def LD(ds:Wp D):uS (Wp Int):=ds.mapM intD
theorem Mj:∀{vs} {ds} {ns},Af K M H vs ds->LD ds=Gc ns->vs=ns.map V.int
 |_,_,ns,.nil,e=>by cases e;rfl
 |_,_,ns,.cons (d:=d) (ds:=ds) h t,e=>by
  unfold LD at e
  rw[AAR]at e
  cases e1:intD d with
  |none=>rw[e1]at e;cases e
  |some b=>
   rw[e1]at e
   cases e2:ds.mapM intD with
   |none=>rw[e2]at e;cases e
   |some cs=>
    rw[e2]at e
    cases e
    have hd:d=.int b:=by
     cases d<;>first|(cases e1;done)|skip
     cases e1;rfl
    subst hd
    cases h
    rw[ux,<-Mj t e2]
def Vv(hc:X.calm=true):Eg X (.builtin "sum") (λxs H Q=>∃(p:ug) (ns:Wp Int),xs=[.ref p]/\SqL X.K H p (ns.map V.int)/\Q (.int ns.sum) H):=by
 intro pins s σ H xs us Q I r h
 obtain⟨p,ns,rfl,hp,q⟩:=h
 obtain⟨u,rfl,ru⟩:=r.one
 cases (show u=u6 p from ru)
 obtain⟨its,rv,pl,hz⟩:=I.list hp
 have hd:X.A.in1.handled=none:=I.ok.hd hc
 refine call_sum_walkG (wc pl.isList ?_)
 have hlen:ns.length=its.length:=by have:=rv.length;simpa using this
 have hpl:=pl.isList
 have hlt:p<s.heap.objs.size:=by
  obtain⟨o,ho,_⟩:=hpl
  exact uk ho
 refine⟨s.heap.objs.size,_,_,its.length,_,_,λi=>ns.getD i 0,rfl,St.Nv (vs:=its) hd (vF hlt),⟨⟨_,uy _ rfl,rfl,rfl⟩,?_⟩,?_,?_,?_⟩
 .obtain⟨o,ho,r⟩:=hpl
  exact⟨o,uR _ ho,r⟩
 .intro b hb
  rw[v7]
  simp at hb
  rcases hb with h|h
  .rw[h];exact AAp _
  .rw[h];exact Nat.lt_succ_of_lt hlt
 .intro i v hv
  have hi:i<its.length:=(ua.mp hv).1
  have hb:(ns.map V.int)[i]?=Gc (.int (ns.getD i 0)):=by
   rw[uo,uT (by lia)]
   simp[u4,uT (show i<ns.length by lia)]
  obtain⟨u,hu,ru⟩:=rv.get hb
  rw[hv]at hu
  cases hu
  exact ru
 .intro h' tk t' hk
  have e:preSum (λi=>ns.getD i 0) its.length=ns.sum:=by
   rw[<-hlen,St.MF (ue _),zJ (ue _)]
  rw[e]
  exact⟨.int _,H,I.kept (t':=tk) λb o eb=>hk b o (by simp;exact vF (uk eb)) (uR _ eb),⟨_,rfl⟩,q⟩
noncomputable def Yf:Op1:=λw=>(asL w).bind λds=>(LD ds).map λns=>.val (.int ns.sum)
def fU(hc:X.calm=true):Eg X (.builtin "sum") (rN X.K (o1 Yf)):=by
 intro pins s σ H xs us Q I r h
 obtain⟨M,ws,w,e,mo,sh,q⟩:=h
 obtain⟨v,w1,rfl,rfl,s1,e1⟩:=JU sh e
 obtain⟨ds,e2,e1⟩:=Ab e1
 obtain⟨ns,e3,e1⟩:=IV e1
 cases e1
 obtain⟨a,ys,rfl,h3,h4⟩:=s1.l e2
 exact Vv hc pins s σ H _ us Q I r ⟨a,ns,rfl,by rw[<-Mj h4 e3];exact .of h3,q _ _ (.same mo (.int _))⟩
noncomputable def Mz(ns:Wp Int):Wp Int:=ns.mergeSort (λa b=>decide (a<=b))
def NY ns:(Mz ns).Perm ns:=List.mergeSort_perm _ _
def Tc ns:(Mz ns).Pairwise (· <= ·):=by
 have:=List.pairwise_mergeSort (le:=λ(a b:Int)=>decide (a<=b)) (λa b c h1 h2=>by simp at *; lia) (λa b=>by simp;lia) ns
 unfold Mz
 exact this.imp λh=>uu h
def SG(p:ms.Perm ns)(s:ms.Pairwise (· <= ·)):ms=Mz ns:=PySem.W.ksm_same (p.trans (NY ns).symm) s (Tc ns)
theorem intsAre_of:∀{ns} {its},Vals (ns.map V.int) its->yo its ns
 | [],_,.nil=>.nil
 |n::ns,_,.cons h t=>by
  obtain⟨tk,rfl⟩:=h
  exact .cons n tk (intsAre_of t)
theorem K9:∀{ns} {its},yo its ns->Vals (ns.map V.int) its
 |_,_,.nil=>.nil
 |_,_,.cons n tk t=>.cons ⟨tk,rfl⟩ (K9 t)
def Pp:Eg X (.builtin "sorted") (λxs H Q=>∃p ns,xs=[.ref p]/\SqL X.K H p (ns.map V.int)/\ns.length<64/\∀q,H q=none->Q (.ref q) (upd H q (.lst ((Mz ns).map V.int)))):=by
 intro pins s σ H xs us Q I r h
 obtain⟨p,ns,rfl,hp,h64,q⟩:=h
 obtain⟨u,rfl,ru⟩:=r.one
 cases (show u=u6 p from ru)
 obtain⟨its,rv,pl,hz⟩:=I.list hp
 have hlen:ns.length=its.length:=by have:=rv.length;simpa using this
 refine PyProof.Rows.sorted_ints pl.isList (intsAre_of rv) (by lia) λout ns' a1 a2 a3=>?_
 obtain⟨e,he⟩:=PyProof.Rows.sortedAll_at s.heap its out
 have hn:H (s.heap.objs.size+1)=none:=I.hok.fresh (AAb _)
 have hs:=SG a2 a3
 subst hs
 refine⟨.ref _,_,I.laid (a:=s.heap.objs.size+1) (o:=.lst ((Mz ns).map V.int)) (t':=s.toks) (λ_ _=>PyProof.Rows.sortedAll_old) (AAb _) ?_,rfl,q _ hn⟩
 refine⟨?_,out.toList,e,K9 a1,?_⟩
 .rw[vO,(NY ns).length_eq]
  have:(64:Nat)<=sizeLine:=by decide
  lia
 .rw[Array.toArray_toList];exact he
noncomputable def Oh:Op1:=λw=>(asL w).bind λds=>(LD ds).bind λns=>if ns.length<64 then Gc (.own ((Mz ns).map D.int))else none
def Zm:Eg X (.builtin "sorted") (rN X.K (o1 Oh)):=by
 intro pins s σ H xs us Q I r h
 obtain⟨M,ws,w,e,mo,sh,q⟩:=h
 obtain⟨v,w1,rfl,rfl,s1,e1⟩:=JU sh e
 obtain⟨ds,e2,e1⟩:=Ab e1
 obtain⟨ns,e3,e1⟩:=Ab e1
 split at e1
 .cases e1
  obtain⟨a,ys,rfl,h3,h4⟩:=s1.l e2
  exact Pp pins s σ H _ us Q I r ⟨a,ns,rfl,by rw[<-Mj h4 e3];exact .of h3,by assumption,λp hp=>q _ _ (.lst mo hp LH)⟩
 .cases e1
def Oc l items n b items2 n2 dd sl(hs0:¬(!items.isEmpty && wO (items.size+items2.size))=true)(hs1:items.size<=sizeLine)(hs2:items.size+items2.size<=sizeLine+1):Meets (zI.«list.extend» ⟨[.ref l,.ref b],[]⟩) (λ_ R s=>s.heap.get? l=Gc {cls:=.type "list",dict:=none,data:=.seq items n,slots:= #[]}/\s.heap.get? b=Gc {cls:=.type "tuple",dict:=dd,data:=.seq items2 n2,slots:=sl}/\R (.ok (.ret vL)) {s with heap:=s.heap.update l (AAN λx=>x++items2),toks:=s.toks}):=
 .of_wp λprog w A R s h=>by
  obtain⟨hp,g,d,tk,os⟩:=s;obtain⟨hl,hb,h⟩:=h;have f1:=AutoSeq1.idx_int;have f2:=AutoSeq1.sub_tuple_tuple;have f3:=AutoSeq1.sub_list_list;have f4:=AutoSeq1.sub_tuple_list;have f5:=AutoSeq1.sub_list_tuple
  have hz':(items++items2).size<=sizeLine+1:=by rw[Array.size_append];exact hs2
  wp_walk using(wpAny_updateSeq hl rfl (hz:=hs1) (_hz':=hz')),vA hl,vA hb;exact⟨_,rfl,h⟩
def Yj(K:W1):V->Wp V->Hp->VK->Prop:=λx vs H Q=>∃l b xs zs,x=.ref l/\vs=[.ref b]/\H l=Gc (.lst xs)/\SqT K H b zs/\xs.length+zs.length<=sizeLine/\Q .non (upd H l (.lst (xs++zs)))
def Sy:MtM X "list.extend" (Yj X.K):=by
 intro pins s σ H x vs v us Q I rx rv h
 obtain⟨l,b,xs,zs,rfl,rfl,hH,hB,hz,q⟩:=h
 cases rx
 obtain⟨u,rfl,ru⟩:=rv.one
 cases ru
 obtain⟨z,its,n,r,hl,e⟩:=I.Zh hH
 obtain⟨its2,r2,⟨⟨c,dd,dt,sl⟩,e2,hc,n2,hd⟩,z2⟩:=I.tuple hB
 simp only at hc hd
 subst hc hd
 have hl2:=r2.length
 have hsz:its.toArray.size+its2.toArray.size<=sizeLine:=by rw[ur,ur];lia
 have hlong:¬(!its.toArray.isEmpty && wO (its.toArray.size+its2.toArray.size))=true:=by
  rw[OQ hsz,AAO]
  exact vZ
 refine zU AB6 ⟨_,e,rfl⟩ ABl (ABS _ _)
  (Oc l its.toArray n b its2.toArray n2 dd sl hlong (by rw[ur];lia) (by lia)) ⟨e,e2,?_⟩
 refine⟨.non,_,I.nG (its':=its++its2) hH e (by simp) (r.append r2) ?_,rfl,q⟩
 rw[vq]
 lia
noncomputable def lu:Mo
 |S,ds,[x]=>match dr S x with
  | .val (.tup zs)=>if ds.length+zs.length<=sizeLine then Gc (.non,ds++zs)else none
  |w=>(asL w).bind λzs=>if ds.length+zs.length<=sizeLine then Gc (.non,ds++zs)else none
 |_,_,_=>none
def oj:MtR X "list.extend" (k9 X.K lu):=by
 intro pins s σ H x vs v us Q I rx rv h
 obtain⟨M,S,n,a,ds,args,d,ds',rfl,hc,hn,e,st,ra,q⟩:=h
 unfold lu at e
 split at e
 .obtain⟨xs,h1,h2⟩:=st.cell n a _ hc hn
  obtain⟨y,rfl,ry⟩:=RP ra
  have sy:=aR st ry
  split at e
  .rename_i ed
   rw[ed]at sy
   split at e
   .rename_i hz
    cases e
    cases sy with
    |tup hx rr=>
     obtain⟨st2,g2⟩:=st.chg hc hn (h2.append rr)
     exact Sy pins s σ H _ _ v us Q I rx rv ⟨a,_,xs,_,rfl,rfl,h1,hx,by rw[h2.length,rr.length];exact hz,q _ _ st2 g2 .non⟩
   .cases e
  .obtain⟨zs,e1,e⟩:=Ab e
   split at e
   .rename_i hz
    cases e
    obtain⟨b,ys,rfl,h3,h4⟩:=sy.l e1
    obtain⟨st2,g2⟩:=st.chg hc hn (h2.append h4)
    exact Vc pins s σ H _ _ v us Q I rx rv ⟨a,b,xs,ys,rfl,rfl,h1,h3,by rw[h2.length,h4.length];exact hz,q _ _ st2 g2 .non⟩
   .cases e
 .cases e
def X0:OpR X (binaryOp .Mult) (λx y H Q=>∃a xs k,x=.ref a/\y=.int k/\SqT X.K H a xs/\xs≠[]/\k<=0/\ -(2^63)<=k/\∀p,H p=none->Q (.ref p) (upd H p (.tup []))):=by
 intro pins s σ H x y v u Q I rx ry h
 obtain⟨a,xs,k,rfl,rfl,hx,hne,hk,hk2,q2⟩:=h
 cases rx
 obtain⟨t,rfl⟩:=ry
 obtain⟨its,r,⟨⟨c,dd,data,sl⟩,ho,hc,n,hd⟩,hzz⟩:=I.tuple hx
 simp only at hc hd
 subst hc hd
 have hl:=r.length
 have hpos:0<xs.length:=ABn.mpr hne
 refine yh (T:="tuple") (U:="int") (by decide) ⟨_,ho,rfl⟩ (λs'=>zT s' k t) HA ABE yL K2 AAt.lookup
  (zU yL (zT s k t) AAu (AAd _ _) (Io k t a its.toArray n dd sl) ⟨ho,rfl,⟨_,ho,rfl⟩,?_⟩)
 refine wm zV ⟨_,ho,rfl⟩ F.entry_tuple_mul ?_ (AB8 _ _)
 unfold zI.«tuple.__mul__»
 wp_walk using vA ho
 rw[vC (show¬(decide (k< -2^63)||decide (k≥2^63))=true by
  rw[vw]
  rintro (z|z)
  .have:=uu z;lia
  .have:=uu z;lia)]
 wp_walk using vA ho
 have hemp:its.toArray.isEmpty=false:=by
  cases its with
  |nil=>rw[xg]at hl;lia
  |cons b bs=>rfl
 rw[vC (show¬(its.toArray.isEmpty||k==1)=true by
  rw[hemp,Bool.false_or]
  intro z
  have:=eq_of_beq z
  lia)]
 wp_walk using vA ho
 all_goals first
  |exact⟨_,rfl,.ref _,_,I.laid (o:=.tup []) (t':=s.toks) (λb ob q=>uR _ q) (ue _) ⟨wM _,[],.nil,yj _ _⟩,rfl,q2 _ (I.hok.fresh (ue _))⟩
  |(exfalso
    rename_i hh
    exact hh (by rw[vw];exact .inl (xP hk)))
noncomputable def B5:Op2:=λa b=>match asT a with
 |some xs=>match asI b with
  |some k=>if(!xs.isEmpty && decide (k<=0) && decide (-(2^63)<=k))=true then Gc (.val (.tup []))else hJ (.val (.tup xs)) (.val (.int k))
  |none=>hJ a b
 |none=>hJ a b
def mJ:OpR X (binaryOp .Mult) (rOp X.K B5):=by
 intro pins s σ H x y v u Q I rx ry h
 obtain⟨M,w1,w2,r,e,mo,s1,s2,q⟩:=h
 have no:hJ w1 w2=Gc r->wpAny (model X.prog X.w) X.A (binaryOp .Mult v u) (EP X pins σ Q) X.xe s:=λe=>ak pins s σ H x y v u Q I rx ry ⟨M,_,_,r,e,mo,s1,s2,q⟩
 unfold B5 at e
 cases e1:asT w1 with
 |none=>rw[e1]at e;exact no e
 |some xs=>
  rw[e1]at e
  dsimp only at e
  cases e2:asI w2 with
  |none=>rw[e2]at e;exact no e
  |some k=>
   rw[e2]at e
   obtain rfl:=RI e1
   obtain rfl:=Pq e2
   by_cases hk:(!xs.isEmpty && decide (k<=0) && decide (-(2^63)<=k))=true
   .dsimp only at e
    rw[vD hk]at e
    rw[uc,uc]at hk
    cases e
    obtain rfl:=BN.iv s2
    obtain⟨a,ys,rfl,h1,r1⟩:=BN.iv s1
    have hne:ys≠[]:=λzz=>by
     subst zz
     cases r1
     exact absurd hk.1.1 (by decide)
    exact X0 pins s σ H _ _ v u Q I rx ry ⟨a,ys,k,rfl,rfl,h1,hne,uu hk.1.2,uu hk.2,λp hp=>q _ _ (.tup mo hp .nil)⟩
   .dsimp only at e
    rw[vC hk]at e
    exact no e
def Hf(hr:Cg k A):A.units+100<cLine:=by have:=hr.un;lia
noncomputable def scE:Nat->vj->Wp wY
 |0,_=>[]
 |n+1,.ListComp e gs s _=>s::(gs.flatMap λg=>scE n g.iter)++scE n e++(gs.flatMap λg=>g.ifs.flatMap (scE n))
 |n+1,.BoolOp _ vs _=>vs.flatMap (scE n)
 |n+1,.Call f as _ _=>scE n f++as.flatMap (scE n)
 |n+1,.BinOp a _ b _=>scE n a++scE n b
 |n+1,.UnaryOp _ a _=>scE n a
 |n+1,.Compare a _ cs _=>scE n a++cs.flatMap (scE n)
 |n+1,.Subscript a b _=>scE n a++scE n b
 |n+1,.Tuple es _ _=>es.flatMap (scE n)
 |n+1,.List es _=>es.flatMap (scE n)
 |n+1,.IfExp c a b _=>scE n c++scE n a++scE n b
 |n+1,.Dict _ vs _=>vs.flatMap (scE n)
 |n+1,.Slice a b c _=>(a.toList++b.toList++c.toList).flatMap (scE n)
 |n+1,.Attribute v _ _=>scE n v
 |_,_=>[]
noncomputable def scS:Nat->vI->Wp wY
 |0,_=>[]
 |n+1,.Return (Gc e) _=>scE 30 e
 |n+1,.Assign ts e _=>ts.flatMap (scE 30)++scE 30 e
 |n+1,.AugAssign t _ e _=>scE 30 t++scE 30 e
 |n+1,.Expr e _=>scE 30 e
 |n+1,.If t a b _=>scE 30 t++a.flatMap (scS n)++b.flatMap (scS n)
 |n+1,.For _ it a b _=>scE 30 it++a.flatMap (scS n)++b.flatMap (scS n)
 |n+1,.While t a b _=>scE 30 t++a.flatMap (scS n)++b.flatMap (scS n)
 |_,_=>[]
noncomputable def IU(st:vI)(k:Nat):wY:=((Ar st).flatMap (scS 20)).getD k (AB st)
structure pO(P:vb)(w:wH)(K:W1)(mg:Str->uS uY)(base:vt)(x:Str)(k np:Nat)(tbl:Wp (Str×Fn)):Prop where
 ex:∃a kvs,mg x=Gc (.ref a)/\TopD K w a kvs/\∀p G,tbl.lookup p=Gc G->∃f fd ps,kvs.lookup p=Gc (.ref f)/\Jm P w K mg base CX0 k f fd ps (spD K np G)/\vn K (.ref f)=true/\Binds K fd ps []
noncomputable def jz(tbl:Wp (Str×Fn))(i j:Nat)(fs:Wp Ev):Ex:=λE S=>if((at? E i).isNone && decide (i<E.length))=true then(at? E j).bind λw=>match w with
 | .str p=>(tbl.lookup p).bind λG=>AZ (AF G fs) E S
 |_=>none
 else none
def EnR.av(r:EnR K M E σ H)(h:at? E i=none):EnR K M E (σ.set i (Gc v)) H:=by
 refine⟨by rw[wV];exact r.len,λj d e=>?_⟩
 have ne:i≠j:=λz=>by
  subst z
  unfold at? at h
  rw[e]at h
  cases h
 obtain⟨u,h1,h2⟩:=r.val j d e
 exact⟨u,by rw[uW ne];exact h1,h2⟩
def aJ{X:Cx}{k np:Nat}{tbl:Wp (Str×Fn)}{x h y:Str}{px ph ph2 py pr p1 p2 pc:Pos} i j(T:pO X.prog X.w X.K X.mg X.base x k np tbl)(hr:Cg k X.A)(ha:DEs X (e::es) fs)(hnp:fs.length=np)(hN:X.N.Nodup)(hg:zn (Gl X x) ww)(hi:zn (X.N[i]?=Gc h) ww)(hil:zn (X.env.scope.names.lookup h=Gc .local) ww)(hj:zn (X.N[j]?=Gc y) ww)(hv:zn (Vis X.env.scope y) wT)(hdx:zn ((x==("__debug__":Str))=false) xz)(hdy:zn ((y==("__debug__":Str))=false) xz)(hcy:zn ((y==("__classdict__":Str))=false) xz)(hdh:zn ((h==("__debug__":Str))=false) xz)(hch:zn ((h==("__classdict__":Str))=false) xz)(hs:zn (swapsWith (.Subscript (.Name x px) (.Name y py) p1) (Gc (.Name h ph)) p2.line X.env=pure false) ww)(hpl:zn (Oo (.Name y py)) wp)(he:zn (uf (e::es) X.env=(false,eval e X.env)::uf es X.env) ww)(hpa:zn ((backTo pc (uf es X.env)).any (·.1)=false) ww):DSs X [.Assign [.Name h ph] (.Subscript (.Name x px) (.Name y py) p1) p2,.Return (Gc (.Call (.Name h ph2) (e::es) [] pc)) pr] (jz tbl i j fs):=⟨by
 obtain⟨a,kvs,t1,t2,t3⟩:=T.ex
 refine OG (N1 (ZM (i:=i) hN hi (.inl hil) (cF Zp (OZ (v:=.ref a) hg t1 rfl hdx) (Ig hj hv hdy hcy) hpl) hs (.inr hil)) (KQ (Rq (W4 (k:=k) (i:=i) hi (.inl hil) hr ha.pe hdh hch he hpa)))) λDn σ H z=>?_
 obtain⟨M,E,S,fl,E',S',e,r,st,q⟩:=z
 unfold jz at e
 split at e
 .rename_i hnone
  rw[uc]at hnone
  have hlt:=uu hnone.2
  have hnone:at? E i=none:=by simpa using hnone.1
  obtain⟨w,e1,e⟩:=Ab e
  split at e
  .rename_i p
   obtain⟨G,e2,e⟩:=Ab e
   obtain⟨⟨d4,S4⟩,e3,e⟩:=IV e
   cases e
   obtain⟨v,hv1,hv2⟩:=r.val j _ (at?_some e1)
   cases hv2
   obtain⟨f,fd,ps,l1,l2,l3,l4⟩:=t3 p G e2
   refine⟨_,hv1,a,kvs,p,_,rfl,rfl,t2,l1,?_⟩
   have r1:=r.av (v:=.ref f) hnone
   have hlen:i<σ.length:=by
    have:=r.len
    lia
   refine⟨f,spD X.K np G,ui hlen,⟨fd,ps,l2,l3,l4⟩,?_⟩
   exact Wd (σ:=σ.set i (Gc (.ref f))) hnp ⟨M,_,S,d4,S4,e3,r1,st,q⟩
  .cases e
 .cases e⟩
def fM{kV doc pm cdv ct:uY}(X:K.In h)(G:h.Ns mainGlobals mg)(a:vG K mainGlobals x=Gc (Gc (.ref f)))(l:K.lookup f=Gc ⟨oc,od,.func (wZ x x (F7 st) (Ar st) (AB st) .none kV doc pm an cdv ct),osl⟩)(c:x5 K cdv x=true)(k:vn K (.ref f)=true):St.Src K mg x st:=
 ⟨f,_,Uw l c k,wR X G a⟩
def IsD(K:W1)(u:uY)(d:D):Prop:=∃v,RelV v u/\∀M H,BN K M H v d
def ba:IsD K (.int i t) (.int i):=⟨.int i,⟨t,rfl⟩,λ_ _=>.int i⟩
def aN:IsD K (.str x t) (.str x):=⟨.str x,⟨t,rfl⟩,λ_ _=>.str x⟩
def g9:IsD K (.bool b) (.bl b):=⟨.bl b,rfl,λ_ _=>.bl b⟩
def aQ:IsD K .none .non:=⟨.non,rfl,λ_ _=>.non⟩
theorem RT:∀{us} {ds},Paired (λd u=>IsD K u d) ds us->∃xs,Vals xs us/\∀M H,Af K M H xs ds
 |_,_,.nil=>⟨[],.nil,λ_ _=>.nil⟩
 |_,_,.cons h t=>by
  obtain⟨v,h1,h2⟩:=h
  obtain⟨xs,h3,h4⟩:=RT t
  exact⟨v::xs,.cons h1 h3,λM H=>.cons (h2 M H) (h4 M H)⟩
def eH(l:K.lookup a=Gc ⟨.type "tuple",od,.seq its.toArray n,osl⟩)(hz:its.length<=sizeLine)(r:Paired (λd u=>IsD K u d) ds its):IsD K (.ref a) (.tup ds):=by
 obtain⟨xs,h1,h2⟩:=RT r
 exact⟨.ref a,rfl,λM H=>.tup (.inr ⟨_,its.toArray,n,l,rfl,rfl,by simpa using hz,by simpa using h1⟩) (h2 M H)⟩
def fq(X:K.In h)(G:h.Ns mainGlobals mg)(e:vG K mainGlobals x=Gc (Gc u))(r:IsD K u d):QJ K mg x d:=by
 obtain⟨v,h1,h2⟩:=r
 exact⟨v,u,wR X G e,h1,h2⟩
theorem Uv:∀{tbl} {es},Paired (λp (e:y7)=>(∃t,e.key=.str p.1 t)/\IsD K e.val p.2) tbl es->∃kvs,Paired (λp (e:y7)=>(∃t,e.key=.str p.1 t)/\RelV p.2 e.val) kvs es/\∀k,(tbl.lookup k=none->kvs.lookup k=none)/\∀d,tbl.lookup k=Gc d->∃v,kvs.lookup k=Gc v/\∀M H,BN K M H v d
 |_,_,.nil=>⟨[],.nil,λk=>⟨λ_=>rfl,λd e=>by cases e⟩⟩
 |(k0,d0)::tbl,_::es,.cons hh t=>by
  obtain⟨hk,v,h1,h2⟩:=hh
  obtain⟨kvs,h3,h4⟩:=Uv t
  refine⟨(k0,v)::kvs,.cons ⟨hk,h1⟩ h3,λk=>?_⟩
  rw[vU,vU]
  cases e:k==k0 with
  |true=>exact⟨λz=>(nomatch z),λd z=>by cases z;exact⟨v,rfl,h2⟩⟩
  |false=>exact h4 k
def dX(X:K.In h)(G:h.Ns mainGlobals mg)(e:vG K mainGlobals x=Gc (Gc (.ref a)))(l:K.lookup a=Gc ⟨.type "dict",none,.dict es.toArray n, #[]⟩)(hk:zp w.params es)(hne:(a==sysModules)=false)(hp:Paired (λp (e:y7)=>(∃t,e.key=.str p.1 t)/\IsD K e.val p.2) tbl es):i9 K w mg x tbl:=by
 obtain⟨kvs,h1,h2⟩:=Uv hp
 exact⟨a,kvs,wR X G e,ZL l hk hne h1,h2⟩
structure mL(w:wH)(K:W1)(mg:Str->uS uY)(x:Str)(ns:Wp (Str×Str)):Prop where
 ex:∃a kvs,mg x=Gc (.ref a)/\TopD K w a kvs/\Paired (λ(n:Str×Str) (q:Str×V)=>n.1=q.1/\∃f,q.2=.ref f/\mg n.2=Gc (.ref f)) ns kvs
theorem PV(X:K.In h)(G:h.Ns mainGlobals mg):∀{ns:Wp (Str×Str)} {es},Paired (λn (e:y7)=>(∃t,e.key=.str n.1 t)/\∃f,e.val=.ref f/\vG K mainGlobals n.2=Gc (Gc (.ref f))) ns es->∃kvs:Wp (Str×V),Paired (λp (e:y7)=>(∃t,e.key=.str p.1 t)/\RelV p.2 e.val) kvs es/\Paired (λn q=>n.1=q.1/\∃f,q.2=.ref f/\mg n.2=Gc (.ref f)) ns kvs
 |_,_,.nil=>⟨[],.nil,.nil⟩
 |(k0,g0)::ns,_::es,.cons hh t=>by
  obtain⟨hk,f,h1,h2⟩:=hh
  obtain⟨kvs,h3,h4⟩:=PV X G t
  exact⟨(k0,.ref f)::kvs,.cons ⟨hk,h1⟩ h3,.cons ⟨rfl,f,rfl,wR X G h2⟩ h4⟩
def aP(X:K.In h)(G:h.Ns mainGlobals mg)(e:vG K mainGlobals x=Gc (Gc (.ref a)))(l:K.lookup a=Gc ⟨.type "dict",none,.dict es.toArray n, #[]⟩)(hk:zp w.params es)(hne:(a==sysModules)=false)(hp:Paired (λn (e:y7)=>(∃t,e.key=.str n.1 t)/\∃f,e.val=.ref f/\vG K mainGlobals n.2=Gc (Gc (.ref f))) ns es):mL w K mg x ns:=by
 obtain⟨kvs,h1,h2⟩:=PV X G hp
 exact⟨a,kvs,wR X G e,ZL l hk hne h1,h2⟩
theorem V4{k np:Nat}:∀{ns:Wp (Str×Str)} {kvs:Wp (Str×V)} {tbl},Paired (λn q=>n.1=q.1/\∃f,q.2=.ref f/\mg n.2=Gc (.ref f)) ns kvs->Paired (λn q=>n.1=q.1/\∃j ps,j<=k/\St.Dfn P w K mg base n.2 j ps (spD K np q.2)) ns tbl->∀p G,tbl.lookup p=Gc G->∃f fd ps,kvs.lookup p=Gc (.ref f)/\Jm P w K mg base CX0 k f fd ps (spD K np G)/\vn K (.ref f)=true/\Binds K fd ps []:=by
 intro ns kvs tbl a
 induction a generalizing tbl with
 |nil=>intro b p G e;cases b;cases e
 |cons h1 t1 ih=>
  intro b p G e
  cases b with
  |cons h2 t2=>
  rename_i n0 q1 n1 l1 q2 l2
  obtain⟨k1,v1⟩:=q1
  obtain⟨k2,G2⟩:=q2
  obtain⟨e1,f,e2,e3⟩:=h1
  obtain⟨e4,j,ps,hj,hd⟩:=h2
  have e5:k1=k2:=e1.symm.trans e4
  subst e5
  rw[vU]at e⊢
  cases eq:p==k1 with
  |true=>
   rw[eq]at e
   cases e
   obtain⟨f',fd,m1,m2,m3,m4⟩:=hd.ex
   have:f'=f:=by
    have:=m1.symm.trans e3
    cases this;rfl
   subst this
   exact⟨f',fd,ps,by rw[show v1=.ref f' from e2],m4.mono hj,m2,m3⟩
  |false=>
   rw[eq]at e
   exact ih t2 p G e
def ar(T:mL w K mg x ns)(h:Paired (λn q=>n.1=q.1/\∃j ps,j<=k/\St.Dfn P w K mg base n.2 j ps (spD K np q.2)) ns tbl):pO P w K mg base x k np tbl:=by
 obtain⟨a,kvs,h1,h2,h3⟩:=T.ex
 exact⟨a,kvs,h1,h2,V4 h3 h⟩
noncomputable def putD(kvs:Wp (Key×D))(k:Key)(v:D):Wp (Key×D):=
 if(kvs.any λkv=>decide (kv.1=k))=true then kvs.map (λkv=>if kv.1=k then(kv.1,v)else kv)else kvs++[(k,v)]
noncomputable def Ii(kvs more:Wp (Key×D)):Wp (Key×D):=more.foldl (λacc kv=>putD acc kv.1 kv.2) kvs
noncomputable def R3:Wp (Key×D)->Key->uS D
 | [],_=>none
 |(j,d)::r,k=>if j=k then Gc d else R3 r k
noncomputable def fB:D->uS Key
 | .int i=>Gc (.inl i)
 | .str x=>Gc (.inr x)
 |_=>none
noncomputable def dH(S:Sto):D->uS (Wp (Key×D))
 | .dct es=>Gc es
 | .ref n=>match S[n]? with
   |some (.dct es)=>Gc es
   |_=>none
 |_=>none
noncomputable def XE:va->Wp (Key×D)->Sto->D×Sto
 |false,es,S=>(.dct es,S)
 |true,es,S=>(.ref S.length,S++[.dct es])
section
variable{K:W1}{M M':Ms}{H:Hp}{S:Sto}{E:En}{σ:Sg}
def B6.any k(h:B6 K M H kvs es):(kvs.any λkv=>decide (kv.1=k))=es.any λkv=>decide (kv.1=k):=h.ind (P:=λv d=>(v.any λkv=>decide (kv.1=k))=d.any λkv=>decide (kv.1=k)) rfl λ_ t=>by rw[xK,xK,t]
def B6.app(h:B6 K M H kvs es)(s:B6 K M H kvs' es'):B6 K M H (kvs++kvs') (es++es'):=h.ind (P:=λv d=>B6 K M H (v++kvs') (d++es')) s λh t=>.cons h t
theorem B6.fL(r:BN K M H v d):∀{kvs} {es},B6 K M H kvs es->B6 K M H (kvs.map λkv=>if kv.1=k then(kv.1,v)else kv) (es.map λkv=>if kv.1=k then(kv.1,d)else kv)
 |_,_,.nil=>.nil
 |_,_,.cons (k:=k') h t=>by
  rw[ux,ux]
  by_cases e:k'=k
  .rw[vD e,vD e];exact .cons r (B6.fL r t)
  .rw[vC e,vC e];exact .cons h (B6.fL r t)
def B6.put(r:BN K M H v d)(h:B6 K M H kvs es):B6 K M H (putK kvs k v) (putD es k d):=by
 unfold putK putD
 rw[h.any k]
 split
 .exact h.fL r
 .exact h.app (.cons r .nil)
def B6.merge(h:B6 K M H more more')(g:B6 K M H kvs es):B6 K M H (LX kvs more) (Ii es more'):=
 h.ind (P:=λv d=>∀kvs es,B6 K M H kvs es->B6 K M H (LX kvs v) (Ii es d)) (λ_ _ g=>g) (λr t _ _ g=>t _ _ (g.put r)) _ _ g
theorem B6.val k:∀{kvs} {es},B6 K M H kvs es->(Tt kvs k=none/\R3 es k=none)\/∃v d,Tt kvs k=Gc v/\R3 es k=Gc d/\BN K M H v d
 |_,_,.nil=>.inl ⟨rfl,rfl⟩
 |_,_,.cons (k:=k') (d:=d) (v:=v) (ds:=ds) h t=>by
  by_cases e:k'=k
  .exact .inr ⟨v,d,OT e,by simp[R3,e],h⟩
  .rw[N4 e]
   have:R3 ((k',d)::ds) k=R3 ds k:=by simp[R3,e]
   rw[this]
   exact B6.val k t
def ZS(r:BN K M H v d)(e:fB d=Gc k):v=kV k:=by
 cases r<;>cases e<;>rfl
def ZD(st:StR K M S H)(r:BN K M H v d)(e:dH S d=Gc es):∃a kvs,v=.ref a/\H a=Gc (.dK kvs)/\B6 K M H kvs es:=by
 cases r with
 |dct h n r=>cases e;exact⟨_,_,rfl,h,r⟩
 |ref h=>
  rename_i a n
  unfold dH at e
  dsimp only at e
  split at e
  .rename_i es' e'
   cases e
   obtain⟨kvs,h1,h2⟩:=st.cell n a _ h e'
   exact⟨a,kvs,rfl,h1,h2⟩
  .cases e
 |_=>cases e
def StR.dn(r:StR K M S H)(e:H a=none):StR K ⟨M.cel,a::M.tmp⟩ S (upd H a (.dK []))/\Sp1 M H ⟨M.cel,a::M.tmp⟩ (upd H a (.dK [])):=by
 have k:∀b o,H b=Gc o->upd H a (.dK []) b=Gc o:=CP e
 have na:¬M.mem a:=λz=>r.mo.some z e
 have s1:Sp1 M H ⟨M.cel,a::M.tmp⟩ (upd H a (.dK [])):=⟨r.mo,vk,λb z=>by
  rcases z with z|z
  .exact .inl (.inl z)
  .rcases uZ.mp z with z|z
   .subst z;exact .inr e
   .exact .inl (.inr z),λb o eb _=>k b o eb⟩
 refine⟨⟨λb z=>?_,r.nd,λb hb z=>?_,r.len,λn b c h1 h2=>?_⟩,s1⟩
 .by_cases h:b=a
  .subst h;exact⟨_,AX,trivial⟩
  .rw[AM h]
   refine r.mo b ?_
   rcases z with z|z
   .exact .inl z
   .rcases uZ.mp z with z|z
    .exact absurd z h
    .exact .inr z
 .rcases uZ.mp hb with hb|hb
  .subst hb;exact na (.inl z)
  .exact r.nt b hb z
 .exact(r.cell n b c h1 h2).step s1 λo e=>k _ _ e
def StR.sk cf(r:StR K ⟨c,a::t⟩ S H)(nt:a∉t)(rr:B6 K ⟨c,a::t⟩ H kvs es):∃c',StR K ⟨c',t⟩ (XE cf es S).2 (upd H a (.dK kvs))/\BN K ⟨c',t⟩ (upd H a (.dK kvs)) (.ref a) (XE cf es S).1/\c <+: c'/\(∀b∈c',b∈c\/b=a):=by
 have nc:a∉c:=r.nt a um
 have hl:c.length=S.length:=r.len
 have ne:∀b∈c,b≠a:=λb hb z=>nc (by rw[<-z];exact hb)
 have kp:∀b o,H b=Gc o->¬Ms.mem ⟨c,a::t⟩ b->upd H a (.dK kvs) b=Gc o:=λb o eb nb=>by rw[AM (λz=>nb (.inr (by rw[z];exact um)))];exact eb
 have old:∀{c':Wp ug},Sp1 ⟨c,a::t⟩ H ⟨c',t⟩ (upd H a (.dK kvs))->∀(n:Nat) (b:ug) (cl:Cl),c[n]?=Gc b->S[n]?=Gc cl->QZ K ⟨c',t⟩ (upd H a (.dK kvs)) b cl:=λs1 n b cl h1 h2=>by
  have hb:=ne b (uw h1)
  exact(r.cell n b cl h1 h2).step s1 λo e=>by rw[AM hb];exact e
 have mo:∀b,Ms.mem ⟨c,t⟩ b\/b=a->∃o,upd H a (.dK kvs) b=Gc o/\Mob o:=λb z=>by
  by_cases h:b=a
  .subst h;exact⟨_,AX,trivial⟩
  .rw[AM h]
   rcases z with z|z
   .exact r.mo b (z.imp id (uX _))
   .exact absurd z h
 cases cf with
 |false=>
  have s1:Sp1 ⟨c,a::t⟩ H ⟨c,t⟩ (upd H a (.dK kvs)):=⟨r.mo,vk,λb z=>.inl (z.imp id (uX _)),kp⟩
  exact⟨c,⟨λb z=>mo b (.inl z),r.nd,λb hb=>r.nt b (uX _ hb),r.len,old s1⟩,.dct AX (λz=>z.elim nc nt) (rr.step s1),vk,λb z=>.inl z⟩
 |true=>
  have s1:Sp1 ⟨c,a::t⟩ H ⟨c++[a],t⟩ (upd H a (.dK kvs)):=⟨r.mo,xT _ _,λb z=>by
   rcases z with z|z
   .rcases vE.mp z with z|z
    .exact .inl (.inl z)
    .exact .inl (.inr (by rw[vR.mp z];exact um))
   .exact .inl (.inr (uX _ z)),kp⟩
  refine⟨c++[a],⟨λb z=>mo b ?_,?_,λb hb z=>?_,by simp[XE,hl],λn b cl h1 h2=>?_⟩,.ref (by rw[<-hl];exact uz),xT _ _,λb z=>?_⟩
  .rcases z with z|z
   .rcases vE.mp z with z|z
    .exact .inl (.inl z)
    .exact .inr (vR.mp z)
   .exact .inl (.inr z)
  .rw[yW]
   refine⟨r.nd,by simp,λx hx y hy z=>?_⟩
   simp at hy;subst hy
   exact nc (by rw[<-z];exact hx)
  .rcases vE.mp z with z|z
   .exact r.nt b (uX _ hb) z
   .rw[vR.mp z]at hb;exact nt hb
  .have h2:(S++[Cl.dct es])[n]?=Gc cl:=h2
   by_cases h:n<S.length
   .rw[uU (by rw[hl];exact h)]at h1
    rw[uU h]at h2
    exact old s1 n b cl h1 h2
   .have hm:n=S.length:=by
     have:=(ua.mp h2).1
     simp at this;lia
    subst hm
    rw[vJ (by rw[hl];exact ue _)]at h1
    rw[vJ (ue _)]at h2
    rw[hl]at h1
    simp at h1 h2
    subst h1 h2
    exact⟨kvs,AX,rr.step s1⟩
  .rcases vE.mp z with z|z
   .exact .inl z
   .exact .inr (vR.mp z)
noncomputable def evP:Wp (Ev×Ev)->En->Sto->uS (Wp (Key×D)×Sto)
 | [],_,S=>Gc ([],S)
 |(k,v)::r,E,S=>(k E S).bind λa=>(fB a.1).bind λkk=>(v E a.2).bind λb=>(evP r E b.2).map λq=>((kk,b.1)::q.1,q.2)
theorem Zl:∀{fs} {M} {S} {es} {S'} {H} {Q},evP fs E S=Gc (es,S')->EnR K M E σ H->StR K M S H->(∀kvs H' M',Gr M H M' H'->StR K M' S' H'->B6 K M' H' kvs es->kvs.length=fs.length->Q (kvs.map λkv=>(kV kv.1,kv.2)) H')->RN (fs.map λx=>(tD K x.1,tD K x.2)) σ H Q
 | [],M,S,es,S',H,Q,e,r,st,q=>by
   cases e
   exact q [] H M (.refl st.mo) st .nil rfl
 |(fk,fv)::fs,M,S,es,S',H,Q,e,r,st,q=>by
  obtain⟨⟨dk,S1⟩,e1,e⟩:=Ab e
  obtain⟨kk,ek,e⟩:=Ab e
  obtain⟨⟨dv,S2⟩,e2,e⟩:=Ab e
  obtain⟨⟨es',S3⟩,e3,e⟩:=IV e
  cases e
  refine⟨M,E,S,dk,S1,e1,r,st,λv H1 M1 g1 st1 d1=>?_⟩
  refine⟨M1,E,S1,dv,S2,e2,r.step g1.st,st1,λv2 H2 M2 g2 st2 d2=>?_⟩
  refine Zl e3 ((r.step g1.st).step g2.st) st2 λkvs H3 M3 g3 st3 rk hl=>?_
  rw[ZS d1 ek]
  exact q ((kk,v2)::kvs) H3 M3 ((g1.trans g2).trans g3) st3 (.cons (d2.step g3.st) rk) (by simp[hl])
end
noncomputable def UX(cf:va)(fs:Wp (Ev×Ev)):Ev:=λE S=>(evP fs E S).map λr=>XE cf (Ii [] r.1) r.2
abbrev jj:=UX false
section
variable{X:Cx}{pos:Pos}
structure DPs(X:Cx)(pos:Pos)(ks:Wp (uS vj))(vs:Wp vj)(fs:Wp (Ev×Ev)):Prop where
 pe:PPs X pos ks vs (fs.map λx=>(tD X.K x.1,tD X.K x.2))
 all:ks.all (·.isSome)=true
 len:ks.length=vs.length
 num:fs.length=vs.length
def dG:DPs X pos [] [] []:=⟨ax,rfl,rfl,rfl⟩
def RQ(hk:DE X k fk)(hv:DE X v fv)(h:DPs X pos ks vs fs):DPs X pos (Gc k::ks) (v::vs) ((fk,fv)::fs):=
 ⟨X6 hk.pe hv.pe h.pe,by rw[yM,h.all];rfl,by rw[vH,vH,h.len],by rw[vH,vH,h.num]⟩
def Z4{K:W1}{M:Ms}{H:Hp}{S S':Sto}{Q:VK}{cf:va}{M2:Ms}(st:StR K M S H)(hp:H p=none)(g:Gr ⟨M.cel,p::M.tmp⟩ (upd H p (.dK [])) M2 H2)(st2:StR K M2 S2 H2)(rk:B6 K M2 H2 kvs es)(q:∀v H' M',Gr M H M' H'->StR K M' (XE cf es S2).2 H'->BN K M' H' v (XE cf es S2).1->Q v H'):Q (.ref p) (upd H2 p (.dK kvs)):=by
 obtain⟨c2,t2⟩:=M2
 have ht:t2=p::M.tmp:=g.tmp
 subst ht
 have np:p∉M.tmp:=λz=>st.mo.some (.inr z) hp
 obtain⟨c',st',rd,pr,sub⟩:=st2.sk cf np rk
 refine q _ _ ⟨c',M.tmp⟩ ⟨st.mo,(show M.cel <+: c2 from g.pre).trans pr,rfl,λb z=>?_,λb o eb nb=>?_,λb eb=>?_⟩ st' rd
 .rcases sub b z with z|z
  .rcases g.fresh b z with z|z
   .exact .inl z
   .right
    by_cases h:b=p
    .rw[h];exact hp
    .rw[AM h]at z;exact z
  .right;rw[z];exact hp
 .have h:b≠p:=λz=>by rw[z,hp]at eb;cases eb
  rw[AM h]
  exact g.keep b o (by rw[AM h];exact eb) nb
 .by_cases h:b=p
  .subst h;rw[AX];intro z;cases z
  .rw[AM h]
   exact g.some b (by rw[AM h];exact eb)
def jQ(h:DPs X pos ks vs fs)(h0:ks≠[])(h15:ks.length<=15):DE X (.Dict ks vs pos) (UX cf fs):=⟨
 Ax (cD h.pe h.all h.len h0 h15) λσ H Q z=>by
  obtain⟨M,E,S,d,S',e,r,st,q⟩:=z
  obtain⟨⟨es,S2⟩,e1,e⟩:=IV e
  intro p hp
  obtain⟨st0,s0⟩:=st.dn hp
  refine Zl e1 (r.step s0) st0 λkvs H2 M2 g st2 rk hl=>⟨g.keep p _ AX (st0.nt p um),kvs,rfl,by rw[hl,h.num,<-h.len];exact h15,?_⟩
  refine Z4 (cf:=cf) (S':=S') st hp g st2 (rk.merge .nil) ?_
  have e':XE cf (Ii [] es) S2=(d,S'):=e
  rw[e']
  exact q⟩
noncomputable def lM(fd fk fx:Ev):Ev:=λE S=>(fd E S).bind λa=>(dH a.2 a.1).bind λ_=>(fk E a.2).bind λb=>(fx E b.2).bind λc=>(dH c.2 a.1).bind λes=>(fB b.1).map λk=>((R3 es k).getD c.1,c.2)
def f9(hu:X.A.units+100<cLine)(ho:DE X o fd)(hk:DE X e fk)(hx:DE X f fx)(m:M2 X o "get" apos e f cpos):DE X (.Call (.Attribute o "get" apos) [e,f] [] cpos) (lM fd fk fx):=⟨
 Ax (YI (by lia) ho.pe hk.pe hx.pe m) λσ H Q z=>by
  obtain⟨M,E,S,d,S',e,r,st,q⟩:=z
  obtain⟨⟨a,S1⟩,e1,e⟩:=Ab e
  obtain⟨es1,ed,e⟩:=Ab e
  obtain⟨⟨b,S2⟩,e2,e⟩:=Ab e
  obtain⟨⟨c,S3⟩,e3,e⟩:=Ab e
  obtain⟨es,ed3,e⟩:=Ab e
  obtain⟨k,ek,e⟩:=IV e
  cases e
  refine⟨M,E,S,a,S1,e1,r,st,λv H1 M1 g1 st1 d1=>?_⟩
  obtain⟨p,kvs,rfl,hp,_⟩:=ZD st1 d1 ed
  refine⟨p,rfl,.inl ⟨kvs,.inl hp⟩,M1,E,S1,b,S2,e2,r.step g1.st,st1,λv2 H2 M2 g2 st2 d2=>?_⟩
  refine⟨M2,E,S2,c,S3,e3,(r.step g1.st).step g2.st,st2,λv3 H3 M3 g3 st3 d3=>?_⟩
  obtain⟨p',kvs3,e4,hp3,rk⟩:=ZD st3 ((d1.step g2.st).step g3.st) ed3
  cases e4
  rw[ZS d2 ek]
  refine⟨_,.k hp3,?_⟩
  rcases rk.val k with⟨h1,h2⟩|⟨v,d,h1,h2,h3⟩
  .rw[h1];rw[h2]at q;exact q _ _ M3 ((g1.trans g2).trans g3) st3 d3
  .rw[h1];rw[h2]at q;exact q _ _ M3 ((g1.trans g2).trans g3) st3 h3⟩
end
def Tb(old:ug->Prop)(H:Hp)(h:vt)(e:ug)(v:uY):Prop:=
 v=.none\/∃T oT ts,v=.ref T/\T≠e/\h.get? T=Gc oT/\oT.data=.fields ts/\ts[3]?=Gc .none/\H T=none/\¬old T
structure Fly(old:ug->Prop)(H:Hp)(h:vt)(e C:ug)(od:uS ug):Prop where
 free:H e=none
 new:¬old e
 ex:∃oe vs a0 v,h.get? e=Gc oe/\oe.cls=.ref C/\oe.data=.fields vs/\vs[0]?=Gc a0/\vs[1]?=Gc v/\Tb old H h e v/\∀dx,od=Gc dx->oe.dict=Gc dx
def Fly.imp(f:Fly old H h e C od)(m:∀b,old' b->old b):Fly old' H h e C od:=by
 obtain⟨oe,vs,a0,v,h1,h2,h3,h4,h5,t,hd⟩:=f.ex
 refine⟨f.free,λz=>f.new (m _ z),oe,vs,a0,v,h1,h2,h3,h4,h5,?_,hd⟩
 rcases t with t|⟨T,oT,ts,t1,t2,t3,t4,t5,t6,t7⟩
 .exact .inl t
 .exact .inr ⟨T,oT,ts,t1,t2,t3,t4,t5,t6,λz=>t7 (m _ z)⟩
structure fK(old:ug->Prop)(H:Hp)(h:vt)(e C:ug)(od:uS ug):Prop where
 free:H e=none
 new:¬old e
 ex:∃oe vs a0 T oT ts,h.get? e=Gc oe/\oe.cls=.ref C/\oe.data=.fields vs/\vs[0]?=Gc a0/\vs[1]?=Gc (.ref T)/\(T≠e/\h.get? T=Gc oT/\oT.data=.fields ts/\ts[3]?=Gc .none/\H T=none/\¬old T)/\∀dx,od=Gc dx->oe.dict=Gc dx
def fK.fly(f:fK old H h e C od):Fly old H h e C od:=by
 obtain⟨oe,vs,a0,T,oT,ts,h1,h2,h3,h4,h5,r,hd⟩:=f.ex
 exact⟨f.free,f.new,oe,vs,a0,.ref T,h1,h2,h3,h4,h5,.inr ⟨T,oT,ts,rfl,r⟩,hd⟩
structure Trn(X:Cx)(old:ug->Prop)(H:Hp)(h h':vt)(e C:ug)(od:uS ug):Prop where
 keep:∀b o,h.get? b=Gc o->b∉frs X.stack->(H b≠none\/old b\/∀vs,o.data≠.fields vs)->h'.get? b=Gc o
 slot:∀b o,h.get? b=Gc o->(∀vs,o.data≠.fields vs)->∃sl,h'.get? b=Gc {o with slots:=sl}
 fly:fK old H h' e C od
def CU.there(x:CU P w H h a o):∃ob,h.get? a=Gc ob:=by
 cases o with
 |lst xs=>obtain⟨_,_,_,_,e⟩:=x;exact⟨_,e⟩
 |tup xs=>obtain⟨_,_,_,ob,e,_⟩:=x;exact⟨_,e⟩
 |dK kvs=>obtain⟨_,_,_,_,o,_,_,e,_⟩:=x;exact⟨_,e⟩
 |dT kvs=>obtain⟨_,_,_,_,o,_,_,e,_⟩:=x;exact⟨_,e⟩
 |set S n=>obtain⟨o,_,_,_,e,_⟩:=x;exact⟨_,e⟩
 |ins C dx fs=>obtain⟨_,_,_,e,_⟩:=x;exact⟨_,e⟩
 |own y=>obtain⟨_,e⟩:=x;exact⟨_,e⟩
 |xd fs=>obtain⟨_,⟨_,_,_,e,_⟩,_⟩:=x;exact⟨_,e⟩
 |rng lo hi=>obtain⟨_,_,_,e⟩:=x;exact⟨_,e⟩
 |frz ob u=>obtain⟨e,_⟩:=x;exact⟨_,e⟩
 |tbl ps=>exact⟨_,(show h.get? a=Gc _ from x)⟩
 |met f y=>exact⟨_,(show h.get? a=Gc _ from x)⟩
 |ext φ=>obtain⟨_,⟨_,e⟩,_⟩:=x;exact⟨_,e⟩
section
variable{X:Cx}{pins:Wp (ug×Obj)}{σ:St}{H:Hp}{s:uj}{old:ug->Prop}{e C:ug}{od:uS ug}{Q:Unit->uj->Prop}{E:uY->uj->Prop}{A:w9}
def Ut{h:vt}(ha:h.get? a=Gc oa)(hd:oa.data=.fields vs)(hb:h.get? b=Gc o)(n:∀vs,o.data≠.fields vs):b≠a:=λz=>by
 rw[z,ha]at hb
 cases hb
 exact n _ hd
def cK{h:vt}(ha:h.get? a=Gc oa)(hd:oa.data=.fields vs)(fr:H a=none)(nw:¬old a)(hb:h.get? b=Gc o)(k:H b≠none\/old b\/∀vs,o.data≠.fields vs):b≠a:=λz=>by
 subst z
 rcases k with k|k|k
 .exact k fr
 .exact nw k
 .exact Ut ha hd hb k rfl
def RB{ts:ym uY}(h:ts[i]?=Gc v):ts.setIfInBounds i v=ts:=by
 apply Array.ext (by simp)
 intro j h1 h2
 rw[Array.getElem_setIfInBounds]
 split
 .rename_i z
  subst z
  obtain⟨_,q⟩:=xU.mp h
  exact q.symm
 .rfl
def O7(I:Inv X pins σ H s)(hA:A.frames=Gc X.stack)(hst:X.stack=X.env::X.outer)(hf:X.env.frame=Gc X.env.locals)(free:H e=none)(new:¬old e)(ho:∀b,old b->s.heap.get? b≠none)(he:s.heap.get? e=Gc oe)(hc:oe.cls=.ref C)(hd:oe.data=.fields vs)(h0:vs[0]?=Gc a0)(hz:1<vs.size)(hdx:∀dx,od=Gc dx->oe.dict=Gc dx)(hQ:∀h',Trn X old H s.heap h' e C od->Q () {s with heap:=h'}):wpAny M A (do let a<-frameOf X.env;let pl<-entryPlaceOf X.env.locals hadNext;let b<-ABo head a .none (rawInt X.env.locals) .none pl;setField (.ref e) 1 b) (λ_ s2=>wpAny M A (setFlight (.ref e) none) Q E s2) E s:=by
 have st:=I.stack
 have ef:e∉frs X.stack:=λm=>by
  obtain⟨_,o,q,n⟩:=st.mem m
  exact Ut he hd q n rfl
 have hfr:A.frames=Gc (X.env::X.outer):=by rw[hA,hst]
 rw[hst]at st
 refine uQ (wpAny_frameOf_fun hfr st hf λh1 hs=>?_)
 obtain⟨sz,out,sl⟩:=hs
 refine uQ (wpAny_entryPlaceOf λpl hpl=>?_)
 unfold ABo newFields
 refine uQ (xB ?_ (hpl.sizeOk5 _ _ _ _ _))
 generalize hob:({cls:=.type "traceback",data:=.fields ([head,.ref X.env.locals,.none,rawInt X.env.locals,.none]++(if pl.isEmpty then uq 6 vL else pl)).toArray}:Obj)=tb
 have ef':e∉(X.env::X.outer).filterMap (·.frame):=by rw[<-hst];exact ef
 have e1:h1.get? e=Gc oe:=(out e ef').trans he
 have e2:(h1.push tb).get? e=Gc oe:=uR _ e1
 refine x8 e2 hd hz ?_
 have Te:h1.objs.size≠e:=y9 (uk e1)
 have d3:=xQ hd (·.setIfInBounds 1 (u6 h1.objs.size))
 have e3:=wC (wB (·.setIfInBounds 1 (u6 h1.objs.size))) e2 (wj d3)
 have tbd:∃ts:ym uY,tb.data=.fields ts/\3<ts.size:=⟨_,by rw[<-hob],by simp only[ur,vq,vH,xg]<;>lia⟩
 obtain⟨ts,td,tz⟩:=tbd
 have T3:((h1.push tb).update e (wB (·.setIfInBounds 1 (u6 h1.objs.size)))).get? h1.objs.size=Gc tb:=(vo _ _ Te.symm).trans (uy h1 (wj td))
 unfold setFlight
 refine uQ (wN e3 d3 (x:=.ref h1.objs.size) (by simp[hz]) ?_)
 rw[vD (show(u6 h1.objs.size !=vL)=true from by simp)]
 refine x8 T3 td tz (hQ _ ?_)
 have T4:=wC (wB (·.setIfInBounds 3 ((none:uS ug).elim vL λf=>rawInt f))) T3 (wj (xQ td _))
 have all:∀b o,b≠e->h1.get? b=Gc o->(((h1.push tb).update e (wB (·.setIfInBounds 1 (u6 h1.objs.size)))).update h1.objs.size (wB (·.setIfInBounds 3 ((none:uS ug).elim vL λf=>rawInt f)))).get? b=Gc o:=λb o n q=>by
  rw[vo _ _ (y9 (uk q)),vo _ _ (vi n)]
  exact uR _ q
 have Tn:s.heap.get? h1.objs.size=none:=by
  cases q:s.heap.get? h1.objs.size with
  |none=>rfl
  |some o=>
   obtain⟨sl',z⟩:=sl _ o q
   exact absurd (uk z) (v9 _)
 refine⟨λb o q nf k=>all b o (cK he hd free new q k) ((out b (by rw[<-hst];exact nf)).trans q),λb o q n=>?_,free,new,_,_,a0,h1.objs.size,_,_,(vo _ _ Te).trans e3,(Obj.cls_mapFields _ _).trans hc,d3,by rw[zP (by decide)];exact h0,by simp[hz],⟨Te,T4,xQ td _,by simp[tz],?_,λz=>ho _ z Tn⟩,λdx z=>?_⟩
 .obtain⟨sl',z⟩:=sl b o q
  exact⟨sl',all b _ (Ut he hd q n) z⟩
 .cases q:H h1.objs.size with
  |none=>rfl
  |some o=>
   obtain⟨ob,z⟩:=CU.there (I.hok _ o q)
   rw[Tn]at z;cases z
 .rw[<-hdx dx z]
  obtain⟨c,dd,da,sl⟩:=oe
  cases da<;>first|rfl|(simp[wB];done)
def OI(I:Inv X pins σ H s)(hA:A.frames=Gc X.stack)(hst:X.stack=X.env::X.outer)(hf:X.env.frame=Gc X.env.locals)(f:Fly old H s.heap e C od)(ho:∀b,old b->s.heap.get? b≠none)(hQ:∀h',Trn X old H s.heap h' e C od->Q () {s with heap:=h'}):wpAny M A (noteFrame (.ref e) X.env) (λ_ s2=>wpAny M A (setFlight (.ref e) none) Q E s2) E s:=by
 obtain⟨oe,vs,a0,v,h1,h2,h3,h4,h5,t,hd⟩:=f.ex
 have hz:=(xU.mp h5).1
 unfold noteFrame
 simp only[hf]
 refine uQ (wN h1 h3 h5 ?_)
 rcases t with t|⟨T,oT,ts,t1,t2,t3,t4,t5,t6,t7⟩
 .subst t
  rw[vC (by decide)]
  exact O7 I hA hst hf f.free f.new ho h1 h2 h3 h4 hz hd hQ
 .subst t1
  rw[vD (show(u6 T !=vL)=true from by simp)]
  refine uQ (wN t3 t4 t5 ?_)
  rw[vC (show¬((vL==rawInt X.env.locals)=true)from by simp[rawInt])]
  refine uQ (x8 t3 t4 (xU.mp t5).1 ?_)
  have oth:∀b,b≠T->(s.heap.update T (wB (·.setIfInBounds 3 vL))).get? b=s.heap.get? b:=λb n=>vo _ _ (vi n)
  have sm:=RB t5
  have up:(s.heap.update T (wB (·.setIfInBounds 3 vL))).get? T=Gc oT:=by
   rw[wC _ t3 (wj (xQ t4 _))]
   obtain⟨c,dd,da,sl⟩:=oT
   cases t4
   show Gc ({cls:=c,dict:=dd,data:=.fields (ts.setIfInBounds 3 .none),slots:=sl}:Obj)=_
   rw[sm]
  have same:∀b,(s.heap.update T (wB (·.setIfInBounds 3 vL))).get? b=s.heap.get? b:=λb=>by
   by_cases z:b=T
   .rw[z,up,t3]
   .exact oth b z
  have I':Inv X pins σ H {s with heap:=s.heap.update T (wB (·.setIfInBounds 3 vL))}:=I.kept (t':=s.toks) λb u q=>(same b).trans q
  refine O7 (s:={s with heap:=s.heap.update T (wB (·.setIfInBounds 3 vL))}) I' hA hst hf f.free f.new (λb z q=>ho b z ((same b).symm.trans q)) ((same e).trans h1) h2 h3 h4 hz hd λh' t=>hQ h' ⟨λb o q=>t.keep b o ((same b).trans q),λb o q=>t.slot b o ((same b).trans q),t.fly⟩
def QA(I:Inv X pins σ H s)(f:fK old H s.heap e C od)(hQ:∀h',Trn X old H s.heap h' e C od->Q () {s with heap:=h'}):wpAny M A (setFlight (.ref e) none) Q E s:=by
 obtain⟨oe,vs,a0,T,oT,ts,h1,h2,h3,h4,h5,⟨t2,t3,t4,t5,t6,t7⟩,hd⟩:=f.ex
 unfold setFlight
 refine uQ (wN h1 h3 h5 ?_)
 rw[vD (show(u6 T !=vL)=true from by simp)]
 refine x8 t3 t4 (xU.mp t5).1 (hQ _ ?_)
 have up:(s.heap.update T (wB (·.setIfInBounds 3 ((none:uS ug).elim vL λf=>rawInt f)))).get? T=Gc oT:=by
  rw[wC _ t3 (wj (xQ t4 _))]
  obtain⟨c,dd,da,sl⟩:=oT
  cases t4
  show Gc ({cls:=c,dict:=dd,data:=.fields (ts.setIfInBounds 3 .none),slots:=sl}:Obj)=_
  rw[RB t5]
 have same:∀b,(s.heap.update T (wB (·.setIfInBounds 3 ((none:uS ug).elim vL λf=>rawInt f)))).get? b=s.heap.get? b:=λb=>by
  by_cases z:b=T
  .rw[z,up,t3]
  .exact vo _ _ (vi z)
 exact⟨λb o q _ _=>(same b).trans q,λb o q _=>⟨o.slots,(same b).trans q⟩,f.free,f.new,oe,vs,a0,T,oT,ts,(same e).trans h1,h2,h3,h4,h5,⟨t2,up,t4,t5,t6,t7⟩,hd⟩
end
def ae(X:Cx)(pins:Wp (ug×Obj))(b:ug):Prop:=X.s₀.heap.get? b≠none\/∃p∈X.pn++pins,p.1=b
section
variable{X:Cx}{pins:Wp (ug×Obj)}{σ:St}{H:Hp}{s:uj}{old:ug->Prop}{e C:ug}{od:uS ug}{h':vt}
def WX(hst:X.stack=X.env::X.outer)(hf:X.env.frame=Gc X.env.locals):frs X.stack=X.env.locals::X.fs:=by
 rw[hst];unfold frs Cx.fs frs;rw[vd,hf]
def Ef(I:Inv X pins σ H s)(hx:X.ex=[]):∀b,ae X pins b->s.heap.get? b≠none:=λb z=>by
 rcases z with z|⟨p,m,rfl⟩
 .cases q:X.s₀.heap.get? b with
  |none=>exact absurd q z
  |some o=>
   obtain⟨o',e'⟩:=I.base.there b o q (by rw[hx];exact λz=>nomatch z)
   rw[e'];exact λz=>nomatch z
 .rw[(I.pin p m).1];exact λz=>nomatch z
def Qn(I:Inv X pins σ H s)(t:Trn X old H s.heap h' e C od):HOk X.prog X.w H h':=λa o q=>by
 refine(I.hok a o q).RL (λb u hb e1=>?_) (λ_ z=>z) λ_ _ z=>z
 have hn:H b≠none:=by
  rcases hb with z|z
  .subst z;rw[q];exact λz=>nomatch z
  .rw[z];exact λz=>nomatch z
 exact t.keep b u e1 (λz=>hn (I.Q1 b z)) (.inl hn)
def U4(I:Inv X pins σ H s)(hst:X.stack=X.env::X.outer)(hf:X.env.frame=Gc X.env.locals)(hx:X.ex=[])(t:Trn X (ae X pins) H s.heap h' e C od):Un X.fs X.ex X.H₀ H X.s₀.heap h':=by
 have hs:=WX hst hf
 have nL:∀b o,X.s₀.heap.get? b=Gc o->b≠X.env.locals:=λb o e1=>vF (uV (uk e1) I.ok.above)
 have od:∀b o,X.s₀.heap.get? b=Gc o->ae X pins b:=λb o e1=>.inl (by rw[e1];exact λz=>nomatch z)
 have fd:∀b o,b∈X.fs->X.s₀.heap.get? b=Gc o->∀vs,o.data≠.fields vs:=λb o hb e1 vs=>by
  obtain⟨_,o',e2,q⟩:=I.ok.QO.mem hb
  rw[e1]at e2;cases e2
  exact q vs
 refine⟨λb o e1 n hb hx'=>?_,λb o e1 n hb hx'=>?_,I.base.free,λb o e1 hx'=>?_,I.base.Tz,I.base.Rj,I.base.Tj⟩
 .refine t.keep b o (I.base.keep b o e1 n hb hx') (λz=>?_) (.inr (.inl (od b o e1)))
  rw[hs]at z
  exact(uZ.mp z).elim (nL b o e1) hb
 .obtain⟨sl,q⟩:=I.base.slot b o e1 n hb hx'
  obtain⟨sl',q'⟩:=t.slot b _ q (fd b o hb e1)
  exact⟨sl',q'⟩
 .obtain⟨o',q⟩:=I.base.there b o e1 hx'
  by_cases hb:b∈frs X.stack
  .obtain⟨_,o2,q2,d⟩:=I.stack.mem hb
   obtain⟨sl,z⟩:=t.slot b o2 q2 d
   exact⟨_,z⟩
  .exact⟨o',t.keep b o' q hb (.inr (.inl (od b o e1)))⟩
def QM(I:Inv X pins σ H s)(hst:X.stack=X.env::X.outer)(hf:X.env.frame=Gc X.env.locals)(hx:X.ex=[])(t:Trn X (ae X pins) H s.heap h' e C od):Inv X pins σ H {s with heap:=h'}:=by
 have hs:=WX hst hf
 have cl:∀c v,s.heap.IsCell c v->h'.IsCell c v:=λc v ⟨o,ho,hd⟩=>by
  obtain⟨sl,q⟩:=t.slot c o ho λvs z=>by rw[hd]at z;cases z
  exact⟨_,q,hd⟩
 refine⟨I.ok,I.os,I.bare,U4 I hst hf hx t,?_,λx c e1=>?_,I.free,I.H0,λp m=>?_,Qn I t,I.len⟩
 .obtain⟨m,hn,hl⟩:=I.loc
  refine⟨m,Heap.UpToSlots.ns (λb o e1 e2=>t.slot b o e1 e2) hn,λi x v e1 e2 e3=>?_⟩
  obtain⟨u,r,l⟩:=hl i x v e1 e2 e3
  refine⟨u,r,?_⟩
  rcases l with l|⟨k,c,e4,z⟩
  .exact .inl l
  .exact .inr ⟨k,c,e4,cl c _ z⟩
 .obtain⟨v,z⟩:=I.cell x c e1
  exact⟨v,cl c v z⟩
 .obtain⟨p1,p2,p3,p4,p5⟩:=I.pin p m
  refine⟨t.keep _ _ p1 (λz=>?_) (.inr (.inl (.inr ⟨p,m,rfl⟩))),p2,p3,p4,p5⟩
  rw[hs]at z
  exact(uZ.mp z).elim p3 p4
end
abbrev Rk:=ug->uS ug->St->Hp->Prop
abbrev TR:=St->Hp->Rk->Prop
inductive XP(X:Cx)(pins:Wp (ug×Obj))(Z:Rk)(ev:uY)(s':uj):Prop
 |mk (e C:ug) (od:uS ug) (σ':Sg) (H':Hp) (h:ev=.ref e) (I:Inv X pins σ' H' s') (z:Z C od σ' H') (fl:Fly (ae X pins) H' s'.heap e C od)
def PX(X:Cx)(st:vI)(t:TR):Prop:=∀(pins:Wp (ug×Obj)) (s:uj) (σ:St) (H:Hp) (Z:Rk),Inv X pins σ H s->t σ H Z->wpAny (model X.prog X.w) X.A (exec st X.env) (λ_ _=>wI) (XP X pins Z) s
def PXs(X:Cx)(sts:Wp vI)(t:TR):Prop:=∀(pins:Wp (ug×Obj)) (s:uj) (σ:St) (H:Hp) (Z:Rk),Inv X pins σ H s->t σ H Z->wpAny (model X.prog X.w) X.A (execs sts X.env) (λ_ _=>wI) (XP X pins Z) s
def PXe(X:Cx)(e:vj)(t:TR):Prop:=∀(pins:Wp (ug×Obj)) (s:uj) (σ:St) (H:Hp) (Z:Rk),Inv X pins σ H s->t σ H Z->wpAny (model X.prog X.w) X.A (eval e X.env) (λ_ _=>wI) (XP X pins Z) s
noncomputable def CXr(P:vb)(w:wH):CXT:=λouter H s E ev s'=>∃e C od H',ev=.ref e/\s'.os=s.os/\yx s'.gens/\Un (frs outer) [] H H' s.heap s'.heap/\HOk P w H' s'.heap/\Fly (λb=>s.heap.get? b≠none) H' s'.heap e C od/\E (.ref C) od H'
def RJ(h:XP (IW (CXr P w) P w K mg base N qual scope f cd A outer s H E).nox pins Z ev s')(hZ:∀C od σ' H',Z C od σ' H'->E (.ref C) od H'):(IW (CXr P w) P w K mg base N qual scope f cd A outer s H E).xe ev s':=by
 obtain⟨e,C,od,σ',H',rfl,I,z,fl⟩:=h
 show wpAny _ _ (leaving _ (.ref e)) _ _ s'
 unfold leaving
 refine uQ (OI I I.ok.frames rfl rfl fl (Ef I rfl) λh' t=>?_)
 exact⟨e,C,od,H',rfl,I.os,I.bare,U4 I rfl rfl rfl t,Qn I t,t.fly.fly.imp λb z=>.inl z,hZ _ _ _ _ z⟩
structure Tg where
 nm:Str
 pay:uS Int
instance:Coe Str Tg:=⟨λx=>⟨x,none⟩⟩
def lR(mg:Str->uS uY)(x:Tg)(C:ug)(od:uS ug)(H:Hp):Prop:=mg x.nm=Gc (.ref C)/\∀n,x.pay=Gc n->∃dx,od=Gc dx/\H dx=Gc (.xd [("at",.int n)])
abbrev Rx:=En->Sto->uS (Tg×En×Sto)
abbrev Rf:=Wp D->Sto->uS (Tg×Sto)
inductive tR(K:W1)(mg:Str->uS uY)(r:Rx)(σ:Sg)(H:Hp)(Z:Rk):Prop
 |mk (M:Ms) (E:En) (S:Sto) (x:Tg) (E':En) (S':Sto) (e:r E S=Gc (x,E',S')) (rr:EnR K M E σ H) (st:StR K M S H) (q:∀C od σ' H' M',lR mg x C od H'->Gr M H M' H'->EnR K M' E' σ' H'->StR K M' S' H'->Z C od σ' H')
structure RS(X:Cx)(st:vI)(r:Rx):Prop where
 pe:PX X st (tR X.K X.mg r)
structure RSs(X:Cx)(st:Wp vI)(r:Rx):Prop where
 pe:PXs X st (tR X.K X.mg r)
structure RE(X:Cx)(e:vj)(r:Rx):Prop where
 pe:PXe X e (tR X.K X.mg r)
inductive spR(K:W1)(mg:Str->uS uY)(np:Nat)(R:Rf)(vs:Wp V)(H:Hp)(Q:VK)(E:XK):Prop
 |mk (M:Ms) (ds:Wp D) (S:Sto) (x:Tg) (S':Sto) (l:ds.length=np) (e:R ds S=Gc (x,S')) (r:Af K M H vs ds) (st:StR K M S H) (q:∀C od H' M',lR mg x C od H'->Gr M H M' H'->StR K M' S' H'->E (.ref C) od H')
noncomputable def OJ(N:Nat)(r:Rx):Rf:=λds S=>(r (ds.map Gc++uq (N-ds.length) none) S).map λq=>(q.1,q.2.2)
structure jN(P:vb)(w:wH)(K:W1)(mg:Str->uS uY)(base:vt)(x:Str)(k:Nat)(ps:Wp Str)(sp:Sp):Prop where
 ex:∃f fd,mg x=Gc (.ref f)/\vn K (.ref f)=true/\Binds K fd ps []/\Jm P w K mg base (CXr P w) k f fd ps sp
section
variable{P:vb}{w:wH}{K:W1}{mg:Str->uS uY}{base:vt}
def gj(Fu:Fun K x x st f fd)(S:Aj N ps (AB st))(hp:ps.length=np)(hb:∀cdv A outer s H E,Cg k (A.deeper (u5 x (AB st) s.heap.objs.size f cdv))->RSs (IW CX0 P w K mg base N x (AB st) f cdv A outer s H E).nox (Ar st) r):Jm P w K mg base (CXr P w) (k+1) f fd ps (spR K mg np (AS (OJ N.length r))):=by
 rw[JQ]
 obtain⟨oc,od,kV,doc,pm,an,cdv,ct,osl,rfl,lk,hcd⟩:=Fu.ex
 refine Xy lk hcd S (λvs H Q E h=>?_) λA outer s H vs Q E hr h=>?_
 .obtain⟨M,ds,S0,d,S',hl,_,r,_⟩:=h
  have:=r.length
  lia
 .obtain⟨M,ds,S0,y,S',hl,e,rr,st,q⟩:=h
  have hlen:=rr.length
  refine⟨λ_ σ H=>tR K mg r σ H λC od _ H'=>E (.ref C) od H',λpins s1 σ1 H1 D I h=>?_,?_⟩
  .exact vp ((hb cdv A outer s H E hr).pe pins s1 σ1 H1 _ (I.TM _) h) (λ_ _ z=>z.elim) λev s' z=>RJ z λ_ _ _ _ z=>z
  .obtain⟨⟨y',E',S1⟩,e1,e⟩:=IV e
   cases e
   refine⟨M,_,S0,y',E',S1,e1,?_,st,λC od σ' H' M' hm g _ st'=>q C od H' M' hm g st'⟩
   rw[show L2.start N vs=vs.map Gc++uq (N.length-ds.length) none from by unfold L2.start;rw[hlen]]
   exact .args rr _
def Us(S:St.Src K mg x st)(sc:Aj N ps (AB st))(hp:ps.length=np)(hbi:∀f fd,Fun K x x st f fd->Binds K fd ps [])(hb:∀f cdv A outer s H E,Cg k (A.deeper (u5 x (AB st) s.heap.objs.size f cdv))->RSs (IW CX0 P w K mg base N x (AB st) f cdv A outer s H E).nox (Ar st) r):jN P w K mg base x (k+1) ps (spR K mg np (AS (OJ N.length r))):=by
 obtain⟨f,fd,Fu,hm⟩:=S.ex
 exact⟨f,fd,hm,Fu.kp,hbi f fd Fu,gj Fu sc hp λcdv A outer s H E hr=>hb f cdv A outer s H E hr⟩
end
def EF{X:Cx}{α:Type}{t:Sem α}{Q Q':α->uj->Prop}(hn:X.xe=λ_ _=>wI)(h:wpAny M A t Q X.xe s)(hQ:∀a s,Q a s->Q' a s):wpAny M A t Q' E s:=
 vp h hQ λ_ _ z=>by rw[hn]at z;exact z.elim
noncomputable def Ql(R:Rf)(fs:Wp Ev):Rx:=λE S=>(evs fs E S).bind λq=>(R q.1 q.2).map λz=>(z.1,E,z.2)
def U3{X:Cx}{k np:Nat}{x:Str}{ps:Wp Str}{p pos:Pos}(d:jN X.prog X.w X.K X.mg X.base x k ps (spR X.K X.mg np R))(hr:Cg k X.A)(hg:Gl X x)(ha:DEs X (e::es) fs)(hn:zn (fs.length=np) ww)(hxe:zn (X.xe=λ_ _=>wI) ww)(hx:zn (X.ex=[]) ww)(hdb:zn ((x==("__debug__":Str))=false) xz)(he:zn (uf (e::es) X.env=(false,eval e X.env)::uf es X.env) ww)(hpl:zn ((backTo pos (uf es X.env)).any (·.1)=false) ww):RE X (.Call (.Name x p) (e::es) [] pos) (Ql R fs):=⟨by
 intro pins s σ H Z I h
 obtain⟨f,fd,hm,hk,hb,F⟩:=d.ex
 obtain⟨M,E,S,y,E',S',e0,r,st,q⟩:=h
 obtain⟨⟨ds,S1⟩,e1,e2⟩:=Ab e0
 obtain⟨⟨y',S2⟩,e3,e4⟩:=IV e2
 cases e4
 refine wF (IC I hg hm ?_ hdb)
 have ha':=ha.pe pos pins s σ H (λvs H1=>∃M1,Gr M H M1 H1/\StR X.K M1 S1 H1/\Af X.K M1 H1 vs ds) I (EZ e1 r st λvs H1 M1 g1 st1 r1=>⟨M1,g1,st1,r1⟩)
 refine wk (h₀:=X.base) I.ok.mod.kin hk (EF hxe ha' λus s1 ⟨vs,H1,I1,rv,M1,g1,st1,r1⟩=>⟨I1.kIn,?_⟩) he hpl
 have sp:spR X.K X.mg np R vs H1 (λ_ _=>wI) (λv od H'=>∃C,v=.ref C/\Z C od σ H'):=
  ⟨M1,ds,S1,y',S2,by rw[Ht e1];exact hn,e3,r1,st1,λC od H' M' hc g2 st2=>⟨C,rfl,q C od σ H' M' hc (g1.trans g2) ((r.step g1.st).step g2.st) st2⟩⟩
 have hl:(us++[]).length=ps.length:=by rw[vv,<-rv.length];exact F.len _ _ _ _ sp
 have hbs:=hb s1 us I1.kIn hl
 rw[vv]at hbs
 refine xt (yd (F.run X.A X.stack s1 H1 ⟨us,[]⟩ us vs _ _ hr I1.Zd hbs rv sp) λrs s' hq=>?_)
 cases rs with
 |error ev=>
  obtain⟨e,C,od,H',rfl,os,bare,un,hok,fly,C',hC,z⟩:=hq
  cases hC
  exact⟨e,C,od,σ,H',rfl,I1.Yo os un hok bare (λb z=>nomatch z),z,fly.imp λb z=>Ef I1 hx b z⟩
 |ok fl=>
  cases fl with
  |ret u=>
   obtain⟨v,H',_,_,_,_,_,q⟩:=hq
   exact q.elim
  |next=>exact vY hq
  |brk=>exact vY hq
  |cont=>exact vY hq⟩
section
variable{X:Cx}{st:vI}{rest a b:Wp vI}{f g:Ex}{r r1 r2:Rx}{c e:vj}{k:Ev}{pos:Pos}
def bJ(h:RE X e r)(hs:zn (swapsWith e none pos.line X.env=pure false) ww):RS X (.Expr e pos) r:=⟨λpins s σ H Z I q=>wpAny_Expr_any (vp (h.pe pins s σ H Z I q) (λ_ _ z=>z) λ_ _ z=>z) I.quiet hs⟩
def gD(h:RE X e r):RS X (.Return (Gc e) pos) r:=⟨λpins s σ H Z I q=>AAZ (vp (h.pe pins s σ H Z I q) (λ_ _ z=>z) λ_ _ z=>z)⟩
noncomputable def rNo:Rx:=λ_ _=>none
def Ya:RS X st rNo:=⟨λ_ _ _ _ _ _ z=>by
 obtain⟨M,E,S,x,E',S',e,_⟩:=z
 cases e⟩
def VU:RSs X rest rNo:=⟨λ_ _ _ _ _ _ z=>by
 obtain⟨M,E,S,x,E',S',e,_⟩:=z
 cases e⟩
noncomputable def OO(r:Rx)(f:Ex)(r2:Rx):Rx:=λE S=>match r E S with
 |some z=>Gc z
 |none=>(f E S).bind λq=>match q.1 with
  | .nx=>r2 q.2.1 q.2.2
  | .ret _=>none
def Gq(h1:RS X st r)(hb:DS X st f)(h2:RSs X rest r2)(hxe:zn (X.xe=λ_ _=>wI) ww):RSs X (st::rest) (OO r f r2):=⟨λpins s σ H Z I z=>by
 obtain⟨M,E,S,x,E',S',e,rr,ss,q⟩:=z
 unfold OO at e
 split at e
 .rename_i z' e1
  cases e
  refine xy (vp (h1.pe pins s σ H Z I ⟨M,E,S,x,E',S',e1,rr,ss,q⟩) (λ_ _ z=>z.elim) λ_ _ z=>z)
 .obtain⟨⟨fl,E1,S1⟩,e1,e⟩:=Ab e
  dsimp only at e
  split at e
  .refine xy (EF hxe (hb.pe pins s σ H {nx:=λσ' H'=>tR X.K X.mg r2 σ' H' Z,rt:=λ_ _=>wI} I ⟨M,E,S,.nx,E1,S1,e1,rr,ss,λσ' H' M' g' r' st'=>⟨M',E1,S1,x,E',S',e,r',st',λC od σ2 H2 M2 hm g2=>q C od σ2 H2 M2 hm (g'.trans g2)⟩⟩) λfl s1 w=>?_)
   cases fl with
   |next=>
    obtain⟨σ',H',I',q'⟩:=w
    exact h2.pe pins s1 σ' H' Z I' q'
   |ret v=>obtain⟨_,_,_,_,_,q'⟩:=w;exact q'.elim
   |brk=>obtain⟨_,_,_,q'⟩:=w;exact q'.elim
   |cont=>obtain⟨_,_,_,q'⟩:=w;exact q'.elim
  .cases e⟩
def Mg(h1:RS X st r):RSs X [st] r:=⟨λpins s σ H Z I z=>xy (vp (h1.pe pins s σ H Z I z) (λ_ _ z=>z.elim) λ_ _ z=>z)⟩
noncomputable def rIf(k:Ev)(r1 r2:Rx):Rx:=λE S=>(k E S).bind λq=>match q.1 with
 | .bl true=>r1 E q.2
 | .bl false=>r2 E q.2
 |_=>none
def cc(hc:DT X c k)(ha:RSs X a r1)(hb:RSs X b r2)(hxe:zn (X.xe=λ_ _=>wI) ww):RS X (.If c a b pos) (rIf k r1 r2):=⟨λpins s σ H Z I z=>by
 obtain⟨M,E,S,x,E',S',e,rr,ss,q⟩:=z
 obtain⟨⟨w1,S1⟩,e1,e⟩:=Ab e
 dsimp only at e
 split at e
 .refine wpAny_If (EF hxe (hc.pe pins s σ H (λd H1=>d=true/\tR X.K X.mg r1 σ H1 Z) I ⟨M,E,S,_,S1,e1,rr,ss,λH1 M1 g1 st1=>⟨rfl,M1,E,S1,x,E',S',e,rr.step g1.st,st1,λC od σ2 H2 M2 hm g2=>q C od σ2 H2 M2 hm (g1.trans g2)⟩⟩) λd s1 w=>?_)
  obtain⟨H1,I1,rfl,q1⟩:=w
  exact ha.pe pins s1 σ H1 Z I1 q1
 .refine wpAny_If (EF hxe (hc.pe pins s σ H (λd H1=>d=false/\tR X.K X.mg r2 σ H1 Z) I ⟨M,E,S,_,S1,e1,rr,ss,λH1 M1 g1 st1=>⟨rfl,M1,E,S1,x,E',S',e,rr.step g1.st,st1,λC od σ2 H2 M2 hm g2=>q C od σ2 H2 M2 hm (g1.trans g2)⟩⟩) λd s1 w=>?_)
  obtain⟨H1,I1,rfl,q1⟩:=w
  exact hb.pe pins s1 σ H1 Z I1 q1
 .cases e⟩
end
abbrev VEm:Wp uY:=[.type "ValueError",.type "Exception",.type "BaseException",.type "object"]
structure XcD(K:W1)(mg:Str->uS uY)(x:Str):Prop where
 ex:∃C,mg x=Gc (.ref C)/\yp K C VEm "ValueError.__new__"=true
def mV(X:K.In h)(G:h.Ns mainGlobals mg)(e:vG K mainGlobals x=Gc (Gc (.ref C)))(q:yp K C VEm "ValueError.__new__"=true):XcD K mg x:=⟨C,wR X G e,q⟩
def Z7(X:K.In h)(q:yp K C bmB newId=true):∃bm N nm q bs hdct sn sub ab col dd k0 k1 k2 k3 k5 mN,h.get? C=Gc (excClassObj nm q C N bs bm hdct sn sub ab col dd k0 k1 k2 k3 k5 newId)/\h.Ns N mN/\mN "__init__"=none/\OwnTail h bmB bm:=by
 unfold yp at q
 split at q
 case h_2=>cases q
 rename_i dd cd sl ho
 split at q
 case h_2=>cases q
 rename_i C' bm k0 k1 k2 k3 n k5 hm hs
 simp only[uc,wJ,xo]at q
 obtain⟨⟨⟨⟨⟨rfl,rfl⟩,hdel⟩,ht⟩,hok⟩,hni⟩:=q
 have hsl:sl= #[k0,k1,k2,k3,Gc (.builtin n),k5]:=Array.toList_inj.mp hs
 obtain⟨nm,bs,mro,ns,qn,hd,sn,sub,ab,col,del⟩:=cd
 dsimp only at hm hdel hok hni
 subst hm hdel hsl
 exact⟨bm,ns,nm,qn,bs,hd,sn,sub,ab,col,dd,k0,k1,k2,k3,k5,_,X _ _ ho,.of_isNs (AAS X hok),PySem.W.nsMap_none_of_in X hok hni,AAT X ht⟩
noncomputable def MU(x:Str)(fs:Wp Ev):Rx:=λE S=>(evs fs E S).map λq=>(⟨x,none⟩,E,q.2)
def RC{np cpos pos:Pos}(hc:X.calm=true)(xc:XcD X.K X.mg x)(hg:Gl X x)(ha:DEs X (e::es) fs)(hl:zn (fs.length<=sizeLine) xz)(hxe:zn (X.xe=λ_ _=>wI) ww)(hx:zn (X.ex=[]) ww)(hdb:zn ((x==("__debug__":Str))=false) xz)(he:zn (uf (e::es) X.env=(false,eval e X.env)::uf es X.env) ww)(hpl:zn ((backTo cpos (uf es X.env)).any (·.1)=false) ww):RS X (.Raise (Gc (.Call (.Name x np) (e::es) [] cpos)) none pos) (MU x fs):=⟨by
 intro pins s σ H Z I h
 obtain⟨C,hm,hex⟩:=xc.ex
 obtain⟨M,E,S,y,E',S',e0,r,st,q⟩:=h
 obtain⟨⟨ds,S1⟩,e1,e2⟩:=IV e0
 cases e2
 obtain⟨tl,N,nm,qn,bs,hdct,sn,sub,ab,col,dd,k0,k1,k2,k3,k5,mN,hC,hN,hni,T⟩:=Z7 I.ok.mod.kin hex
 refine wpAny_Raise_call_subT (C:=C) (nm:=nm) (q:=qn) (N:=N) (bs:=bs) (bm:=tl) (hdct:=hdct) (sn:=sn) (sub:=sub) (ab:=ab) (col:=col) (dd:=dd) (k0:=k0) (k1:=k1) (k2:=k2) (k3:=k3) (k5:=k5)
  yA (mN:=mN) (T.hasType yA.hasBase) (I.ok.hd hc) (by rw[he];show(false||(backTo cpos (uf es X.env)).any (·.1))=false;rw[hpl];rfl) hni (IC I hg hm ⟨rfl,?_⟩ hdb)
 have ha':=ha.pe cpos pins s σ H (λvs H1=>∃M1,Gr M H M1 H1/\StR X.K M1 S1 H1/\Af X.K M1 H1 vs ds) I (EZ e1 r st λvs H1 M1 g1 st1 r1=>⟨M1,g1,st1,r1⟩)
 rw[he]at ha'⊢
 refine xk (EF hxe ha' λus s1 z=>?_)
 obtain⟨vs,H1,I1,rv,M1,g1,st1,r1⟩:=z
 refine⟨rfl,by rw[<-rv.length,r1.length,Ht e1];exact hl,I1.bk _ _ hC,hN.keeps I1.bk,T.keeps I1.bk,λh' ea hmd=>?_⟩
 obtain⟨t,w1,w2,w3⟩:=hmd.there
 refine⟨ea,C,none,σ,H1,rfl,I1.kept (t':=s1.toks) hmd.keeps,q C none σ H1 M1 ⟨hm,λ_ z=>nomatch z⟩ g1 (r.step g1.st) st1,?_,λz=>Ef I1 hx _ z hmd.new,_,_,.ref t,.none,w1,rfl,rfl,rfl,rfl,.inl rfl,λ_ z=>nomatch z⟩
 cases o:H1 ea with
 |none=>rfl
 |some ho=>
  obtain⟨ob,z⟩:=CU.there (I1.hok ea ho o)
  rw[hmd.new]at z;cases z⟩
abbrev Cx.mrk(X:Cx)(e:ug):Cx:={X with A:=X.A.mark (Gc (.ref e)),calm:=false}
section
variable{X:Cx}{σ:St}{H:Hp}{e:ug}
def kB(ok:X.Ok):(Cx.mrk X e).Ok:=⟨ok.mod,ok.kind,ok.glob,ok.blt,ok.above,ok.inj,ok.has,ok.cab,(λz=>nomatch z),ok.frames,ok.stk,ok.exf,ok.bs,ok.bsz,ok.ZG,ok.az,ok.QO,ok.frf⟩
def We(I:Inv X pins σ H s):Inv (Cx.mrk X e) pins σ H s:=⟨kB I.ok,I.os,I.bare,I.base,I.loc,I.cell,I.free,I.H0,I.pin,I.hok,I.len⟩
def Hx(ok:X.Ok)(I:Inv (Cx.mrk X e) pins σ H s):Inv X pins σ H s:=⟨ok,I.os,I.bare,I.base,I.loc,I.cell,I.free,I.H0,I.pin,I.hok,I.len⟩
def Yk{D:Ends}(ok:X.Ok)(h:SP (Cx.mrk X e) pins D f s):SP X pins D f s:=by
 cases f with
 |next=>obtain⟨σ',H',I,q⟩:=h;exact⟨σ',H',Hx ok I,q⟩
 |brk=>obtain⟨σ',H',I,q⟩:=h;exact⟨σ',H',Hx ok I,q⟩
 |cont=>obtain⟨σ',H',I,q⟩:=h;exact⟨σ',H',Hx ok I,q⟩
 |ret u=>obtain⟨v,σ',H',I,r,q⟩:=h;exact⟨v,σ',H',Hx ok I,r,q⟩
end
structure HS(X:Cx)(hs:Wp yq)(g:Tg->Ex):Prop where
 pe:∀(x:Tg) (C:ug) (od:uS ug) (pins:Wp (ug×Obj)) (s:uj) (σ:St) (H:Hp) (D:Ends) (e:ug),lR X.mg x C od H->Inv X pins σ H s->fK (ae X pins) H s.heap e C od->tX X.K (g x) D σ H->
  wpAny (model X.prog X.w) X.A (handleBy (.ref e) X.env hs) (SP X pins D) (λ_ _=>wI) s
noncomputable def gNo:Tg->Ex:=λ_ _ _=>none
def ju:HS X [] gNo:=⟨λ_ _ _ _ _ _ _ _ _ _ _ _ z=>by
 obtain⟨M,E,S,fl,E',S',e,_⟩:=z
 cases e⟩
structure XmD(K:W1)(mg:Str->uS uY)(xs:Wp Str)(y:Str):Prop where
 ex:∃C',mg y=Gc (.ref C')/\∀x∈xs,∀C,mg x=Gc (.ref C)->yb K (.ref C) (.ref C')=Gc (x==y)
noncomputable def gOr(xs:Wp Str)(y:Str)(f:Ex)(g:Tg->Ex):Tg->Ex:=λx=>if x.nm∈xs then(if(x.nm==y)=true then f else g x)else Cp
def OU{X:Cx}{xs:Wp Str}{y:Str}{b₀:vI}{np pos:Pos}{rest:Wp yq}(xm:XmD X.K X.mg xs y)(hg:Gl X y)(hf:∀e,DSs (Cx.mrk X e) (b₀::suite) f)(hr:HS X rest g)(hxe:zn (X.xe=λ_ _=>wI) ww)(hx:zn (X.ex=[]) ww)(hst:zn (X.stack=X.env::X.outer) ww)(hfr:zn (X.env.frame=Gc X.env.locals) ww)(hdb:zn ((y==("__debug__":Str))=false) xz):HS X (.ExceptHandler (Gc (.Name y np)) none (b₀::suite) pos::rest) (gOr xs y f g):=⟨by
 intro x C od pins s σ H D e tg I fl z
 have hm:=tg.1
 obtain⟨C',hm',hex⟩:=xm.ex
 have hin:x.nm∈xs:=by
  by_cases h:x.nm∈xs
  .exact h
  .obtain⟨M,E,S,fl,E',S',e,_⟩:=z
   unfold gOr at e
   rw[vC h]at e
   cases e
 have z':tX X.K (if(x.nm==y)=true then f else g x) D σ H:=by
  unfold gOr at z
  rw[vD hin]at z
  exact z
 have ex:=hex x.nm hin C hm
 obtain⟨oe,vs,a0,T,oT,ts,h1,h2,_⟩:=id fl.ex
 have LT:zc (model X.prog X.w) s.heap (typeOf (.ref e)) (.ref C):=by
  rw[<-h2];exact(PySem.W.Looks.ld h1).andThen .now
 refine ABp (ABN (xM I.ok.kind hg (yy (by rw[I.ok.glob];exact I.mod.glob.keeps I.bk) hm' ?_) hdb)) (by intro q;cases q)
 refine PySem.W.exm_one I.kIn LT ex _ _ _ _ (λ_ _ q=>q) ?_
 cases hb:(x.nm==y)with
 |true=>
  rw[vD hb]at z'
  refine codeAny_handlers_suite (wpAny_passesOwnAt PassesOwnAt.never (QA I fl λh' t=>?_))
  have I':=We (e:=e) (QM I hst hfr hx t)
  exact wpAny_passesOwnAt PassesOwnAt.never (EF (X:=Cx.mrk X e) hxe ((hf e).pe pins _ σ H D I' z') λfl s2 w=>Yk I.ok w)
 |false=>
  rw[vC (by rw[hb];decide)]at z'
  exact hr.pe x C od pins s σ H D e tg I fl z'⟩
section
variable{X:Cx}{pos:Pos}
noncomputable def Qh(oa ob oc:Ev):Ev:=λE S=>(evs [oa,ob] E S).bind λr=>match r.1 with
 | [.int i,.int j]=>if i<=j then(oc E r.2).bind λp=>match p.1 with
     | .int k=>Gc (.bl (decide (j<k)),p.2)
     |_=>none
   else Gc (.bl false,r.2)
 |_=>none
def nI(h:tD K (Qh oa ob oc) σ H Q):WO (rI0 λi j=>.bl (decide (i<=j))) (rI0 λi j=>.bl (decide (i<j))) (tD K oa) (tD K ob) (tD K oc) σ H Q:=by
 obtain⟨M,E,S,d,S',e,r,st,q⟩:=h
 obtain⟨⟨ws,S1⟩,e1,e⟩:=Ab e
 have zz:=EZ (K:=K) (σ:=σ) (fs:=[oa,ob]) (Q:=λvs H2=>∃i j:Int,vs=[V.int i,V.int j]/\rI0 (λi j=>.bl (decide (i<=j))) (.int i) (.int j) H2 λz H3=>∃k,z=.bl k/\(if k=true then tD K oc σ H3 λw' H4=>rI0 (λi j=>.bl (decide (i<j))) (.int j) w' H4 Q else Q (.bl false) H3)) e1 r st (λvs H1 M1 g1 st1 r1=>by
  dsimp only at e
  split at e
  .rename_i i j
   have hv:=O5 r1
   refine⟨i,j,hv,i,j,rfl,rfl,_,rfl,?_⟩
   by_cases hij:i<=j
   .rw[vD hij]at e
    rw[vD (by simpa using hij)]
    obtain⟨⟨w2,S2⟩,e2,e⟩:=Ab e
    dsimp only at e
    split at e
    .rename_i k
     cases e
     refine⟨M1,E,S1,_,_,e2,r.step g1.st,st1,λv H2 M2 g2 st2 r2=>?_⟩
     cases r2
     exact⟨j,k,rfl,rfl,q _ _ M2 (g1.trans g2) st2 (.bl _)⟩
    .cases e
   .rw[vC hij]at e
    cases e
    rw[vC (by simpa using hij)]
    exact q _ _ M1 g1 st1 (.bl _)
  .cases e)
 refine EI (show tD K oa σ H _ from zz) λx H1 z1=>EI z1 λy H2 z2=>?_
 obtain⟨i,j,ev,z2⟩:=z2
 cases ev
 exact z2
def pQ(ha:DE X a oa)(hb:DE X b ob)(hc:DE X c oc)(hm:zn (lastMarks [.LtE,.Lt] [b,c]=false) wr):DE X (.Compare a [.LtE,.Lt] [b,c] pos) (Qh oa ob oc):=⟨
 Ax (R4 Xe iO ha.pe hb.pe hc.pe hm) λ_ _ _ h=>nI h⟩
end
def oW(X:K.In h)(G:h.Ns mainGlobals mg)(e:vG K mainGlobals y=Gc (Gc (.ref C')))(t:∀x∈xs,∃C,vG K mainGlobals x=Gc (Gc (.ref C))/\yb K (.ref C) (.ref C')=Gc (x==y)):XmD K mg xs y:=⟨C',wR X G e,λx hx C hm=>by
 obtain⟨C2,e2,q⟩:=t x hx
 have:=hm.symm.trans (wR X G e2)
 cases this
 exact q⟩
def all_nil{p:Str->Prop}:∀x∈([]:Wp Str),p x:=λ_ z=>nomatch z
def all_cons{p:Str->Prop}(h:p x)(t:∀x∈xs,p x):∀y∈x::xs,p y:=λy m=>by
 rcases uZ.mp m with rfl|m
 .exact h
 .exact t y m
end Mi
end
noncomputable section
namespace Mi
open PySem PySem.Spec L2 PyProof.Rows
abbrev eIx(a b:Ev):Ev:=eOp (o2 wIx) [a,b]
abbrev eI(n:Int):Ev:=eC (.int n)
def scM{N P:Wp Str}{sc:wY}(a:zn (sc.kind=.function) ww)(b:zn (sc.isCoroutine=false) ww)(c:zn (sc.isGenerator=false) ww)(d:zn N.Nodup wS)(e:zn (N.take P.length=P) ww)(f:zn (∀x∈P,sc.names.lookup x=Gc .local\/sc.names.lookup x=Gc .cell) wS)(g:zn (∀y∈sc.names,y.2≠.free) wS):Aj N P sc:=⟨a,b,c,d,e,f,g⟩
def csM{N:Wp Str}{osc:wY}{N':Wp Str}{ix:Wp (uS Nat)}{scope:wY}(a:zn (scope.kind=.function) ww)(b:zn (∀y∈scope.names,y.2=.cell->scope.names.lookup y.1=Gc .cell) wS)(c:zn (∀y∈scope.names,y.2=.local->scope.names.lookup y.1=Gc .local) wS)(d:zn (∀y∈scope.names,y.2=.free->(osc.names.lookup y.1=Gc .cell\/osc.names.lookup y.1=Gc .free)) wS)(e:zn (Ry N osc scope N' ix=true) wS):AO N osc N' ix scope:=⟨a,b,c,d,e⟩
def len0{α:Type}{us:Wp α}(h:us.length=0):us=[]:=List.eq_nil_of_length_eq_zero h
def oK{α:Type}{us:Wp α}(h:us.length=n+1):∃a r,us=a::r/\r.length=n:=by
 cases us with
 |nil=>cases h
 |cons a r=>exact⟨a,r,rfl,Nat.succ.inj h⟩
def NC{α:Type}{us:Wp α}(h:us.length=1):∃a,us=[a]:=by
 obtain⟨a,r,rfl,k⟩:=oK h
 obtain rfl:=len0 k
 exact⟨a,rfl⟩
def jG{α:Type}{us:Wp α}(h:us.length=2):∃a b,us=[a,b]:=by
 obtain⟨a,r,rfl,k⟩:=oK h
 obtain⟨b,rfl⟩:=NC k
 exact⟨a,b,rfl⟩
def q8{α:Type}{us:Wp α}(h:us.length=3):∃a b c,us=[a,b,c]:=by
 obtain⟨a,r,rfl,k⟩:=oK h
 obtain⟨b,c,rfl⟩:=jG k
 exact⟨a,b,c,rfl⟩
def qp{us:Wp uY}(h:us.length=n):∃f,us=(u7 n).map f:=by
 refine⟨λi=>us.getD i .none,?_⟩
 subst h
 apply AAy
 .simp
 .intro i h1 h2
  rw[List.getElem_map,AAU,u4,uT h1];rfl
def BnR(x:Str)(st:vI)(ps:Wp Str):Prop:=∀(kV doc pm:uY) (an:uS ug) (cdv ct:uY) (f:Nat->uY),bindArgs (wZ x x (F7 st) (Ar st) (AB st) .none kV doc pm an cdv ct) ⟨(u7 ps.length).map f,[]⟩=pure (ps.zip ((u7 ps.length).map f))
def bnR{K:W1}{st:vI}(F:Fun K x x st f fd)(h:BnR x st ps):Binds K fd ps []:=F.binds λa b c d e g us hl=>by
 obtain⟨k,rfl⟩:=qp hl
 exact h a b c d e g k
section
variable{P:vb}{w:wH}{K:W1}
def dfM{st:vI} k(S:St.Src K mg x st)(sc:Aj N ps (AB st))(hb:∀{f} {cdv} {A} {outer} {s} {H} {E},Cg k (A.deeper (u5 x (AB st) s.heap.objs.size f cdv))->(A.deeper (u5 x (AB st) s.heap.objs.size f cdv)).units+100<cLine->DSs (IW CX0 P w K mg base N x (AB st) f cdv A outer s H E).nox (Ar st) b)(hp:zn (ps.length=np) ww)(hbi:zn (BnR x st ps) wP):St.Dfn P w K mg base x (k+1) ps (spD K np (AS (AV N.length b))):=gF S sc hp (λ_ _ F=>bnR F hbi) λ_ _ _ _ _ _ _ hr=>hb hr (Hf hr)
end
def deM{X:Cx}{k k' np:Nat}{x:Str}{ps:Wp Str}{p pos:Pos}(d:St.Dfn X.prog X.w X.K X.mg X.base x k ps (spD X.K np f))(hr:Cg k' X.A)(ha:DEs X (e::es) fs)(hk:zn (k<=k') wE)(hg:zn (Gl X x) v6)(hn:zn (fs.length=np) ww)(hdb:zn ((x==("__debug__":Str))=false) xz)(he:zn (uf (e::es) X.env=(false,eval e X.env)::uf es X.env) ww)(hpl:zn ((backTo pos (uf es X.env)).any (·.1)=false) ww):DE X (.Call (.Name x p) (e::es) [] pos) (AF f fs):=bS d (hr.mono hk) hg ha hn hdb he hpl
end Mi
end
noncomputable section
namespace Mi
open PySem PySem.Spec L2 PyProof.Rows
def BmB(mg:Str->uS uY)(base:vt):Prop:=
 ∃bm o,mg "__builtins__"=Gc (.ref bm)/\bm≠builtinsNs/\bm≠mainGlobals/\base.get? bm=Gc o/\o.cls=.type "module" /\o.dict=Gc builtinsNs/\o.data=.plain
def KG.hd{K:W1}(k:KG K c P)(X:K.In h):PySem.W.CodeHd h c P:=by
 obtain⟨o,vs,file,tf,flags,tg,inF,text,tt,h0,r⟩:=k
 exact⟨o,vs,file,tf,flags,tg,inF,text,tt,X _ _ h0,r⟩
def Tp(h:TriplesOk l)(e:codeAmong pos (l++[rawInt a,rawInt b,v])=Gc cv):codeAmong pos l=Gc cv\/cv=v:=by
 induction l using TriplesOk.induct with
 |case1=>
  rw[vK,ye]at e
  unfold rawInt at e
  dsimp only at e
  split at e
  .cases e;exact .inr rfl
  .rw[ye]at e;cases e
 |case2 i t1 j t2 w r ih=>
  rw[TriplesOk.eq_def]at h
  rw[vV,vV,vV,ye]at e
  rw[ye]
  dsimp only at e h⊢
  split at e
  .rename_i z;rw[vD z];exact .inl e
  .rename_i z;rw[vC z];exact ih h e
 |case3 l n1 n2=>
  rw[TriplesOk.eq_def]at h
  split at h
  .exact(n1 rfl).elim
  .exact(n2 _ _ _ _ _ _ rfl).elim
  .exact h.elim
structure Qj(X:Cx)(pins:Wp (ug×Obj))(σ:Sg)(H:Hp)(s:uj)(x:Str)(P:ug)(params:Arguments)(body:vj)(sc:wY)(clos:Wp (Str×ug))(f:ug)(H':Hp)(s':uj):Prop where
 inv:Inv X pins σ H' s'
 fn:∃pm c' ctv o,s'.heap.get? f=Gc (ABH "<lambda>" (LY x) params body sc clos pm c' ctv)/\H' c'=Gc (.frz o (.own 0))/\VC (LY x) o
 new:s.heap.objs.size<=f
 tab:∃ps,H' P=Gc (.tbl ps)/\SK X.K H' x P ps
 keep:∀b o,H b=Gc o->b≠P->H' b=Gc o
 none:H' f=none
def Xt{X:Cx}{σ:Sg}(I:Inv X pins σ H s)(hqual:X.env.qual=x++(".<locals>.":Str))(hdf:defaultsOf params X.env=([],[]))(hcl:closureFor sc X.env=pure clos)(hcode:X.env.code=.ref c)(hcd:KG X.K c P)(bm:BmB X.mg X.base)(hP:H P=Gc (.tbl ps))(tok:SK X.K H x P ps)(hQ:∀f H' s',Qj X pins σ H s x P params body sc clos f H' s'->Q (.ref f) s'):wpAny (model X.prog X.w) X.A (eval (.Lambda params body sc pos) X.env) Q E s:=by
 have hG:s.heap.Ns mainGlobals X.mg:=I.mod.glob.keeps I.bk
 have hCH:=hcd.hd I.kIn
 have hT:s.heap.get? P=Gc (zL ps):=I.hok P _ hP
 have hq:X.env.qual++("<lambda>":Str)=LY x:=by rw[hqual];rfl
 obtain⟨b0,ob,m1,m2,m3,m4,m5,m6,m7⟩:=bm
 have nb:b0≠P:=λz=>by
  have:=(I.bs b0 ob m4).2
  rw[z,hP]at this;cases this
 have hB:s.heap.BuiltinsAt X.mg P:=⟨b0,ob,m1,m2,m3,nb,I.bk _ _ m4,m5,m6,m7⟩
 have gP:mainGlobals≠P:=λz=>by
  obtain⟨o,es,ep,ho,_⟩:=id I.mod.glob
  have:=(I.bs _ o ho).2
  rw[z,hP]at this;cases this
 refine PySem.W.kla_eval hdf ?_
 cases hh:codeAmong pos ps.toList with
 |some cv=>
  refine PySem.W.kla_makeFunctionHit hcl I.ok.glob hG hcode hCH hT tok.tri hh hB λctv h' tk kp sz=>?_
  obtain⟨c',o,rfl,hz,vs,t,n1,n2⟩:=tok.cod pos cv hh
  have hcc:s.heap.get? c'=Gc o:=(I.hok c' _ hz).1
  have kp2:∀b u,s.heap.get? b=Gc u->(h'.push {cls:=AAE "function",data:=Data.func (zM "<lambda>" (X.env.qual++("<lambda>":Str)) params body sc clos ((X.mg "__name__").getD vL) (.ref c') ctv)}).get? b=Gc u:=λb u e=>uR _ (kp b u e)
  refine hQ _ H _ ⟨I.kept (t':=tk) kp2,⟨_,c',ctv,o,by rw[<-hq];exact uy _ rfl,hz,vs,t,n1,n2⟩,sz,⟨ps,hP,tok⟩,λ_ _ e _=>e,I.hok.fresh sz⟩
 |none=>
  refine PySem.W.kla_makeFunction hcl I.ok.glob hG hcode hCH hT tok.tri hh gP hB λc' ctv h' tk ext l1 l2 crec ht=>?_
  rw[hq]at crec
  generalize hfo:(ABH "<lambda>" (X.env.qual++("<lambda>":Str)) params body sc clos ((X.mg "__name__").getD vL) c' ctv)=fo
  have hfo2:fo=ABH "<lambda>" (LY x) params body sc clos ((X.mg "__name__").getD vL) c' ctv:=by rw[<-hfo,hq]
  obtain⟨c1,o,vs,t,ec,ho,hd,hv⟩:=id crec
  cases ec
  have kp:∀b u,b≠P->s.heap.get? b=Gc u->(h'.push fo).get? b=Gc u:=λb u n e=>uR _ (ext b u n e)
  have nH:H c'=none:=I.hok.fresh l1
  have cP:c'≠P:=λz=>by rw[z,hP]at nH;cases nH
  generalize hmo:ps++ #[rawInt ↑pos.line,rawInt ↑pos.col,u6 c']=ps2 at ht
  let H':Hp:=upd (upd H c' (.frz o (.own 0))) P (.tbl ps2)
  have hk:∀b u,H b=Gc u->b≠P->H' b=Gc u:=λb u e n=>by
   show upd (upd H c' (.frz o (.own 0))) P (.tbl ps2) b=Gc u
   rw[AM n,AM (λz=>by rw[z,nH]at e;cases e)]
   exact e
  have hc1:H' c'=Gc (.frz o (.own 0)):=by
   show upd (upd H c' (.frz o (.own 0))) P (.tbl ps2) c'=_
   rw[AM cP,AX]
  have hP':H' P=Gc (.tbl ps2):=AX
  have hn:∀b,b≠P->b≠c'->H b=none->H' b=none:=λb n1 n2 e=>by
   show upd (upd H c' (.frz o (.own 0))) P (.tbl ps2) b=none
   rw[AM n1,AM n2];exact e
  have pP:(h'.push fo).get? P=Gc (zL ps2):=uR _ ht
  have po:(h'.push fo).get? c'=Gc o:=uR _ ho
  have fz:fo.isFreed=false:=by rw[<-hfo];rfl
  have un:Un X.fs [] H H' s.heap (h'.push fo):=by
   refine⟨λb u e n _ _=>kp b u (λz=>?_) e,λb u e n _ _=>⟨u.slots,kp b u (λz=>?_) e⟩,λb u e n _=>hn b (λz=>?_) (λz=>?_) n,λb u e _=>?_,λb xs e=>hk b _ e (λz=>?_),λb u v e=>hk b _ e (λz=>?_),λb qs e=>?_⟩
   .rw[z,hP]at n;cases n
   .rw[z,hP]at n;cases n
   .rw[z,hP]at n;cases n
   .subst z;exact absurd (uV (uk e) l1) (v9 _)
   .by_cases z:b=P
    .subst z;exact⟨_,pP⟩
    .exact⟨u,kp b u z e⟩
   .rw[z,hP]at e;cases e
   .rw[z,hP]at e;cases e
   .by_cases z:b=P
    .subst z
     rw[hP]at e;cases e
     exact⟨_,by rw[hmo];exact hP'⟩
    .exact⟨#[],by rw[Array.append_empty];exact hk b _ e z⟩
  have hok:HOk X.prog X.w H' (h'.push fo):=λa u q=>by
   by_cases z:a=P
   .subst z
    rw[hP']at q;cases q
    exact pP
   .by_cases z2:a=c'
    .subst z2
     rw[hc1]at q;cases q
     exact⟨po,o,po⟩
    .have q0:H a=Gc u:=by
      have:H' a=H a:=by
       show upd (upd H c' (.frz o (.own 0))) P (.tbl ps2) a=_
       rw[AM z,AM z2]
      rw[<-this];exact q
     refine(I.hok a u q0).RL (λb v hb e=>kp b v (λzz=>?_) e) (λb e=>hk b _ e (λzz=>?_)) λb xs e=>hk b _ e (λzz=>?_)
     .rcases hb with hb|hb
      .exact z (hb.symm.trans zz)
      .rw[zz,hP]at hb;cases hb
     .rw[zz,hP]at e;cases e
     .rw[zz,hP]at e;cases e
  have sz:s.heap.objs.size<=h'.objs.size:=y8 (vM l1 l2)
  have nF:H' h'.objs.size=none:=hn _ (λz=>by rw[<-z]at ht;exact absurd (uk ht) (v9 _)) (λz=>by rw[<-z]at l2;exact v9 _ l2) (I.hok.fresh sz)
  refine hQ _ H' _ ⟨I.un (t':=tk) un hok,⟨_,c',ctv,o,by rw[<-hfo2];exact uy _ fz,hc1,vs,t,hd,hv⟩,sz,⟨ps2,hP',?_⟩,hk,nF⟩
  refine⟨by rw[<-hmo];simpa using TriplesOk_snoc pos.line pos.col (.ref c') ps.toList tok.tri,tok.tat,λpos' cv e=>?_⟩
  rw[<-hmo]at e
  rcases Tp (l:=ps.toList) tok.tri (by simpa using e)with z|z
  .obtain⟨c2,o2,z1,z2,z3⟩:=tok.cod pos' cv z
   exact⟨c2,o2,z1,hk _ _ z2 (λzz=>by rw[zz,hP]at z2;cases z2),z3⟩
  .exact⟨c',o,z,hc1,vs,t,hd,hv⟩
end Mi
end
noncomputable section
namespace Mi
open PySem PySem.Spec L2
section
open PyProof.Rows (Below)
structure Mw(H:Hp)(h:vt)(x:Str)(body:vj)(sc:wY)(clos:Wp (Str×ug))(N:Wp Str)(σc:Sg)(f:ug):Prop where
 fn:∃params pm c' ctv o oc,h.get? f=Gc o/\o.data=.func (zM "<lambda>" (LY x) params body sc clos pm (.ref c') ctv)/\H c'=Gc (.frz oc (.own 0))/\VC (LY x) oc/\bindArgs (zM "<lambda>" (LY x) params body sc clos pm (.ref c') ctv) ⟨[],[]⟩=pure []
 nof:H f=none
 cell:∀y c,clos.lookup y=Gc c->(∃v,h.IsCell c v)/\H c=none
 inj:∀y z c,clos.lookup y=Gc c->clos.lookup z=Gc c->y=z
 has:∀y,(sc.names.lookup y=Gc .cell\/sc.names.lookup y=Gc .free)->∃c,clos.lookup y=Gc c
 val:∀(i:Nat) (y:Str) (v:V),N[i]?=Gc y->σc[i]?=Gc (Gc v)->Vis sc y->sc.names.lookup y=Gc .free/\∃c u,clos.lookup y=Gc c/\h.IsCell c (Gc u)/\RelV v u
 len:σc.length=N.length
 kind:sc.kind=.function
 co:sc.isCoroutine=false
 gen:sc.isGenerator=false
 NU:∀y∈sc.names,y.2≠.cell
def Mw.later(L:Mw H h x body sc clos N σc f)(u:Un fs [] H H' h h'):Mw H' h' x body sc clos N σc f:=by
 have cl:∀c v,h.IsCell c v->H c=none->h'.IsCell c v:=λc v ⟨o,ho,hd⟩ n=>by
  obtain⟨sl,q⟩:=u.any ho n (by simp)
  exact⟨_,q,hd⟩
 obtain⟨params,pm,c',ctv,o,oc,h1,h2,h3,h4,h5⟩:=L.fn
 obtain⟨sl,q⟩:=u.any h1 L.nof (by simp)
 refine⟨⟨params,pm,c',ctv,_,oc,q,h2,u.Rj _ _ _ h3,h4,h5⟩,u.free f o h1 L.nof (by simp),λy c e=>?_,L.inj,L.has,λi y v e1 e2 e3=>?_,L.len,L.kind,L.co,L.gen,L.NU⟩
 .obtain⟨⟨v,z⟩,n⟩:=L.cell y c e
  obtain⟨o',ho',_⟩:=id z
  exact⟨⟨v,cl c v z n⟩,u.free c o' ho' n (by simp)⟩
 .obtain⟨k,c,w,e,z,r⟩:=L.val i y v e1 e2 e3
  exact⟨k,c,w,e,cl c _ z (L.cell y c e).2,r⟩
noncomputable def Mx(P:vb)(w:wH)(K:W1)(mg:Str->uS uY)(base:vt)(N:Wp Str)(x:Str)(sc:wY)(clos:Wp (Str×ug))(f c':ug)(A:w9)(outer:Wp PySem.Env)(s:uj)(H:Hp):Cx where
 prog:=P
 w:=w
 K:=K
 mg:=mg
 base:=base
 A:=A.deeper (wy (LY x) sc s.heap.objs.size f (.ref c') clos)
 N:=N
 s₀:=s
 H₀:=H
 env:=wy (LY x) sc s.heap.objs.size f (.ref c') clos
 outer:=outer
 stack:=wy (LY x) sc s.heap.objs.size f (.ref c') clos::outer
 ex:=[]
 calm:=true
 fn:=λ_=>false
 pn:=[]
 xe:=λ_ _=>wI
def Um(L:Mw H s.heap x body sc clos N σc f)(hd:A.handled=none)(e0:ZI P w K mg base A outer s H)(hns:h'.Ns s.heap.objs.size m)(kp:∀b o,s.heap.get? b=Gc o->h'.get? b=Gc o):Inv (Mx P w K mg base N x sc clos f c' A outer s H) [] σc H {s with heap:=h',toks:=tk}:=by
 have noA:∀b:ug,b∉(Mx P w K mg base N x sc clos f c' A outer s H).ex:=λb z=>absurd (show b∈([]:Wp ug)from z) (by simp)
 have cl:∀c v,s.heap.IsCell c v->h'.IsCell c v:=λc v ⟨o,ho,hd⟩=>⟨o,kp _ _ ho,hd⟩
 refine⟨⟨e0.mod,L.kind,rfl,rfl,ue _,L.inj,L.has,λy c z _=>absurd z (by intro q;cases q),λ_=>hd,ABR e0.frames,.inr ⟨rfl,rfl⟩,λb z=>absurd z (noA b),e0.bs,e0.bsz,λb _ _=>noA b,λb z=>absurd z (noA b),e0.QO,e0.frf⟩,
  rfl,e0.bare,Un.kept kp,⟨m,hns,λi y v e1 e2 e3=>?_⟩,λy c e=>?_,e0.hok.fresh (ue _),λy c e=>(L.cell y c e).2,λp hp=>absurd (show p∈([]:Wp (ug×Obj))from hp) (by simp),e0.hok.kept kp,L.len⟩
 .obtain⟨k,c,u,e,z,r⟩:=L.val i y v e1 e2 e3
  exact⟨u,r,.inr ⟨.inr k,c,e,cl c _ z⟩⟩
 .obtain⟨⟨v,z⟩,_⟩:=L.cell y c e
  exact⟨v,cl c v z⟩
def Zx{X:Cx}{σ:Sg}(I:Inv X pins σ H s)(hr:Cg (k+1) X.A)(L:Mw H s.heap x body sc clos N σc f)(hb:∀c',Cg k (X.A.deeper (wy (LY x) sc s.heap.objs.size f (.ref c') clos))->PE (Mx X.prog X.w X.K X.mg X.base N x sc clos f c' X.A X.stack s H) body t)(ht:t σc H Q):wpAny (model X.prog X.w) X.A (call (.ref f) []) (EP X pins σ Q) X.xe s:=by
 obtain⟨params,pm,c',ctv,o,oc,h1,h2,h3,h4,h5⟩:=L.fn
 have cr:s.heap.CodeRec (.ref c') (LY x):=by
  obtain⟨vs,t,n1,n2⟩:=h4
  exact⟨c',oc,vs,t,rfl,(I.hok c' _ h3).1,n1,n2⟩
 refine xt (ABZ hr.depth h1 h2 L.co L.gen rfl cr ?_)
 rw[h5]
 refine uh (ABa L.NU (λ_ z=>nomatch z) (λh' hns sb=>?_) L.kind)
 have kp:∀b ob,s.heap.get? b=Gc ob->h'.get? b=Gc ob:=λb ob e=>by
  rw[sb.2 b (vF (uk e))]
  exact uR _ e
 have J:=Um (c':=c') (tk:=s.toks+0) L hr.hd I.Zd hns kp
 refine⟨I.nolimit.keeps kp,ABb (vp (hb c' (hr.deeper _) [] _ σc H Q J ht) (λu s' z=>?_) λ_ _ z=>z.elim)⟩
 obtain⟨v,H',J',rv,q⟩:=z
 exact I.after ⟨v,H',J'.os,J'.bare,J'.base,J'.hok,rv,q⟩
def YW{X:Cx}{σ:Sg}(I:Inv X pins σ H s)(hr:Cg (k+1) X.A)(L:Mw H s.heap x body sc clos N σc f)(hx:X.ex=[])(hb:∀c',Cg k (X.A.deeper (wy (LY x) sc s.heap.objs.size f (.ref c') clos))->PXe (Mx X.prog X.w X.K X.mg X.base N x sc clos f c' X.A X.stack s H) body t)(ht:t σc H λC od _ H'=>Z C od σ H'):wpAny (model X.prog X.w) X.A (call (.ref f) []) (λ_ _=>wI) (XP X pins Z) s:=by
 obtain⟨params,pm,c',ctv,o,oc,h1,h2,h3,h4,h5⟩:=L.fn
 have cr:s.heap.CodeRec (.ref c') (LY x):=by
  obtain⟨vs,t,n1,n2⟩:=h4
  exact⟨c',oc,vs,t,rfl,(I.hok c' _ h3).1,n1,n2⟩
 refine xt (ABZ hr.depth h1 h2 L.co L.gen rfl cr ?_)
 rw[h5]
 refine uh (ABa L.NU (λ_ z=>nomatch z) (λh' hns sb=>?_) L.kind)
 have kp:∀b ob,s.heap.get? b=Gc ob->h'.get? b=Gc ob:=λb ob e=>by
  rw[sb.2 b (vF (uk e))]
  exact uR _ e
 have J:=Um (c':=c') (tk:=s.toks+0) L hr.hd I.Zd hns kp
 refine⟨I.nolimit.keeps kp,ABb (vp (hb c' (hr.deeper _) [] _ σc H _ J ht) (λ_ _ z=>z.elim) λev s' z=>?_)⟩
 obtain⟨e,C,od,σ',H',rfl,J',z,fl⟩:=z
 unfold leaving
 refine uQ (OI J' J'.ok.frames rfl rfl fl (Ef J' rfl) λh2 t=>?_)
 have un:=U4 J' rfl rfl rfl t
 have ok2:=Qn J' t
 have fl2:=t.fly.fly
 show XP X pins Z (.ref e) _
 exact⟨e,C,od,σ,H',rfl,I.Yo J'.os un ok2 J'.bare (λb z=>nomatch z),z,fl2.imp λb z=>.inl (Ef I hx b z)⟩
def W2{X:Cx}{x:Str}{body:vj}{sc:wY}{clos:Wp (Str×ug)}{N:Wp Str}{σc:Sg}{f:ug}{k i:Nat}{p pos:Pos}(hr:Cg (k+1) X.A)(hx:X.ex=[])(L:Mw X.H₀ X.s₀.heap x body sc clos N σc f)(hb:∀c' s H,Cg k (X.A.deeper (wy (LY x) sc s.heap.objs.size f (.ref c') clos))->PE (Mx X.prog X.w X.K X.mg X.base N x sc clos f c' X.A X.stack s H) body t)(hN:X.N[i]?=Gc y)(hv:Vis X.env.scope y)(hd:zn ((y==("__debug__":Str))=false) xz)(hcd:zn ((y==("__classdict__":Str))=false) xz):PE X (.Call (.Name y p) [] [] pos) (λσ H Q=>σ[i]?=Gc (Gc (.ref f))/\t σc H Q):=by
 intro pins s σ H Q I h
 refine wF (thn (Ig hN hv hd hcd pins s σ H (λv H1=>v=.ref f/\H1=H) I ⟨.ref f,h.1,rfl,rfl⟩) λu s1 z=>?_)
 obtain⟨v,H1,I1,rv,rfl,rfl⟩:=z
 obtain rfl:u=.ref f:=rv
 have un:=I1.base
 rw[hx]at un
 have L1:=L.later un
 obtain⟨params,pm,c',ctv,o,oc,h1,h2,_⟩:=L1.fn
 refine ABq ⟨o.cls,o.dict,_,o.slots,by rw[h1];obtain⟨c,d,dt,sl⟩:=o;cases h2;rfl⟩ ?_
 exact Zx I1 hr L1 (λc'=>hb c' s1 H1) h.2
def Xs{X:Cx}{x:Str}{body:vj}{sc:wY}{clos:Wp (Str×ug)}{N:Wp Str}{σc:Sg}{f:ug}{k i:Nat}{p pos:Pos}(hr:Cg (k+1) X.A)(hx:X.ex=[])(L:Mw X.H₀ X.s₀.heap x body sc clos N σc f)(hb:∀c' s H,Cg k (X.A.deeper (wy (LY x) sc s.heap.objs.size f (.ref c') clos))->PXe (Mx X.prog X.w X.K X.mg X.base N x sc clos f c' X.A X.stack s H) body t)(hN:X.N[i]?=Gc y)(hv:Vis X.env.scope y)(hxe:X.xe=λ_ _=>wI)(hd:zn ((y==("__debug__":Str))=false) xz)(hcd:zn ((y==("__classdict__":Str))=false) xz):PXe X (.Call (.Name y p) [] [] pos) (λσ H Z=>σ[i]?=Gc (Gc (.ref f))/\t σc H λC od _ H'=>Z C od σ H'):=by
 intro pins s σ H Z I h
 refine wF (EF hxe (Ig hN hv hd hcd pins s σ H (λv H1=>v=.ref f/\H1=H) I ⟨.ref f,h.1,rfl,rfl⟩) λu s1 z=>?_)
 obtain⟨v,H1,I1,rv,rfl,rfl⟩:=z
 obtain rfl:u=.ref f:=rv
 have un:=I1.base
 rw[hx]at un
 have L1:=L.later un
 obtain⟨params,pm,c',ctv,o,oc,h1,h2,_⟩:=L1.fn
 refine ABq ⟨o.cls,o.dict,_,o.slots,by rw[h1];obtain⟨c,d,dt,sl⟩:=o;cases h2;rfl⟩ ?_
 exact YW I1 hr L1 hx (λc'=>hb c' s1 H1) h.2
end
structure LN(N:Wp Str)(osc:wY)(N':Wp Str)(J5:Wp Nat)(sc:wY):Prop where
 kind:sc.kind=.function
 co:sc.isCoroutine=false
 gen:sc.isGenerator=false
 NU:∀y∈sc.names,y.2≠.cell
 free:∀y∈sc.names,y.2=.free->osc.names.lookup y.1=Gc .cell
 len:J5.length=N'.length
 J5:∀z∈N'.zip J5,N[z.2]?=Gc z.1/\osc.names.lookup z.1=Gc .cell/\sc.names.lookup z.1=Gc .free
noncomputable def SY{α:Type}(J5:Wp Nat)(σ:Wp (uS α)):Wp (uS α):=J5.map λi=>(σ[i]?).join
def SA{σ:Wp (uS α)}{j:Nat}{v:α}(h:(SY J5 σ)[j]?=Gc (Gc v)):∃i,J5[j]?=Gc i/\σ[i]?=Gc (Gc v):=by
 unfold SY at h
 rw[uo]at h
 cases e:J5[j]? with
 |none=>rw[e]at h;cases h
 |some i=>
  rw[e]at h
  refine⟨i,rfl,?_⟩
  have h':(σ[i]?).join=Gc v:=by simpa using h
  cases e2:σ[i]? with
  |none=>rw[e2]at h';cases h'
  |some o=>rw[e2]at h';simpa using h'
def W3{σ:Wp (uS α)}{i j:Nat}{v:α}(h:J5[j]?=Gc i)(e:σ[i]?=Gc (Gc v)):(SY J5 σ)[j]?=Gc (Gc v):=by
 unfold SY
 rw[uo,h]
 simp[e]
def EnR.NB(r:EnR K M E σ H) J5:EnR K M (SY J5 E) (SY J5 σ) H:=⟨by simp[SY],λj d e=>by
 obtain⟨i,h1,h2⟩:=SA e
 obtain⟨v,h3,h4⟩:=r.val i d h2
 exact⟨v,W3 h1 h3,h4⟩⟩
def jB(LS:LN X.N X.env.scope N' J5 sc)(M:Qj X pins σ H s x P params body sc (FG X.env.cells sc.names []) f H' s')(hp:∀pm c' ctv,bindArgs (zM "<lambda>" (LY x) params body sc (FG X.env.cells sc.names []) pm (.ref c') ctv) ⟨[],[]⟩=pure []):Mw H' s'.heap x body sc (FG X.env.cells sc.names []) N' (SY J5 σ) f:=by
 have I:=M.inv
 have hcl:∀y∈sc.names,y.2=.free->∃a,X.env.cells.lookup y.1=Gc a:=λy hy hf=>I.ok.has y.1 (.inl (LS.free y hy hf))
 have sub:∀{y:Str} {c:ug},(FG X.env.cells sc.names []).lookup y=Gc c->X.env.cells.lookup y=Gc c:=λ{y c} h=>by
  rcases Jy hcl h with z|z
  .cases z
  .exact z
 obtain⟨pm,c',ctv,o,h1,h2,h3⟩:=M.fn
 refine⟨⟨params,pm,c',ctv,_,o,h1,rfl,h2,h3,hp pm c' ctv⟩,M.none,λy c e=>⟨I.cell y c (sub e),I.H0 y c (sub e)⟩,λy z c e1 e2=>I.ok.inj y z c (sub e1) (sub e2),λy h=>?_,λj y v e1 e2 e3=>?_,by simp[SY,LS.len],LS.kind,LS.co,LS.gen,LS.NU⟩
 .rcases h with h|h
  .exact absurd rfl (LS.NU _ (vS h))
  .exact GS (.inl (vS h))
 .obtain⟨i,q1,q2⟩:=SA e2
  have hz:(y,i)∈N'.zip J5:=xW.mpr ⟨j,by rw[yi];exact⟨e1,q1⟩⟩
  obtain⟨p1,p2,p3⟩:=LS.J5 _ hz
  refine⟨p3,?_⟩
  obtain⟨m,_,hl⟩:=I.loc
  obtain⟨u,ru,lk⟩:=hl i y v p1 q2 (.inr (.inl p2))
  rcases lk with⟨k,_⟩|⟨_,c,ec,ic⟩
  .have:X.env.scope.names.lookup y=Gc .local:=k
   rw[p2]at this;cases this
  .obtain⟨c2,ec2⟩:=GS (cells:=X.env.cells) (cs:=[]) (.inl (vS p3))
   have:=sub ec2
   rw[ec]at this;cases this
   exact⟨c,u,ec2,ic,ru⟩
def aB(hb:PSs X body tb)(hr:PXs X body tr)(hh:HS X (h₀::hs) g)(hxe:X.xe=λ_ _=>wI)(hx:X.ex=[])(hst:X.stack=X.env::X.outer)(hfr:X.env.frame=Gc X.env.locals):PS X (.Try body (h₀::hs) [] [] pos) (λD σ H=>tb D σ H\/∃x,tr σ H λC od σ' H'=>lR X.mg x C od H'/\tX X.K (g x) D σ' H'):=by
 intro pins s σ H D I z
 rcases z with z|⟨x,z⟩
 .refine wpAny_Try_except (EF hxe (hb pins s σ H D I z) λf s1 w=>?_)
  cases f with
  |next=>exact yu w
  |ret u=>exact w
  |brk=>exact w
  |cont=>exact w
 .refine wpAny_Try_except (vp (hr pins s σ H _ I z) (λ_ _ z=>z.elim) λev s1 w=>?_)
  obtain⟨ea,C,od,σ',H',rfl,I',⟨hm,z'⟩,fly⟩:=w
  refine OI I' I'.ok.frames hst hfr fly (Ef I' hx) λh' t=>?_
  have I2:=QM I' hst hfr hx t
  exact vp (hh.pe x C od pins _ σ' H' D ea hm I2 t.fly z') (λ_ _ z=>z) λ_ _ z=>z.elim
def jL{X:Cx}{σ:Sg}(Fu:Fun X.K x x st f fd)(S:Aj N ps (AB st))(Bi:Binds X.K fd ps [])(hr:Cg (k+1) X.A)(I:Inv X pins σ H s)(r:Vals vs us)(hl:vs.length=ps.length)(hbody:∀cdv,Cg k (X.A.deeper (u5 x (AB st) s.heap.objs.size f cdv))->∃t,PSs (IW CX0 X.prog X.w X.K X.mg X.base N x (AB st) f cdv X.A X.stack s H E0).nox (Ar st) t/\t {nx:=λ_ H'=>Q .non H',rt:=Q} (L2.start N vs) H):wpAny (model X.prog X.w) X.A (call (.ref f) us) (EP X pins σ Q) X.xe s:=by
 obtain⟨oc,od,kV,doc,pm,an,cdv,ct,osl,rfl,lk,hcd⟩:=Fu.ex
 have hl2:(us++[]).length=ps.length:=by rw[vv,<-r.length];exact hl
 have hb:=Bi s us I.kIn hl2
 rw[vv]at hb
 have lim:=I.nolimit
 have hkind:∀y∈ps.zip us,(AB st).names.lookup y.1=Gc .local\/((AB st).names.lookup y.1=Gc .cell/\((cellsFrom (s.heap.objs.size+1) (AB st).names []).lookup y.1).isSome=true):=λ⟨n,v⟩ hy=>by
  rcases S.par n (we hy).1 with q|q
  .exact .inl q
  .exact .inr ⟨q,zE _ _ _ (.inl q)⟩
 refine xt (ABK hr.depth (I.kIn _ _ lk) rfl S.co S.gen rfl (AB3 I.kIn hcd) (hb _ _ _ _ ?_))
 refine AAJ S.kind hkind λenv he s1 x1=>?_
 subst he
 refine⟨lim.keeps x1.toInCall.keep,codeAny_func ?_⟩
 obtain⟨t,ht,hq⟩:=hbody cdv (hr.deeper _)
 have J:Inv (IW CX0 X.prog X.w X.K X.mg X.base N x (AB st) f cdv X.A X.stack s H E0) [] (L2.start N vs) H s1:=QB S hr.hd I.Zd hl r x1
 have J':Inv (IW CX0 X.prog X.w X.K X.mg X.base N x (AB st) f cdv X.A X.stack s H E0).nox [] (L2.start N vs) H s1:=J.TM _
 refine vp (ht [] s1 (L2.start N vs) H _ J' hq) (λfl s' hs=>?_) λe s' hs=>hs.elim
 have fin:∀{σ':Sg} {H':Hp} {v:V} {u:uY},Inv (IW CX0 X.prog X.w X.K X.mg X.base N x (AB st) f cdv X.A X.stack s H E0).nox [] σ' H' s'->RelV v u->Q v H'->EP X pins σ Q u s':=
  λ{σ' H' v u} J rv q=>I.after ⟨v,H',J.os,J.bare,J.base,J.hok,rv,q⟩
 cases fl with
 |ret u=>
  obtain⟨v,σ',H',J,rv,q⟩:=hs
  exact fin J rv q
 |next=>
  obtain⟨σ',H',J,q⟩:=hs
  exact fin (v:=V.non) (u:=vL) J rfl q
 |brk=>
  obtain⟨_,_,_,q⟩:=hs
  exact vY q
 |cont=>
  obtain⟨_,_,_,q⟩:=hs
  exact vY q
noncomputable def Vn(x:Str):Cl->va
 | .tab y=>y==x
 |_=>false
theorem WW:∀{S:Sto},S.any (Vn x)=true->∃n:Nat,S[n]?=Gc (Cl.tab x)
 | [],h=>by cases h
 |c::S,h=>by
  rw[xK,vw]at h
  rcases h with h|h
  .cases c with
   |tab y=>have e:y=x:=eq_of_beq h;exact⟨0,by rw[e];rfl⟩
   |lst ds=>cases h
   |dct ds=>cases h
   |ins C fs=>cases h
  .obtain⟨n,e⟩:=WW h
   exact⟨n+1,e⟩
def fS{X:Cx}{pins:Wp (ug×Obj)}{σ:Sg}{H H':Hp}{s s':uj}{x:Str}{P f:ug}{n:Nat}(st:StR X.K M S H)(h1:M.cel[n]?=Gc P)(h2:S[n]?=Gc (Cl.tab x))(k:Qj X pins σ H s x P params body sc clos f H' s'):StR X.K M S H'/\Gr M H M H':=by
 have hP:P∈M.cel:=uw h1
 obtain⟨ps,t1,t2⟩:=k.tab
 have g:Gr M H M H':=⟨st.mo,vk,rfl,λ_ z=>.inl z,λa o e na=>k.keep a o e λz=>na (by rw[z];exact hP),λa e=>by
  by_cases z:a=P
  .subst z;rw[t1];intro z;cases z
  .cases q:H a with
   |none=>exact absurd q e
   |some o=>rw[k.keep a o q z];intro z;cases z⟩
 refine⟨⟨λb z=>?_,st.nd,st.nt,st.len,λm b c e1 e2=>?_⟩,g⟩
 .by_cases hb:b=P
  .subst hb;exact⟨_,t1,trivial⟩
  .exact(st.mo b z).imp λo q=>⟨k.keep _ _ q.1 hb,q.2⟩
 .by_cases hb:b=P
  .subst hb
   have hm:n=m:=(yV (ua.mp h1).1 st.nd).mp (h1.trans e1.symm)
   subst hm
   rw[h2]at e2;cases e2
   exact⟨ps,t1,t2⟩
  .exact(st.cell m b c e1 e2).step g.st λo e=>k.keep _ _ e hb
def V5(X:Cx)(x:Str):Prop:=∀P,TabAt X.K x P->X.K.In X.base->X.base.Ns mainGlobals X.mg->∃c,X.env.code=.ref c/\KG X.K c P
def fnL(Fu:Fun K x x st f fd)(hm:mg x=Gc (.ref f))(S:Aj N ps (AB st))(hp:ps.length=np)(hb:∀{cdv} {A} {outer} {s} {H} {E},V5 (IW CX0 P w K mg base N x (AB st) f cdv A outer s H E).nox x->Cg k (A.deeper (u5 x (AB st) s.heap.objs.size f cdv))->(A.deeper (u5 x (AB st) s.heap.objs.size f cdv)).units+100<cLine->DSs (IW CX0 P w K mg base N x (AB st) f cdv A outer s H E).nox (Ar st) b):Jm P w K mg base CX0 (k+1) f fd ps (spD K np (AS (AV N.length b))):=by
 rw[JQ]
 obtain⟨oc,od,kV,doc,pm,an,cdv,ct,osl,rfl,lk,hcd⟩:=Fu.ex
 refine Xy lk hcd S (λvs H Q E h=>?_) (λA outer s H vs Q E hr h=>?_)
 .obtain⟨M,ds,S0,d,S',hl,_,r,_⟩:=h
  have:=r.length
  lia
 .obtain⟨M,ds,S0,d,S',hl,e,r,st,q⟩:=h
  have hlen:=r.length
  refine⟨_,(hb (cdv:=cdv) (A:=A) (outer:=outer) (s:=s) (H:=H) (E:=E) (λP0 ta kin glob=>?_) hr (Hf hr)).pe.nox,?_⟩
  .obtain⟨f0,oc0,od0,fd0,osl0,c,t1,t2,t3,t4⟩:=ta
   have:=wR kin glob t1
   have e0:Gc (u6 f0)=Gc (u6 f):=this.symm.trans hm
   cases e0
   have t2':K.lookup f=_:=t2
   rw[lk]at t2'
   cases t2'
   exact⟨c,t3,t4⟩
  obtain⟨⟨fl,E',S1⟩,e1,e⟩:=IV e
  cases e
  refine⟨M,_,S0,fl,E',S1,e1,?_,st,?_⟩
  .rw[show L2.start N vs=vs.map Gc++uq (N.length-ds.length) none from by unfold L2.start;rw[hlen]]
   exact .args r _
  .cases fl with
   |nx=>exact λσ' H' M' g _ st'=>q _ _ M' g st' .non
   |ret d=>exact λv H' M' g st' r'=>q _ _ M' g st' r'
def dfL k(S:St.Src K mg x st)(sc:Aj N ps (AB st))(hb:∀{f} {cdv} {A} {outer} {s} {H} {E},V5 (IW CX0 P w K mg base N x (AB st) f cdv A outer s H E).nox x->Cg k (A.deeper (u5 x (AB st) s.heap.objs.size f cdv))->(A.deeper (u5 x (AB st) s.heap.objs.size f cdv)).units+100<cLine->DSs (IW CX0 P w K mg base N x (AB st) f cdv A outer s H E).nox (Ar st) b)(hp:zn (ps.length=np) ww)(hbi:zn (BnR x st ps) wP):St.Dfn P w K mg base x (k+1) ps (spD K np (AS (AV N.length b))):=by
 obtain⟨f,fd,Fu,hm⟩:=S.ex
 exact⟨f,fd,hm,Fu.kp,bnR Fu hbi,fnL Fu hm sc hp λci hr hu=>hb ci hr hu⟩
end Mi
end
noncomputable section
namespace Mi
open PySem PySem.Spec L2 PyProof.Rows
def Qo{K:W1}(k:KG K c P)(X:K.In h):isCodeTable h P:=by
 obtain⟨o,vs,file,tf,flags,tg,inF,text,tt,h0,h1,h2,h3,_⟩:=k
 exact⟨c,o,vs,X _ _ h0,h1,h2,h3⟩
noncomputable def TZ(T:Wp (Str×ug)):Sto:=T.map λz=>Cl.tab z.1
def WD{P:vb}{w:wH}{K:W1}{mg mb:Str->uS uY}{k:Nat}{fa a:ug}{fd:zD}{x:Str}{Fn0:Fn}{s₁:uj}{vs:Wp uY}{ns:Wp Int}{T:Wp (Str×ug)}(KX:K.In s₁.heap)(hns:s₁.heap.Ns mainGlobals mg)(hb:s₁.heap.Ns builtinsNs mb)(hbb:∀x:Str,x≠ "__name__"->mb x=bootBuiltins x)(hlim:s₁.heap.NoLimit)(hg:s₁.gens= #[])(ha:s₁.heap.get? a=Gc {cls:=.type "list",data:=.seq vs.toArray})(hi:yo vs ns)(hl:ns.length<=sizeLine)(hr:Cg k callerA)(hT:∀z∈T,TabAt K z.1 z.2/\K.lookup z.2=none/\s₁.heap.get? z.2=Gc (zL #[]))(nd:(T.map (·.2)).Nodup)(bmn:∃bm ob,mg "__builtins__"=Gc (.ref bm)/\bm≠builtinsNs/\s₁.heap.get? bm=Gc ob/\ob.cls=.type "module" /\ob.dict=Gc builtinsNs/\ob.data=.plain)(F:∀base,K.In base->base.Ns mainGlobals mg->BmB mg base->Jm P w K mg base CX0 k fa fd [x] (spD K 1 Fn0))(hbind:∀s u,BindsTo s fd ⟨[u],[]⟩ [(x,u)])(hlaw:∃S,Fn0 [.scr ns] (TZ T)=Gc (.bl true,S)):codeAny (model P w) callerA (.call (.ref fa) ⟨[.ref a],[]⟩) (λr s'=>r=.ok (.ret (.bool true))/\OldK s₁.heap s'.heap/\s'.os=s₁.os/\yx s'.gens) s₁:=by
 have rv:=Px hi
 have lenV:=hi.length
 have aT:∀z∈T,z.2≠a:=λz hz e=>by
  have:=(hT z hz).2.2
  rw[e,ha]at this;cases this
 have core:∀H:Hp,SqL K H a (ns.map V.int)->HOk P w H s₁.heap->(∀b,H b≠none->b=a\/∃z∈T,z.2=b)->(∀b,H b≠none->K.lookup b=none)->(∀z∈T,H z.2=Gc (.tbl #[]))->(H a=none\/∃o xs,H a=Gc (.frz o (.lst xs)))->
   codeAny (model P w) callerA (.call (.ref fa) ⟨[.ref a],[]⟩) (λr s'=>r=.ok (.ret (.bool true))/\OldK s₁.heap s'.heap/\s'.os=s₁.os/\yx s'.gens) s₁:=by
  intro H hS hok hA hK hTb hF
  have base_of:∀{b:ug} {o:Obj},s₁.heap.get? b=Gc o->H b=none->(Wr s₁.heap H).get? b=Gc o:=λe n=>Xf e n
  have noA:∀{b:ug} {o:Obj},s₁.heap.get? b=Gc o->(∀x n,o.data≠.seq x n)->(∀x,o.data≠.fields x)->H b=none:=λ{b o} e d1 d2=>by
   cases q:H b with
   |none=>rfl
   |some u=>
    rcases hA b (by rw[q];simp)with z|⟨z,hz,z2⟩
    .subst z
     rw[ha]at e;cases e
     exact absurd rfl (d1 _ _)
    .subst z2
     rw[(hT z hz).2.2]at e;cases e
     exact absurd rfl (d2 _)
  have nsK:∀{b:ug} {m:Str->uS uY},s₁.heap.Ns b m->(Wr s₁.heap H).Ns b m:=λ{b m} ⟨o,es,ep,e,d,r⟩=>⟨o,es,ep,base_of e (noA e (λ_ _ z=>by rw[d]at z;cases z) λ_ z=>by rw[d]at z;cases z),d,r⟩
  have hKb:K.In (Wr s₁.heap H):=λb o e=>base_of (KX b o e) (by
   cases q:H b with
   |none=>rfl
   |some u=>rw[hK b (by rw[q];simp)]at e;cases e)
  have hM:Mod K mg (Wr s₁.heap H):=⟨hKb,nsK hns,⟨mb,nsK hb,hbb⟩,let⟨mc,h1,h2⟩:=hlim;⟨mc,nsK h1,h2⟩⟩
  have e0:ZI P w K mg (Wr s₁.heap H) callerA [] s₁ H:=⟨rfl,hM,λb o e=>Z6 e,Nat.le_of_eq (WR _ _),trivial,λb hb=>absurd (show b∈([]:Wp ug)from hb) (by simp),hok,.of_eq hg⟩
  have hbm:BmB mg (Wr s₁.heap H):=by
   obtain⟨bm,ob,m1,m2,m3,m4,m5,m6⟩:=bmn
   refine⟨bm,ob,m1,m2,λz=>?_,base_of m3 (noA m3 (λ_ _ z=>by rw[m6]at z;cases z) λ_ z=>by rw[m6]at z;cases z),m4,m5,m6⟩
   obtain⟨o,es,ep,e,d,_⟩:=hns
   rw[z,e]at m3;cases m3
   rw[d]at m6;cases m6
  obtain⟨S',hS'⟩:=hlaw
  have nm:¬Ms.mem ⟨T.map (·.2),[]⟩ a:=λz=>by
   rcases z with z|z
   .obtain⟨q,hq,e⟩:=vT.mp z
    exact aT q hq e
   .cases z
  have st:StR K ⟨T.map (·.2),[]⟩ (TZ T) H:=by
   refine⟨λb z=>?_,nd,λb z=>(nomatch z),by simp[TZ],λn b c e1 e2=>?_⟩
   .rcases z with z|z
    .obtain⟨q,hq,e⟩:=vT.mp z
     subst e
     exact⟨_,hTb q hq,trivial⟩
    .cases z
   .have e1':(T.map (·.2))[n]?=Gc b:=e1
    have e2':(T.map λz=>Cl.tab z.1)[n]?=Gc c:=e2
    rw[uo]at e1' e2'
    cases q:T[n]? with
    |none=>rw[q]at e1';cases e1'
    |some z=>
     rw[q]at e1' e2'
     cases e1';cases e2'
     have hz:=uw q
     exact⟨#[],hTb z hz,trivial,(hT z hz).1,λpos cv e=>by rw[ye]at e;cases e⟩
  refine yd ((F _ hKb (nsK hns) hbm).run callerA [] s₁ H ⟨[.ref a],[]⟩ [.ref a] [.ref a] (λv _=>v=.bl true) (λ_ _ _=>wI) hr e0 (hbind s₁ (.ref a)) (.cons rfl .nil) ⟨⟨T.map (·.2),[]⟩,[.scr ns],TZ T,_,S',rfl,hS',.cons (.scr ?_) .nil,st,λv H' M' g st' r'=>by cases r';rfl⟩) λr s' h=>?_
  .rcases hS with z|z
   .exact .inl ⟨z,nm⟩
   .exact .inr z
  cases r with
  |error e=>exact vY h
  |ok fl=>
   cases fl with
   |next=>exact vY h
   |brk=>exact vY h
   |cont=>exact vY h
   |ret u=>
    obtain⟨v,H',os,bare,un,hok',r',q⟩:=h
    have q':v=.bl true:=q
    subst q'
    obtain rfl:u=AAD true:=r'
    refine⟨rfl,⟨λb o e=>?_,λb o e=>un.there b o e (by simp)⟩,os,bare⟩
    cases q:H b with
    |none=>exact .inl (un.keep b o e q (by intro z;exact absurd (show b∈([]:Wp ug)from z) (by simp)) (by simp))
    |some u=>
     rcases hA b (by rw[q];simp)with z|⟨z,hz,z2⟩
     .subst z
      rcases hF with z|⟨ob,xs,z⟩
      .rw[q]at z;cases z
      .have z2:=un.Rj b ob _ z
       obtain⟨e1,_⟩:=hok b _ z
       obtain⟨e2,_⟩:=hok' b _ z2
       rw[e]at e1;cases e1
       exact .inl e2
     .subst z2
      obtain⟨t1,t2,t3⟩:=hT z hz
      rw[t3]at e;cases e
      obtain⟨more,em⟩:=un.Tj _ _ (hTb z hz)
      have e2:s'.heap.get? z.2=Gc (zL (#[]++more)):=hok' _ _ em
      obtain⟨_,_,_,_,_,c,_,_,_,hc⟩:=t1
      exact .inr (.inl ⟨Qo hc KX,rfl, #[],more,rfl,e2⟩)
 cases hk:K.lookup a with
 |some o=>
  have e:=KX a o hk
  rw[ha]at e
  cases e
  refine core (λb=>if∃z∈T,z.2=b then Gc (.tbl #[])else none) (.inr ⟨_,vs.toArray,_,hk,rfl,rfl,rfl,by rw[ur,lenV];exact hl,by simpa using rv⟩) (λb u z=>?_) (λb z=>?_) (λb z=>?_) (λz hz=>vD ⟨z,hz,rfl⟩) (.inl (vC λ⟨z,hz,e⟩=>aT z hz e))
  .by_cases hb:∃z∈T,z.2=b
   .have z':=(vD hb).symm.trans z
    cases z'
    obtain⟨y,hy,rfl⟩:=hb
    exact(hT y hy).2.2
   .have z':=(vC hb).symm.trans z
    cases z'
  .by_cases hb:∃z∈T,z.2=b
   .exact .inr hb
   .exact absurd (vC hb) z
  .by_cases hb:∃z∈T,z.2=b
   .obtain⟨y,hy,rfl⟩:=hb;exact(hT y hy).2.1
   .exact absurd (vC hb) z
 |none=>
  refine core (λb=>if b=a then Gc (.frz {cls:=.type "list",data:=.seq vs.toArray} (.lst (ns.map V.int)))else if∃z∈T,z.2=b then Gc (.tbl #[])else none) (.inl (.inr ⟨{cls:=.type "list",data:=.seq vs.toArray},vD rfl⟩)) (λb u z=>?_) (λb z=>?_) (λb z=>?_) (λz hz=>(vC (aT z hz)).trans (vD ⟨z,hz,rfl⟩)) (.inr ⟨_,_,vD rfl⟩)
  .by_cases hb:b=a
   .have z':=(vD hb).symm.trans z
    cases z'
    subst hb
    exact⟨ha,by rw[vO];exact hl,vs,_,rv,ha⟩
   .have z':=(vC hb).symm.trans z
    by_cases hc:∃z∈T,z.2=b
    .have z'':=(vD hc).symm.trans z'
     cases z''
     obtain⟨y,hy,rfl⟩:=hc
     exact(hT y hy).2.2
    .have z'':=(vC hc).symm.trans z'
     cases z''
  .by_cases hb:b=a
   .exact .inl hb
   .by_cases hc:∃z∈T,z.2=b
    .exact .inr hc
    .exact absurd ((vC hb).trans (vC hc)) z
  .by_cases hb:b=a
   .rw[hb];exact hk
   .by_cases hc:∃z∈T,z.2=b
    .obtain⟨y,hy,rfl⟩:=hc;exact(hT y hy).2.1
    .exact absurd ((vC hb).trans (vC hc)) z
def mZ{l:AAz}{q:vb}{loose:Wp Str}{XP:(Str->uS uY)->vt->Prop}{YP:wH->vt->Prop}{d:DefRec}{K:Params->W1} T(hn:l.most=Gc 63)(hdf:d.params.defaults=[])(hr:Cg k callerA)(hY:∀w h,YP w h->(K w.params).In h/\∀z∈T,h.get? z.2=Gc (zL #[]))(nd:(T.map (·.2)).Nodup)(F:∀w mg fa h,(K w.params).In h->h.Ns mainGlobals mg->mg d.name=Gc (.ref fa)->(∀z∈T,TabAt (K w.params) z.1 z.2/\(K w.params).lookup z.2=none)/\∃fd,(∀s u,BindsTo s fd ⟨[u],[]⟩ [(x,u)])/\∀base,(K w.params).In base->base.Ns mainGlobals mg->BmB mg base->Jm l.prog w (K w.params) mg base CX0 k fa fd [x] (spD (K w.params) 1 Fn0))(hlaw:∀ns,ns.length<=63->∃S,Fn0 [.scr ns] (TZ T)=Gc (.bl true,S)):PySem.W.WalkO q loose XP YP l.row.toRowW d [] (λf vs=>PySem.call f vs):=by
 refine Att.attach_call hn hdf λw s₀ s₁ mg mb fa o pm cd doc a vs ns G Y ho hd hcd hmg hobj hints hlen hg=>?_
 obtain⟨KX,Y2⟩:=hY w _ Y
 obtain⟨hT,fd,hb,hF⟩:=F w mg fa _ KX G.T.g hmg
 exact WD KX G.T.g G.T.b G.T.builtins G.T.nolimit hg hobj hints (ub hlen (by decide)) hr (λz hz=>⟨(hT z hz).1,(hT z hz).2,Y2 z hz⟩) nd G.T.bmain hF hb (hlaw ns hlen)
end Mi
end
noncomputable section
namespace Mi
open PySem PySem.Spec L2
noncomputable def laE:Nat->vj->Wp wY
 |0,_=>[]
 |n+1,.Lambda _ _ s _=>[s]
 |n+1,.BoolOp _ vs _=>vs.flatMap (laE n)
 |n+1,.Call f as _ _=>laE n f++as.flatMap (laE n)
 |n+1,.UnaryOp _ a _=>laE n a
 |n+1,.Compare a _ cs _=>laE n a++cs.flatMap (laE n)
 |n+1,.Tuple es _ _=>es.flatMap (laE n)
 |n+1,.List es _=>es.flatMap (laE n)
 |n+1,.Subscript a _ _=>laE n a
 |_,_=>[]
noncomputable def laS:Nat->vI->Wp wY
 |0,_=>[]
 |n+1,.Return (Gc e) _=>laE 30 e
 |n+1,.Assign ts e _=>laE 30 e
 |n+1,.Expr e _=>laE 30 e
 |n+1,.If t a b _=>laE 30 t++a.flatMap (laS n)++b.flatMap (laS n)
 |n+1,.For _ it a b _=>laE 30 it++a.flatMap (laS n)++b.flatMap (laS n)
 |n+1,.While t a b _=>laE 30 t++a.flatMap (laS n)++b.flatMap (laS n)
 |_,_=>[]
noncomputable def sG(st:vI)(k:Nat):wY:=((Ar st).flatMap (laS 20)).getD k (AB st)
def lsM{N:Wp Str}{osc:wY}{N':Wp Str}{J5:Wp Nat}{sc:wY}(a:zn (sc.kind=.function) ww)(b:zn (sc.isCoroutine=false) ww)(c:zn (sc.isGenerator=false) ww)(d:zn (∀y∈sc.names,y.2≠.cell) wS)(e:zn (∀y∈sc.names,y.2=.free->osc.names.lookup y.1=Gc .cell) wS)(f:zn (J5.length=N'.length) ww)(g:zn (∀z∈N'.zip J5,N[z.2]?=Gc z.1/\osc.names.lookup z.1=Gc .cell/\sc.names.lookup z.1=Gc .free) wS):LN N osc N' J5 sc:=⟨a,b,c,d,e,f,g⟩
end Mi
end
noncomputable section
namespace Mi
open PySem PySem.Spec L2 PyProof.Rows
structure Lo(X:Cx)(pins:Wp (ug×Obj))(lo:ug):Prop where
 s0:X.s₀.heap.objs.size<=lo
 loc:X.env.locals<lo
 cel:∀x c,X.env.cells.lookup x=Gc c->c<lo
 pin:∀p∈X.pn++pins,p.1<lo
def _root_.L2.Inv.lo(I:Inv X pins σ H s):Lo X pins s.heap.objs.size:=⟨I.sz,I.lt,λx c e=>by
 obtain⟨v,o,ho,_⟩:=I.cell x c e
 exact uk ho,λp hp=>uk (I.pin p hp).1⟩
def _root_.L2.Inv.adopt(I:Inv X pins σ H s){lo a:ug}{o:HO}(b:Lo X pins lo)(la:lo<=a)(hn:H a=none)(new:CU X.prog X.w (upd H a o) s.heap a o):Inv X pins σ (upd H a o) s:=by
 have ne:∀b u,H b=Gc u->b≠a:=λb u e z=>by rw[z,hn]at e;cases e
 refine I.step (g':=s.gens) (d':=s.drawn) (t':=s.toks) (h':=s.heap) (ch:=[a]) (λb' hb=>?_) (λ_ _ _ _ _ e _=>e) (λb o _ _ _ e _=>⟨o.slots,e⟩) (λb o hc e n=>?_)
  (λb o _ e=>⟨o,e⟩) (λb xs e=>by rw[AM (ne b _ e)];exact e) (λb o u e=>by rw[AM (ne b _ e)];exact e) (λb ps e=>⟨#[],by rw[AM (ne b _ e),e];simp⟩) (λ_ m=>m) (λb u e=>?_) I.bare
 .have e:b'=a:=by simpa using hb
  subst e
  exact⟨.inr (ub b.s0 la),y9 (uV b.loc la),λx c e=>vF (uV (b.cel x c e) la),λp hp=>vF (uV (b.pin p hp) la)⟩
 .rw[AM (λz=>hc (by simp[z]))];exact n
 .by_cases hb:b=a
  .subst hb;rw[AX]at e;cases e;exact new
  .rw[AM hb]at e
   exact(I.hok b u e).RL (λc v _ q=>q) (λc q=>by rw[AM (ne c _ q)];exact q) λc xs q=>by rw[AM (ne c _ q)];exact q
end Mi
end
noncomputable section
namespace Mi
open PySem PySem.Spec L2
section
variable{A:w9}{E:uY->uj->Prop}{h:vt}{t:Nat}{os:OsState}
variable{nm q:Str}{C N:ug}{sub:Wp uY}{ab:va}{col:uS va}{dd:uS ug}{k0 k1 k2 k3 k5:uS uY}
structure Y6(h h':vt)(e t:ug)(C:ug)(args:Wp uY):Prop where
 keeps:∀b o,h.get? b=Gc o->h'.get? b=Gc o
 new:h.get? e=none
 le:h.objs.size<=e
 obj:h'.get? e=Gc {cls:=.ref C,data:=.fields #[.ref t,.none,.none,.none,.bool false,.none]}
def Su(F:ExcBaseFacts B newId initId bmB)(T:OwnTail h bmB bm){rest:Wp uY}(hC:h.get? C=Gc (excClassObj nm q C N bs bm hdct sn sub ab col dd k0 k1 k2 k3 k5 newId))(hn:h.Ns N mN)(hi:mN "__init__"=Gc (.ref fI))(hfI:h.get? fI=Gc oI)(hfc:oI.cls=.type "function")(hq:∀h' e t',Y6 h h' e t' C rest->wpAny (model prog w) A (call (.ref fI) (.ref e::rest)) (λr s'=>r=.none/\Q (.done (.ret (.ref e))) s') E ⟨h',g,d,t,os⟩)(hrest:rest.length<=sizeLine):wpAny (model prog w) A (zI.«type.__call__» ⟨.ref C::rest,[]⟩) Q E ⟨h,g,d,t,os⟩:=by
 repeat (first|with_reducible refine yX hC ?_|with_reducible refine wpAny_madeBy_exc hC ?_|wp_step)
 refine codeAny_call_builtin_code (ACA _ F.quiet) (wpAny_check_new_subT F T hC ?_)
 refine codeAny_exc_new_subT F T hC ?_ hrest
 show wpAny _ _ _ _ _ _
 generalize hH:(h.push {cls:=.type "tuple",data:=.seq rest.toArray}).push {cls:=.ref C,data:=.fields #[.ref h.objs.size,.none,.none,.none,.bool false,.none]}=h1
 have up:∀b o,h.get? b=Gc o->h1.get? b=Gc o:=λb o z=>by
  rw[<-hH];exact uR _ (uR _ z)
 have ob:h1.get? (h.objs.size+1)=Gc {cls:=.ref C,data:=.fields #[.ref h.objs.size,.none,.none,.none,.bool false,.none]}:=by
  rw[<-hH];heap_get
 have cC:(u6 C::bm).contains (.ref C)=true:=by simp
 have c1:=up _ _ hC
 unfold isInstance
 repeat (first|with_reducible refine yX ob ?_|(with_reducible refine ABr c1 ?_;rw[cC])|wp_step)
 show wpAny _ _ (typeLookup (.ref C) _) _ _ _
 refine wpAny_typeLookup_tail c1 (hn.keeps up) (T.keeps up) F.mroIs F.init.lookup ?_
 rw[hi]
 refine vx (uQ ?_)
 unfold bindSpecial
 refine uQ (AA2 (T:="function") ⟨_,up _ _ hfI,hfc⟩ ?_)
 rw[vD (by decide)]
 refine uh (uQ (vp (hq h1 (h.objs.size+1) h.objs.size ⟨up,ABQ (AAb _),AAb _,ob⟩) (λr s' hr=>?_) λ_ _ x=>x))
 obtain⟨rfl,hQ⟩:=hr
 wp_walk
 exact hQ
def VE(F:ExcBaseFacts B newId initId bmB)(T:OwnTail h bmB bm){rest:Wp uY}(hC:h.get? C=Gc (excClassObj nm q C N bs bm hdct sn sub ab col dd k0 k1 k2 k3 k5 newId))(hn:h.Ns N mN)(hi:mN "__init__"=Gc (.ref fI))(hfI:h.get? fI=Gc oI)(hfc:oI.cls=.type "function")(hq:∀h' e t',Y6 h h' e t' C rest->wpAny (model prog w) (A.under (.builtin "type.__call__" ⟨.ref C::rest,[]⟩)) (call (.ref fI) (.ref e::rest)) (λr s'=>r=.none/\Q (.ref e) s') E ⟨h',g,d,t,os⟩)(hrest:rest.length<=sizeLine):wpAny (model prog w) A (call (.ref C) rest) Q E ⟨h,g,d,t,os⟩:=by
 have f1:=tc_lookup
 have f2:=tc_bind (.ref C)
 have hT:(⟨h,g,d,t,os⟩:uj).TypeIs (.ref C) "type":=⟨_,hC,rfl⟩
 refine xt (codeAny_of_tree ?_)
 show wpAny _ _ (callAny (.ref C) _) _ _ _
 repeat (any_goals (first|assumption|with_reducible refine yX hC ?_|wp_step))
 refine⟨rfl,?_⟩
 refine codeAny_call_builtin_at (ACA _ (by decide+kernel)) entry_typeCall (wpAny_check_type_call_sub hC (Su F T hC hn hi hfI hfc (λh' e t' hm=>?_) hrest))
 exact hq h' e t' hm
end
def RO(e C:ug)(h:vt):Prop:=∃vs a0,h.get? e=Gc {cls:=.ref C,data:=.fields vs}/\vs.size=6/\vs[0]?=Gc (.ref a0)/\vs[1]?=Gc .none
def Wq(e C dx:ug)(h:vt):Prop:=∃vs a0,h.get? e=Gc {cls:=.ref C,dict:=Gc dx,data:=.fields vs}/\vs.size=6/\vs[0]?=Gc (.ref a0)/\vs[1]?=Gc .none
def Wb(x:RO e C h):CU P w H h e (.ext (RO e C)):=
 ⟨x,let⟨_,_,z,_⟩:=x;⟨_,z⟩,λ_ _ ⟨vs,a0,z,r⟩ k=>⟨vs,a0,k _ z,r⟩⟩
def dy(x:Wq e C dx h):CU P w H h e (.ext (Wq e C dx)):=
 ⟨x,let⟨_,_,z,_⟩:=x;⟨_,z⟩,λ_ _ ⟨vs,a0,z,r⟩ k=>⟨vs,a0,k _ z,r⟩⟩
def gO(e:H a=Gc o):upd H a o=H:=by
 funext b;unfold upd;split
 .rename_i z;rw[z,e]
 .rfl
def eE{X:Cx}{i k1 k2:Nat}{x a b:Str}{p1 p2 p3 p4 p5:Pos}(hN:X.N[i]?=Gc x)(hv:Vis X.env.scope x)(ha:a.length<=1000)(hb:b.length<=1000)(hd:zn ((x==("__debug__":Str))=false) xz)(hcd:zn ((x==("__classdict__":Str))=false) xz):PE X (.JoinedStr [.Constant (.str a) k1 p1,.FormattedValue (.Name x p2) (-1) none p3,.Constant (.str b) k2 p4] p5) (λσ H Q=>∃n,σ[i]?=Gc (Gc (.int n))/\n.natAbs.log2<1920/\∀y,Q (.str y) H):=by
 intro pins s σ H Q I h
 obtain⟨n,e,hl,q⟩:=h
 have ln:(u9 (toString n)).length<=1921:=by
  rw[ofString_length]
  exact int_text_length_le (by decide) hl
 refine PyProof.Rows.JoinedStr_many (yY (thn (Nf pins s σ H (λv H1=>v=.str a/\H1=H) I ⟨rfl,rfl⟩) λu s1 z=>?_))
 obtain⟨v,H1,I1,r1,rfl,rfl⟩:=z
 obtain⟨t1,rfl⟩:=r1
 have l0:(Str.empty++a).length=a.length:=by rw[yr];simp[Str.empty,Str.length]
 refine⟨by rw[l0,xJ];lia,yY (PyProof.Rows.FormattedValue_plain (thn (Ig hN hv hd hcd pins s1 σ H1 (λv H2=>v=.int n/\H2=H1) I1 ⟨_,e,rfl,rfl⟩) λu s2 z=>?_))⟩
 obtain⟨v,H2,I2,r2,rfl,rfl⟩:=z
 obtain⟨t2,rfl⟩:=r2
 refine ACB hl ?_
 refine⟨by rw[yr,l0,xJ];lia,?_⟩
 refine yY (thn (Nf pins _ σ H2 (λv H3=>v=.str b/\H3=H2) ((I2.tok _).tok _) ⟨rfl,rfl⟩) λu s3 z=>?_)
 obtain⟨v,H3,I3,r3,rfl,rfl⟩:=z
 obtain⟨t3,rfl⟩:=r3
 refine⟨by rw[yr,yr,l0,xJ];lia,?_⟩
 refine PyProof.Rows.joinParts_nil ⟨.str _,H3,I3.tok _,⟨_,rfl⟩,q _⟩ (by rw[yr,yr,l0,xJ];lia)
section
variable{prog:vb}{w:wH}{A:w9}{E:uY->uj->Prop}{s:uj}{K:W1}{x C TE:ug}{cd:ClassData}{name:Str}{vs:ym uY}
def dE(X:K.In s.heap)(hx:s.heap.get? x=Gc {cls:=.ref C,data:=.fields vs})(hc:yO K C=Gc cd)(ho:cd.mro=.ref C:: .ref TE::VEm)(hd:cd.hasDict=true)(hm:xr K C (.type "object")=Gc true)(ht:vB K (.ref C) name=Gc none)(h:∀h' tk (dx:ug),s.heap.objs.size<=dx->h'.get? x=Gc {cls:=.ref C,dict:=Gc dx,data:=.fields vs}->h'.Ns1 dx (λy=>if y=name then Gc v else none)->(∀b o,b≠x->s.heap.get? b=Gc o->h'.get? b=Gc o)->R (.ok (.ret .none)) {s with heap:=h',toks:=tk}):codeAny (model prog w) A (.call (.builtin "object.__setattr__") ⟨[.ref x,.str name tk,v],[]⟩) R s:=by
 have J:zB s.heap x {cls:=.ref C,data:=.fields vs} C none:=⟨hx,rfl,rfl,trivial⟩
 have SF:=PySem.F.store_object
 have sub:zc (model prog w) s.heap (isInstance (.ref x) (.type "object")) true:=J.type.andThen (ABs X hm)
 have mr:zc (model prog w) s.heap (mroOf (.ref C)) cd.mro:=(zx X hc).andThen .now
 refine zg SF.slot.plain SF.entry (@ACC (model prog w) _ _ _ "object.__setattr__" "object" "__setattr__" (.ref x) [.str name tk,v] [] _ SF.kind SF.split sub (SF.args (.ref x) (.str name tk) v) ?_)
 rw[PySem.W.osa_eq,refuse_eq]
 refine uQ (uQ (J.type.here (uQ (mr.here ?_))))
 rw[ho,refuseLoop_ref,refuseLoop_ref,show refuseLoop (.ref x) "__setattr__" VEm=pure ()from PySem.F.store_ValueError.passes (.ref x)]
 refine uh (uQ (J.type.here (uQ ((ze X ht).here (uQ (uh ?_))))))
 have xs:x≠s.heap.objs.size:=vF (uk hx)
 have hx1:(s.heap.push {cls:=.type "dict",data:=.dict #[]}).get? x=Gc {cls:=.ref C,data:=.fields vs}:=uR _ hx
 refine uQ (uh (uQ (uQ (wpAny_loadPart hx (uQ ((zx X hc).here ?_))))))
 rw[hd]
 refine(show wpAny (model prog w) A.in1 (alloc {cls:=.type "dict",data:=.dict #[]} >>= _) _ _ s from uQ (wpAny_alloc' ?_))
 refine uQ (wpAny_update' hx1 (uh ?_))
 have hf:=(Heap.get?_some_iff.mp hx).2
 generalize hG:(s.heap.push {cls:=.type "dict",data:=.dict #[]}).update x (λo=>{o with dict:=Gc s.heap.objs.size})=g1
 have gx:g1.get? x=Gc {cls:=.ref C,dict:=Gc s.heap.objs.size,data:=.fields vs}:=by
  rw[<-hG];exact wC _ hx1 rfl
 have gd:g1.get? s.heap.objs.size=Gc {cls:=.type "dict",data:=.dict #[]}:=by
  rw[<-hG];exact(ABt _ _ _ _ xs.symm).trans (Heap.get?_push_at rfl rfl)
 have gk:∀b o,b≠x->s.heap.get? b=Gc o->g1.get? b=Gc o:=λb o n z=>by
  rw[<-hG];exact(ABt _ _ _ _ n).trans (uR _ z)
 have nd:g1.Ns s.heap.objs.size (λ_=>none):=⟨_, #[],_,gd,rfl,λe he=>absurd he (by simp),λ_=>rfl⟩
 show wpAny _ _ (zW s.heap.objs.size (.str name tk) name v) _ _ _
 unfold zW Builtin.ObjectAttr.newKeyGuard
 refine uQ (uh (uQ (wpAny_nsSet1 (Heap.Ns1.of_empty nd) λh' hn' hs=>?_)))
 obtain⟨oD,esD,epD,hoD,hdD,hcD⟩:=hn'.count (Within.cons name v Within.nil)
 refine uQ (wpAny_lookBehind hoD (by rw[hdD];exact pastItsLine_dict (ub hcD (by rw[vH,xg,xJ];lia))) ?_)
 refine uh (h h' _ s.heap.objs.size (ue _) ((hs.2 x xs).trans gx) hn' λb o n z=>(hs.2 b (vF (uk z))).trans (gk b o n z))
def bZ(X:K.In s.heap)(hx:s.heap.get? x=Gc {cls:=.ref C,data:=.fields vs})(hs:vB K (.ref C) "__setattr__"=Gc (Gc (.builtin "object.__setattr__")))(hc:yO K C=Gc cd)(ho:cd.mro=.ref C:: .ref TE::VEm)(hd:cd.hasDict=true)(hm:xr K C (.type "object")=Gc true)(ht:vB K (.ref C) name=Gc none)(h:∀h' tk (dx:ug),s.heap.objs.size<=dx->h'.get? x=Gc {cls:=.ref C,dict:=Gc dx,data:=.fields vs}->h'.Ns1 dx (λy=>if y=name then Gc v else none)->(∀b o,b≠x->s.heap.get? b=Gc o->h'.get? b=Gc o)->Q () {s with heap:=h',toks:=tk}):wpAny (model prog w) A (setAttr (.ref x) name v) Q E s:=
 PySem.W.set_plain X (⟨hx,rfl,rfl,trivial⟩:zB s.heap x {cls:=.ref C,data:=.fields vs} C none) hs (dE (s:={s with toks:=s.toks+1}) X hx hc ho hd hm ht λh' tk dx a b c d=>h h' tk dx a b c d)
end
section
variable{prog:vb}{w:wH}{E:uY->uj->Prop}{h:vt}{g:ym GenState}{d:Drawn}{os:OsState}
variable{nm q:Str}{C N:ug}{ab:va}{col:uS va}{dd:uS ug}
def UT(T:OwnTail h VEm bm)(hC:h.get? C=Gc (excClassObj nm q C N bs bm hdct sn sub ab col dd k0 k1 k2 k3 k5 "ValueError.__new__"))(he:h.get? e=Gc {cls:=.ref C,data:=.fields vs})(hz:vs.size=6)(h0:vs[0]?=Gc (.ref t0))(hq:∀h' tt,(∀b o,b≠e->h.get? b=Gc o->h'.get? b=Gc o)->h'.get? e=Gc {cls:=.ref C,data:=.fields (vs.setIfInBounds 0 (.ref tt))}->Q .none ⟨h',g,d,t,os⟩):wpAny (model prog w) A (call (.builtin "ValueError.__init__") [.ref e,u]) Q E ⟨h,g,d,t,os⟩:=by
 have F:=yA
 refine xt (zg F.init.plain F.initEntry (wpAny_check_init_subT F T hC he rfl ?_))
 wp_walk
 have e1:(h.push {cls:=.type "tuple",data:=.seq #[u]}).get? e=Gc {cls:=.ref C,data:=.fields vs}:=uR _ he
 rw[h0]
 refine uh (uQ (x8 e1 rfl (by rw[hz];decide) (ABU (uh ?_))))
 refine hq _ h.objs.size (λb o n z=>?_) ?_
 .rw[vo _ _ (vi n)]
  exact uR _ z
 .exact wC _ e1 rfl
end
structure XiD(K:W1)(C TE fI:ug):Prop where
 cls:∃nm q N bs sn sub ab col dd k0 k1 k2 k3 k5,K.lookup C=Gc (excClassObj nm q C N bs (.ref TE::VEm) true sn sub ab col dd k0 k1 k2 k3 k5 "ValueError.__new__")/\ABc K N=true/\vG K N "__init__"=Gc (Gc (.ref fI))
 tail:ABd K VEm (.ref TE::VEm)=true
 sa:vB K (.ref C) "__setattr__"=Gc (Gc (.builtin "object.__setattr__"))
 ob:xr K C (.type "object")=Gc true
 at_:vB K (.ref C) "at"=Gc none
 sp:zC K (.ref TE) "__getattribute__"=Gc (Gc (.builtin "type.__getattribute__"))
 rd:PySem.W.readsIn K TE (.type "type")=true
 fc:PySem.W.findCls K (.ref TE) (.type "type") "__init__"=Gc (.val (.builtin "ValueError.__init__"))
section
variable{X:Cx}{C TE fI:ug}{B:Str}{p1 p2 p3 p4 p5 p6 p7 p8 p9 p10:Pos}{k1 k2:Nat}{a b:Str}
def Yi (D:XiD X.K C TE fI)(hB:X.mg B=Gc (.ref TE))(hg:Gl X B)(hN:X.N=([("self" : Str),("at" : Str)]:Wp Str))(v0:Vis X.env.scope "self")(v1:Vis X.env.scope "at")(ha:a.length ≤ 1000)(hb:b.length ≤ 1000)(hdb:(B == ("__debug__" : Str))=false)(ht:eval (.Call (.Attribute (.Name B p1) "__init__" p2) [.Name "self" p3,.JoinedStr [.Constant (.str a) k1 p4,.FormattedValue (.Name "at" p5) (-1) none p6,.Constant (.str b) k2 p7] p8] [] p9) X.env=(do
      let ov ← eval (.Name B p1) X.env
      standAt p2.atName
      let (f, first) ← holding [ov] (getMethod ov "__init__" pl)
      callWith p9 f first (backTo p9 (uf [.Name "self" p3, .JoinedStr [.Constant (.str a) k1 p4, .FormattedValue (.Name "at" p5) (-1) none p6, .Constant (.str b) k2 p7] p8] X.env)) (backToKw p9 (keywordEach [] X.env)))) :
    PE X (.Call (.Attribute (.Name B p1) "__init__" p2) [.Name "self" p3, .JoinedStr [.Constant (.str a) k1 p4, .FormattedValue (.Name "at" p5) (-1) none p6, .Constant (.str b) k2 p7] p8] [] p9)
      (λσ H Q=>∃e n,σ[0]?=Gc (Gc (.ref e))/\σ[1]?=Gc (Gc (.int n))/\n.natAbs.log2<1920/\H e=Gc (.ext (RO e C))/\Q .non H):=by
  intro pins s σ H Q I h
  obtain⟨e,n,e0,e1,hn,he,q⟩:=h
  refine yP (pl:=pl) (IC I hg hB ?_ hdb) ht
  refine PySem.W.method_cls I.kIn D.sp (PySem.W.cls_value I.kIn D.rd D.fc (by decide +kernel) ?_)
  have I0:=I.tok (s.toks + 1)
  have A:=F6 (Ig (X:=X) (i:=0) (x := "self") (pos:=p3) (by rw[hN];rfl) v0) (F6 (eE (X:=X) (i:=1) (x := "at") (a:=a) (b:=b) (k1:=k1) (k2:=k2) (p1:=p4) (p2:=p5) (p3:=p6) (p4:=p7) (p5:=p8) (by rw[hN];rfl) v1 ha hb) NR)
  refine zG rfl (xk (thn (A p9 pins _ σ H (fun vs H1 => ∃ y, vs = [.ref e, .str y] /\ H1 = H) I0 ⟨_, e0, n, e1, hn, fun y => ⟨y, rfl, rfl⟩⟩) fun us s1 z => ?_))
  obtain⟨vs,H1,I1,rv,y,rfl,rfl⟩:=z
  cases rv with
  | cons r0 rv =>
  cases rv with
  | cons r1 rv =>
  cases rv
  obtain rfl:=r0
  obtain⟨ws,t0,o1,o2,o3,o4⟩:=(I1.hok e _ he).1
  obtain⟨nm,qn,N,bs,sn,sub,ab,col,dd,k0,kk1,kk2,k3,k5,lk,ok,_⟩:=D.cls
  obtain⟨hp,g,d,tk,os⟩:=s1
  refine UT (AAT I1.kIn D.tail) (I1.kIn _ _ lk) o1 o2 o3 fun h' tt kp ob => ?_
  have w:=I1.write (x:=e) (e:=e) (o:=.ext (RO e C)) (t':=tk) (by rw[he];trivial) (.inl rfl) kp ⟨_,ob⟩ (Wb ⟨_,tt,ob,by simp[o2],by simp[o2],by rw[zP (by decide)];exact o4⟩)
  rw [gO he] at w
  exact ⟨.non, H1, w, rfl, q⟩
def ny(D:XiD X.K C TE fI)(hN:X.N=([("self":Str),("at":Str)]:Wp Str))(v0:Vis X.env.scope "self")(v1:Vis X.env.scope "at")(hs:swapsWith (.Name "at" p3) (Gc (.Attribute (.Name "self" p1) "at" p2)) p4.line X.env=pure false):PS X (.Assign [.Attribute (.Name "self" p1) "at" p2] (.Name "at" p3) p4) (λD σ H=>∃e n,σ[0]?=Gc (Gc (.ref e))/\σ[1]?=Gc (Gc (.int n))/\H e=Gc (.ext (RO e C))/\∀dx,H dx=none->dx≠e->D.nx σ (upd (upd H e (.ext (Wq e C dx))) dx (.xd [("at",.int n)]))):=by
 intro pins s σ H DD I h
 obtain⟨e,n,e0,e1,he,q⟩:=h
 refine zO (thn (Ig (X:=X) (i:=1) (x:="at") (by rw[hN];rfl) v1 (by decide) (by decide) pins s σ H (λv H1=>v=.int n/\H1=H) I ⟨_,e1,rfl,rfl⟩) λu s1 z=>?_) hs
 obtain⟨v,H1,I1,ru,rfl,rfl⟩:=z
 refine thn (Ig (X:=X) (i:=0) (x:="self") (by rw[hN];rfl) v0 (by decide) (by decide) pins s1 σ H1 (λv H2=>v=.ref e/\H2=H1) I1 ⟨_,e0,rfl,rfl⟩) λov s2 z=>?_
 obtain⟨v,H2,I2,rv,rfl,rfl⟩:=z
 obtain rfl:ov=u6 e:=rv
 obtain⟨ws,t0,o1,o2,o3,o4⟩:=(I2.hok e _ he).1
 obtain⟨nm,qn,N,bs,sn,sub,ab,col,dd,k0,kk1,kk2,k3,k5,lk,ok,_⟩:=D.cls
 have lo:=I2.lo
 refine bZ I2.kIn o1 D.sa (show yO X.K C=Gc _ from by unfold yO;rw[lk]) rfl rfl D.ob D.at_ λh' tk dx le ob ns kp=>?_
 have hn:=I2.hok.fresh le
 have ne:dx≠e:=λz=>by rw[z,he]at hn;cases hn
 have w:=I2.write (x:=e) (e:=e) (o:=.ext (Wq e C dx)) (t':=tk) (by rw[he];trivial) (.inl rfl) kp ⟨_,ob⟩ (dy ⟨_,t0,ob,o2,o3,o4⟩)
 have w2:=w.adopt lo le (o:=.xd [("at",.int n)]) (by rw[AM ne];exact hn) ⟨_,ns,λf=>?_⟩
 .exact⟨σ,_,w2,q dx hn ne⟩
 .by_cases z:f="at"
  .subst z
   simp only[zZ]
   rw[show vm ("at":Str) [(("at":Str),V.int n)]=Gc (.int n)from by simp[vm]]
   exact ru
  .simp only[z,AAK]
   rw[show vm f [(("at":Str),V.int n)]=none from by
    have:(f==("at":Str))=false:=by simpa using z
    simp[vm,this]]
   trivial
end
abbrev sAt:Wp Str:=[("self":Str),("at":Str)]
noncomputable def t1I(C:ug):L2.TE:=λσ H Q=>∃(e:ug) (n:Int),σ[0]?=Gc (Gc (.ref e))/\σ[1]?=Gc (Gc (.int n))/\n.natAbs.log2<1920/\H e=Gc (.ext (RO e C))/\Q .non H
noncomputable def t2I(C:ug):TS:=λD σ H=>∃(e:ug) (n:Int),σ[0]?=Gc (Gc (.ref e))/\σ[1]?=Gc (Gc (.int n))/\H e=Gc (.ext (RO e C))/\∀dx,H dx=none->dx≠e->D.nx σ (upd (upd H e (.ext (Wq e C dx))) dx (.xd [("at",.int n)]))
noncomputable def spI(C:ug):Sp:=λvs H Q _=>∃(e:ug) (n:Int),vs=[.ref e,.int n]/\n.natAbs.log2<1920/\H e=Gc (.ext (RO e C))/\∀dx,H dx=none->dx≠e->Q .non (upd (upd H e (.ext (Wq e C dx))) dx (.xd [("at",.int n)]))
structure XiF(P:vb)(w:wH)(K:W1)(mg:Str->uS uY)(base:vt)(x:Str):Prop where
 ex:∃C TE fI fd,mg x=Gc (.ref C)/\XiD K C TE fI/\K.lookup fI≠none/\(∃oc od sl,K.lookup fI=Gc ⟨oc,od,.func fd,sl⟩/\oc=.type "function")/\Binds K fd sAt []/\Jm P w K mg base CX0 1 fI fd sAt (spI C)
def bL(Fu:Fun K "__init__" qual st fI fd)(S:Aj sAt sAt (AB st))(hb:∀cdv A outer s H E,PSs (IW CX0 P w K mg base sAt qual (AB st) fI cdv A outer s H E).nox (Ar st) (oZ (cS (t1I C)) (t2I C))):Jm P w K mg base CX0 1 fI fd sAt (spI C):=by
 refine Fun.ok Fu S (λvs H Q E h=>?_) λcdv A outer s H vs Q E hr h=>⟨_,hb cdv A outer s H E,?_⟩
 .obtain⟨e,n,rfl,_⟩:=h
  rfl
 .obtain⟨e,n,rfl,hn,he,q⟩:=h
  exact⟨e,n,rfl,rfl,hn,he,e,n,rfl,rfl,he,λdx h1 h2=>q dx h1 h2⟩
def cH(X:K.In h)(G:h.Ns N mN)(e:vG K N x=Gc (Gc v)):mN x=Gc v:=by
 obtain⟨o,es,ep,ho,hd,_,hf⟩:=G
 unfold vG at e
 split at e
 .rename_i q
  have z:=X _ _ q
  rw[ho]at z
  cases z
  cases hd
  split at e
  .rename_i he
   rw[<-hf]
   unfold nsFind findBy
   rw[<-AB1,he]
   cases e
   rfl
  .split at e<;>cases e
 .cases e
section
variable{X:Cx}{pins:Wp (ug×Obj)}{σ:St}{H:Hp}{s:uj}
noncomputable def drp(H:Hp)(e:ug):Hp:=λb=>if b=e then none else H b
def bV(I:Inv X pins σ H s)(he:H e=Gc (.ext φ)):Inv X pins σ (drp H e) s:=by
 have ne:∀b o,H b=Gc o->(∀φ,o≠.ext φ)->drp H e b=Gc o:=λb o q n=>by
  unfold drp
  rw[vC (λz=>by rw[z,he]at q;cases q;exact n _ rfl)]
  exact q
 have no:∀b,H b=none->drp H e b=none:=λb q=>by
  unfold drp
  split
  .rfl
  .exact q
 have B:=I.base
 refine⟨I.ok,I.os,I.bare,⟨B.keep,B.slot,λb o q n hx=>no b (B.free b o q n hx),B.there,λb xs q=>ne _ _ (B.Tz b xs q) (λ_ z=>nomatch z),λb o u q=>ne _ _ (B.Rj b o u q) (λ_ z=>nomatch z),λb ps q=>?_⟩,I.loc,I.cell,no _ I.free,λx c q=>no _ (I.H0 x c q),λp m=>?_,λa o q=>?_,I.len⟩
 .obtain⟨more,z⟩:=B.Tj b ps q
  exact⟨more,ne _ _ z (λ_ z=>nomatch z)⟩
 .obtain⟨p1,p2,p3⟩:=I.pin p m
  exact⟨p1,no _ p2,p3⟩
 .have q':H a=Gc o:=by
   unfold drp at q
   split at q
   .cases q
   .exact q
  exact(I.hok a o q').RL (λ_ _ _ z=>z) (λb z=>ne _ _ z (λ_ w=>nomatch w)) λb xs z=>ne _ _ z (λ_ w=>nomatch w)
def iw{o1 o2:HO}(he:H e=none)(ne:dx≠e):drp (upd (upd (upd H e o1) e o2) dx o) e=upd H dx o:=by
 funext b
 unfold drp upd
 by_cases z:b=e
 .subst z
  rw[vD rfl,vC (vi ne),he]
 .rw[vC z]
  by_cases w:b=dx
  .rw[vD w,vD w]
  .rw[vC w,vC w,vC z,vC z]
def X5{C TE fI:ug}(D:XiD X.K C TE fI)(hf:∃oc od sl,X.K.lookup fI=Gc ⟨oc,od,.func fd,sl⟩/\oc=.type "function")(Bi:Binds X.K fd sAt [])(F:Jm X.prog X.w X.K X.mg X.base CX0 1 fI fd sAt (spI C))(hr:Cg 2 X.A)(hn:n.natAbs.log2<1920)(I:Inv X pins σ H s)(h:∀e dx s',s.heap.get? e=none->H e=none->H dx=none->dx≠e->Wq e C dx s'.heap->Inv X pins σ (upd H dx (.xd [("at",.int n)])) s'->Q (.ref e) s'):wpAny (model X.prog X.w) X.A (call (.ref C) [.int n tn]) Q E s:=by
 obtain⟨nm,qn,N,bs,sn,sub,ab,col,dd,k0,k1,k2,k3,k5,lk,ok,hi⟩:=D.cls
 obtain⟨oc,od,sl,lf,rfl⟩:=hf
 have KI:=I.kIn
 obtain⟨hp,g,d,tk,os⟩:=s
 refine VE yA (AAT KI D.tail) (KI _ _ lk) (.of_isNs (AAS KI ok)) (cH KI (.of_isNs (AAS KI ok)) hi) (KI _ _ lf) rfl (λh1 e t' R=>?_) (by rw[xJ];simp)
 have he:H e=none:=I.hok.fresh R.le
 have I1:Inv X pins σ (upd H e (.ext (RO e C))) ⟨h1,g,d,tk,os⟩:=I.laid (t':=tk) (o:=.ext (RO e C)) R.keeps R.le (Wb ⟨_,t',R.obj,rfl,rfl,rfl⟩)
 have bi:=Bi ⟨h1,g,d,tk,os⟩ [.ref e,.int n tn] I1.kIn rfl
 rw[vv]at bi
 refine xt (yd (F.run (X.A.under (.builtin "type.__call__" ⟨[.ref C,.int n tn],[]⟩)) X.stack ⟨h1,g,d,tk,os⟩ (upd H e (.ext (RO e C))) ⟨[.ref e,.int n tn],[]⟩ [.ref e,.int n tn] [.ref e,.int n] (λv H'=>v=.non/\∃dx,upd H e (.ext (RO e C)) dx=none/\dx≠e/\H'=upd (upd (upd H e (.ext (RO e C))) e (.ext (Wq e C dx))) dx (.xd [("at",.int n)])) (λ_ _ _=>wI)
  (hr.make C _ _) (I1.Zd.make C _ _) bi (.cons rfl (.cons ⟨tn,rfl⟩ .nil)) ⟨e,n,rfl,hn,AX,λdx h1 h2=>⟨rfl,dx,h1,h2,rfl⟩⟩) λr s' hq=>?_)
 cases r with
 |error ev=>exact vY hq
 |ok fl=>
  cases fl with
  |ret u=>
   obtain⟨v,H',I2,rv,rfl,dx,hd,ne,rfl⟩:=I1.after hq
   cases rv
   have hx:H dx=none:=by rw[AM ne]at hd;exact hd
   have e2:upd (upd (upd H e (.ext (RO e C))) e (.ext (Wq e C dx))) dx (.xd [("at",.int n)]) e=Gc (.ext (Wq e C dx)):=by rw[AM (vi ne),AX]
   have eD:=(I2.hok e _ e2).1
   have I3:=bV I2 e2
   rw[iw he ne]at I3
   exact⟨rfl,h e dx s' R.new he hx ne eD I3⟩
  |next=>exact vY hq
  |brk=>exact vY hq
  |cont=>exact vY hq
end
def Ta(hbase:bm.contains (.type "BaseException")=true)(hh:A.handled=none)(h:wpAny M A x (λv s1=>∃e od vs,v=.ref e/\s1.heap.get? C=Gc (excClassObj nm q C N bs bm hdct sn sub ab col dd k0 k1 k2 k3 k5 newId)/\s1.heap.get? e=Gc {cls:=.ref C,dict:=od,data:=.fields vs}/\vs[1]?=Gc .none/\E (.ref e) s1) E s):wpAny M A (raiseStmt env (Gc x) none) Q E s:=by
 have hcB:(u6 C::bm).contains (.type "BaseException")=true:=by rw[xV,hbase,Bool.or_true]
 unfold raiseStmt
 refine uQ (vp h (λv s1 h1=>?_) λ_ _ z=>z)
 obtain⟨e,od,vs,rfl,hC,he,hv,hE⟩:=h1
 obtain⟨hp,g,d,tk,os⟩:=s1
 repeat (first|with_reducible refine yX he ?_|with_reducible refine yX hC ?_|(with_reducible refine ABr hC ?_;rw[hcB])|wp_step)
 rw[hv]
 refine uh ?_
 rw[vC (by decide)]
 exact uh (wpAny_raiseNew_none hh hE)
noncomputable def mF(x:Str)(E:En)(q:D×Sto):uS (Tg×En×Sto):=match q.1 with
 | .int n=>if n.natAbs.log2<1920 then Gc (⟨x,Gc n⟩,E,q.2)else none
 |_=>none
noncomputable def Qf(x:Str)(f:Ev):Rx:=λE S=>(f E S).bind (mF x E)
def WH{np cpos pos:Pos}(hc:X.calm=true)(xi:XiF X.prog X.w X.K X.mg X.base x)(hg:Gl X x)(hr:Cg 2 X.A)(ha:DE X a f)(hxe:zn (X.xe=λ_ _=>wI) ww)(hx:zn (X.ex=[]) ww)(hdb:zn ((x==("__debug__":Str))=false) xz)(he:zn (uf [a] X.env=[(false,eval a X.env)]) ww):RS X (.Raise (Gc (.Call (.Name x np) [a] [] cpos)) none pos) (Qf x f):=⟨by
 intro pins s σ H Z I h
 obtain⟨C,TE,fI,fd,hm,D,_,hf,Bi,F⟩:=xi.ex
 obtain⟨M,E,S,y,E',S',e0,r,st,q⟩:=h
 obtain⟨⟨d,S1⟩,e1,e2⟩:=Ab e0
 have hn:∃n:Int,d=.int n/\n.natAbs.log2<1920/\(y,E',S')=(⟨x,Gc n⟩,E,S1):=by
  unfold mF at e2
  split at e2
  .rename_i n hd
   split at e2
   .rename_i hl
    cases e2
    exact⟨n,hd,hl,rfl⟩
   .cases e2
  .cases e2
 obtain⟨n,rfl,hl,ee⟩:=hn
 cases ee
 obtain⟨nm,qn,N,bs,sn,sub,ab,col,dd,k0,k1,k2,k3,k5,lk,ok,hi⟩:=id D.cls
 rw[arm_exec_Raise]
 refine uQ (xI (Ta (C:=C) (nm:=nm) (q:=qn) (N:=N) (bs:=bs) (bm:=.ref TE::VEm) (hdct:=true) (sn:=sn) (sub:=sub) (ab:=ab) (col:=col) (dd:=dd) (k0:=k0) (k1:=k1) (k2:=k2) (k3:=k3) (k5:=k5) (newId:="ValueError.__new__") (by rw[xV];exact xG.mpr (.inr (by decide+kernel))) (I.ok.hd hc) (uQ (vp (wpAny_Call_ofName (IC I hg hm ?_ hdb)) (λv s3 h3=>uQ (xI (uh h3))) λ_ _ z=>z))))
 unfold callWith
 have KI:=I.kIn
 have aa:DEs X [a] [f]:=AD ha AI he
 have e1':evs [f] E S=Gc ([.int n],S'):=by
  show(f E S).bind (λr=>(evs [] E r.2).map λq=>(r.1::q.1,q.2))=_
  rw[e1];rfl
 have ha':=aa.pe cpos pins s σ H (λvs H1=>∃M1,Gr M H M1 H1/\StR X.K M1 S' H1/\Af X.K M1 H1 vs [.int n]) I (EZ e1' r st λvs H1 M1 g1 st1 r1=>⟨M1,g1,st1,r1⟩)
 rw[he]at ha'⊢
 refine uQ (vx (xk (EF hxe ha' λus s1 ⟨vs,H1,I1,rv,M1,g1,st1,r1⟩=>uQ (xI ?_))))
 cases r1 with
 |cons r1 rn=>
 cases rn
 cases r1
 cases rv with
 |cons rv rw'=>
 cases rw'
 obtain⟨tn,rfl⟩:=rv
 have C1:=I1.kIn _ _ lk
 obtain⟨hp,g,d,tk,os⟩:=s1
 refine uQ (wpAny_keeperOf_exc C1 ?_)
 refine uQ (X5 (E:=_) D hf Bi F hr hl I1 λe dx s' en ef dn ne eD I2=>uQ (vx (wpAny_point (uh ?_))))
 obtain⟨ws,t0,o1,o2,o3,o4⟩:=eD
 refine⟨e,Gc dx,ws,rfl,I2.kIn _ _ lk,o1,o4,e,C,Gc dx,σ,_,rfl,I2,?_,?_,λz=>Ef I1 hx _ z en,_,ws,_,.none,o1,rfl,rfl,o3,o4,.inl rfl,λ_ z=>z⟩
 .exact q C (Gc dx) σ _ M1 ⟨hm,λm z=>⟨dx,rfl,by cases z;exact AX⟩⟩ (g1.trans (Gr.grow st1.mo (CP dn))) ((r.step g1.st).step (Gr.grow st1.mo (CP dn)).st) (st1.grow (CP dn))
 .rw[AM (vi ne)];exact ef⟩
section
variable{prog:vb}{s:uj}
def dI(X:K.In s.heap)(I:zB s.heap x ox C od)(hga:vB K (.ref C) "__getattribute__"=Gc (Gc (.builtin "BaseException.__getattribute__")))(hgg:vB K (.ref C) "__getattr__"=Gc none)(hb:xr K C (.type "BaseException")=Gc true)(hf:PySem.W.findObj K C od name=Gc (.value v))(hh:AAo v=true)(h:Q v {s with toks:=s.toks+1}):wpAny (model prog w) A (getAttr (.ref x) name expr) Q E s:=by
 have L0:=I.type (M:=model prog w)
 have L1:=ze (M:=model prog w) X hga
 have L2:zc (model prog w) s.heap (hookBefore (.ref C)) none:=PySem.W.looks_hook X (by rw[vD (show onTheHeap (u6 C)=true from rfl)];exact hgg)
 have L3:=PySem.W.looks_find (M:=model prog w) X I hf
 have nb:(ABx "BaseException.__getattribute__" ==ABx "object.__getattribute__")=false:=by decide+kernel
 have G:=PySem.F.attr_ValueError.ga
 refine uQ (wpAny_mkText (vx (uQ (L0 _ _ _ _ (λ_ _ e=>e) (uQ (L1 _ _ _ _ (λ_ _ e=>e) ?_))))))
 dsimp only
 rw[nb,AAO,vC (by decide)]
 refine uQ (L2 _ _ _ _ (λ_ _ e=>e) (uQ (ABw (vx ?_))))
 unfold callGetattribute
 rw[show(expr && onTheHeap (ABx "BaseException.__getattribute__"))=false from AAO _,vC (by decide)]
 unfold boundAndCalled
 rw[G.bind]
 refine uQ (uh ?_)
 show wpAny _ _ (call (.builtin "BaseException.__getattribute__") [.ref x,.str name s.toks]) _ _ _
 refine xt (zg G.plain PySem.F.entry_bexc_ga ?_)
 refine @ACC (model prog w) _ _ {s with toks:=s.toks+1} "BaseException.__getattribute__" "BaseException" "__getattribute__" (.ref x) [.str name s.toks] [] _ (by decide+kernel) (by decide+kernel) (L0.andThen (ABs X hb)) (PySem.F.args_bexc_ga (.ref x) (.str name s.toks)) ?_
 unfold zI.«object.__getattribute__»
 refine uQ (uh (uQ (uh (uQ (L0 _ _ _ _ (λ_ _ e=>e) (uQ (L3 _ _ _ _ (λ_ _ e=>e) ?_)))))))
 refine uh ?_
 show wpAny _ _ (handedOut v) _ _ _
 rw[PySem.W.handedOut_of hh]
 exact uh h
end
structure XaD(K:W1)(C:ug):Prop where
 cls:∃cd,yO K C=Gc cd/\cd.hasDict=true
 at_:vB K (.ref C) "at"=Gc none
 ga:vB K (.ref C) "__getattribute__"=Gc (Gc (.builtin "BaseException.__getattribute__"))
 gg:vB K (.ref C) "__getattr__"=Gc none
 bx:xr K C (.type "BaseException")=Gc true
section
variable{X:Cx}{σ:St}{s:uj}
def TL(I:Inv X pins σ H s)(hn:h'.Ns X.env.locals m')(sb:yF X.env.locals s.heap h'):Inv X pins (σ.map λ_=>none) H {s with heap:=h',toks:=t'}:=by
 have kp:∀b o,b≠X.env.locals->s.heap.get? b=Gc o->h'.get? b=Gc o:=λb o n q=>(sb.2 b n).trans q
 have B:=I.base
 have nl:∀b o,X.s₀.heap.get? b=Gc o->b≠X.env.locals:=λb o q=>vF (uV (uk q) I.ok.above)
 have cl:∀c v,c≠X.env.locals->s.heap.IsCell c v->h'.IsCell c v:=λc v n ⟨o,q,d⟩=>⟨o,kp c o n q,d⟩
 refine⟨I.ok,I.os,I.bare,⟨λb o q n hb hx=>kp b o (nl b o q) (B.keep b o q n hb hx),λb o q n hb hx=>?_,B.free,λb o q hx=>?_,B.Tz,B.Rj,B.Tj⟩,⟨m',hn,λi x v _ e2 _=>?_⟩,λx c q=>?_,I.free,I.H0,λp m=>?_,λa o q=>?_,by rw[vO];exact I.len⟩
 .obtain⟨sl,z⟩:=B.slot b o q n hb hx
  exact⟨sl,kp b _ (nl b o q) z⟩
 .obtain⟨o',z⟩:=B.there b o q hx
  exact⟨o',kp b _ (nl b o q) z⟩
 .rw[uo]at e2
  cases z:σ[i]? with
  |none=>rw[z]at e2;cases e2
  |some w=>rw[z]at e2;cases e2
 .obtain⟨v,z⟩:=I.cell x c q
  exact⟨v,cl c v (I.cne x c q) z⟩
 .obtain⟨p1,p2,p3,p4⟩:=I.pin p m
  exact⟨kp _ _ p3 p1,p2,p3,p4⟩
 .refine(I.hok a o q).RL (λb u hb z=>kp b u (λw=>?_) z) (λ_ z=>z) λ_ _ z=>z
  have fr:=I.free
  rcases hb with rfl|hb
  .rw[w,fr]at q;cases q
  .rw[w,fr]at hb;cases hb
def WU(I:Inv X pins σ H s)(hn:H a=none)(h0:X.s₀.heap.get? a=none)(hl:a≠X.env.locals)(hc:∀x c,X.env.cells.lookup x=Gc c->c≠a)(hp:∀p∈X.pn++pins,p.1≠a)(new:CU X.prog X.w (upd H a o) s.heap a o):Inv X pins σ (upd H a o) s:=by
 have ne:∀b u,H b=Gc u->b≠a:=λb u e z=>by rw[z,hn]at e;cases e
 have B:=I.base
 have n0:∀b u,X.s₀.heap.get? b=Gc u->b≠a:=λb u e z=>by rw[z,h0]at e;cases e
 refine⟨I.ok,I.os,I.bare,⟨B.keep,B.slot,λb u q n hx=>?_,B.there,λb xs q=>?_,λb u w q=>?_,λb ps q=>?_⟩,I.loc,I.cell,?_,λx c q=>?_,λp m=>?_,λb u q=>?_,I.len⟩
 .rw[AM (n0 b u q)];exact B.free b u q n hx
 .have z:=B.Tz b xs q
  rw[AM (ne _ _ z)];exact z
 .have z:=B.Rj b u w q
  rw[AM (ne _ _ z)];exact z
 .obtain⟨more,z⟩:=B.Tj b ps q
  exact⟨more,by rw[AM (ne _ _ z)];exact z⟩
 .rw[AM (vi hl)];exact I.free
 .rw[AM (hc x c q)];exact I.H0 x c q
 .obtain⟨p1,p2,p3⟩:=I.pin p m
  exact⟨p1,by rw[AM (hp p m)];exact p2,p3⟩
 .by_cases hb:b=a
  .subst hb;rw[AX]at q;cases q;exact new
  .rw[AM hb]at q
   exact(I.hok b u q).RL (λ_ _ _ z=>z) (λc z=>by rw[AM (ne _ _ z)];exact z) λc xs z=>by rw[AM (ne _ _ z)];exact z
def eX(e C dx:ug)(h:vt):Prop:=∃oe vs,h.get? e=Gc oe/\oe.cls=.ref C/\oe.data=.fields vs/\oe.dict=Gc dx
def bF(x:eX e C dx h):CU P w H h e (.ext (eX e C dx)):=
 ⟨x,let⟨_,_,z,_⟩:=x;⟨_,z⟩,λ_ _ ⟨oe,vs,z,r⟩ k=>⟨oe,vs,k _ z,r⟩⟩
noncomputable def tAt(i:Nat)(C:ug):L2.TE:=λσ H Q=>∃(ea dx:ug) (n:Int),σ[i]?=Gc (Gc (.ref ea))/\H ea=Gc (.ext (eX ea C dx))/\H dx=Gc (.xd [("at",.int n)])/\Q (.int n) H
def pH{p1 p2:Pos}(D:XaD X.K C)(hN:X.N[i]?=Gc x)(hv:Vis X.env.scope x)(hd:zn ((x==("__debug__":Str))=false) xz)(hcd:zn ((x==("__classdict__":Str))=false) xz)(hb:zn (attributeBase (.Name x p1) "at" X.env (eval (.Name x p1) X.env)=eval (.Name x p1) X.env) ww):PE X (.Attribute (.Name x p1) "at" p2) (tAt i C):=by
 intro pins s σ H Q I h
 obtain⟨ea,dx,n,e0,h1,h2,q⟩:=h
 refine Vk hb (thn (Ig hN hv hd hcd pins s σ H (λv H1=>v=.ref ea/\H1=H) I ⟨_,e0,rfl,rfl⟩) λu s1 z=>?_)
 obtain⟨v,H1,I1,rv,rfl,rfl⟩:=z
 obtain rfl:u=u6 ea:=rv
 obtain⟨oe,vs,o1,o2,o3,o4⟩:=(I1.hok ea _ h1).1
 obtain⟨mA,ns,ra⟩:=I1.hok dx _ h2
 obtain⟨od,hod,hl⟩:=QC ns
 have rat:=ra "at"
 rw[show vm ("at":Str) [(("at":Str),V.int n)]=Gc (.int n)from by simp[vm]]at rat
 cases hm:mA "at" with
 |none=>rw[hm]at rat;exact rat.elim
 |some v=>
  rw[hm]at rat
  obtain⟨tk,rfl⟩:=rat
  obtain⟨cd,hc,hdct⟩:=D.cls
  have J:zB s1.heap ea oe C (Gc od):=⟨o1,o2,by unfold PySem.W.notCls;rw[o3],by rw[o4];exact hod⟩
  refine dI I1.kIn J D.ga D.gg D.bx (v:=.int n tk) ?_ rfl ⟨.int n,H1,I1.tok _,⟨_,rfl⟩,q⟩
  exact ABi (by unfold yT;rw[hc];simpa using hdct) D.at_ rfl (by rw[hl,hm])
end
noncomputable def gAs(xs:Wp Str)(y:Str)(f:Int->D)(g:Tg->Ex):Tg->Ex:=λx=>if x.nm∈xs then(if(x.nm==y)=true then(match x.pay with|some n=>AZ (eC (f n))|none=>Cp)else g x)else Cp
structure AtS(X:Cx)(i:Nat)(C:ug)(suite:Wp vI)(f:Int->D):Prop where
 pe:∃ts:TS,PSs X suite ts/\∀(ea dx:ug) (n:Int) (σ:St) (H:Hp) (D:Ends),σ[i]?=Gc (Gc (.ref ea))->H ea=Gc (.ext (eX ea C dx))->H dx=Gc (.xd [("at",.int n)])->(∀v H',(∀M S,StR X.K M S H->Gr M H M H'/\StR X.K M S H'/\BN X.K M H' v (f n))->D.rt v H')->ts D σ H
def nK{X:Cx}{xs:Wp Str}{y nme:Str}{i:Nat}{b₀:vI}{np pos:Pos}{rest:Wp yq}(xm:XmD X.K X.mg xs y)(xa:∀C,X.mg y=Gc (.ref C)->XaD X.K C)(hg:Gl X y)(nd:X.N.Nodup)(hN:X.N[i]?=Gc nme)(hl:X.env.kindOf nme=Gc .local)(hl2:X.env.scope.names.lookup nme=Gc .local)(hp:(X.env.scope.kind== .class||(X.env.scope.kind== .module && X.env.locals !=X.env.globals))=false)(hs:∀e C,XaD X.K C->AtS (Cx.mrk X e) i C (b₀::suite) f)(hr:HS X rest g)(hxe:zn (X.xe=λ_ _=>wI) ww)(hx:zn (X.ex=[]) ww)(hst:zn (X.stack=X.env::X.outer) ww)(hfr:zn (X.env.frame=Gc X.env.locals) ww)(hdb:zn ((y==("__debug__":Str))=false) xz):HS X (.ExceptHandler (Gc (.Name y np)) (Gc nme) (b₀::suite) pos::rest) (gAs xs y f g):=⟨by
 intro x C od pins s σ H D e tg I fl z
 have hm:=tg.1
 obtain⟨C',hm',hex⟩:=xm.ex
 have hin:x.nm∈xs:=by
  by_cases h:x.nm∈xs
  .exact h
  .obtain⟨M,E,S,fl,E',S',e,_⟩:=z
   unfold gAs at e
   rw[vC h]at e
   cases e
 have z':tX X.K (if(x.nm==y)=true then(match x.pay with|some n=>AZ (eC (f n))|none=>Cp)else g x) D σ H:=by
  unfold gAs at z
  rw[vD hin]at z
  exact z
 have ex:=hex x.nm hin C hm
 obtain⟨oe,vs,a0,T,oT,ts,h1,h2,_⟩:=id fl.ex
 have LT:zc (model X.prog X.w) s.heap (typeOf (.ref e)) (.ref C):=by
  rw[<-h2];exact(PySem.W.Looks.ld h1).andThen .now
 refine ABp (ABN (xM I.ok.kind hg (yy (by rw[I.ok.glob];exact I.mod.glob.keeps I.bk) hm' ?_) hdb)) (by intro q;cases q)
 refine PySem.W.exm_one I.kIn LT ex _ _ _ _ (λ_ _ q=>q) ?_
 cases hb:(x.nm==y)with
 |false=>
  rw[vC (by rw[hb];decide)]at z'
  exact hr.pe x C od pins s σ H D e tg I fl z'
 |true=>
  rw[vD hb]at z'
  have hy:X.mg y=Gc (.ref C):=by rw[<-eq_of_beq hb];exact hm
  obtain⟨M,E,S,fw,E',S',ee,rr,st,q⟩:=z'
  cases hpay:x.pay with
  |none=>rw[hpay]at ee;cases ee
  |some n=>
  rw[hpay]at ee
  obtain⟨dx,rfl,hdx⟩:=tg.2 n hpay
  refine codeAny_handlers_suite_as (QA I fl λh' t=>?_)
  have I':=We (e:=e) (QM I hst hfr hx t)
  obtain⟨oe2,vs2,a2,T2,oT2,ts2,g1,g2,g3,_,_,_,g4⟩:=t.fly.ex
  refine MM (X:=Cx.mrk X e) (v:=.ref e) I' nd hN (.inl hl2) rfl (λs2 I2 sb=>?_) (.inr hl2)
  obtain⟨a,sm,ha⟩:=sb
  have fr:H e=none:=fl.free
  have cf:∀c v,s.heap.IsCell c v->c≠e:=λc v ⟨o,q1,q2⟩ w=>by
   subst w
   rw[h1]at q1
   cases q1
   rcases(id fl.ex)with⟨_,ws,_,_,_,_,w1,_,w3,_⟩
   rw[h1]at w1
   cases w1
   rw[w3]at q2
   cases q2
  have nl:e≠X.env.locals:=λw=>by
   obtain⟨m,⟨o',es,ep,q1,q2,_⟩,_⟩:=I'.loc
   rw[<-w,g1]at q1
   cases q1
   rw[g3]at q2
   cases q2
  have ea:e≠a:=by
   rcases ha with ha|ha
   .rw[ha];exact nl
   .obtain⟨v,w⟩:=I.cell nme a ha
    exact vi (cf a v w)
  have g1':s2.heap.get? e=Gc oe2:=(sm.2 e ea).trans g1
  have new:¬ae X pins e:=fl.new
  have s0:X.s₀.heap.get? e=none:=by
   cases w:X.s₀.heap.get? e with
   |none=>rfl
   |some o=>exact absurd (.inl (by rw[w];exact λz=>nomatch z)) new
  have J:=WU I2 (o:=.ext (eX e C dx)) fr s0 nl (λx c w=>by
   obtain⟨v,w'⟩:=I.cell x c w
   exact cf c v w') (λp m w=>new (.inr ⟨p,m,w⟩)) (bF ⟨oe2,vs2,g1',g2,g3,g4 dx rfl⟩)
  obtain⟨tt,hp1,hp2⟩:=(hs e C (xa C hy)).pe
  have hi:i<σ.length:=by rw[I.len];exact(ua.mp hN).1
  have nx:dx≠e:=λw=>by rw[w,fr]at hdx;cases hdx
  refine EF (X:=Cx.mrk X e) hxe (hp1 pins s2 _ _ {nx:=λ_ _=>wI,rt:=D.rt} J (hp2 e dx n _ _ _ (ui hi) AX (by rw[AM nx];exact hdx) λv H' hv=>?_)) λfl3 s3 w=>?_
  .have gr:=Gr.grow st.mo (CP (o:=.ext (eX e C dx)) fr)
   obtain⟨k1,k2,k3⟩:=hv M S (st.grow (CP fr))
   cases ee
   exact q v H' M (gr.trans k1) k2 k3
  .cases fl3 with
   |ret u=>
    obtain⟨v,σ',H',J',rv,q'⟩:=w
    have J2:=Hx I.ok J'
    obtain⟨m,hn,_⟩:=J2.loc
    refine wpAny_nameGoes hl hn hp λh4 m4 hn4 sb4=>?_
    exact⟨v,_,H',TL J2 hn4 sb4,rv,q'⟩
   |next=>obtain⟨_,_,_,q'⟩:=w;exact q'.elim
   |brk=>obtain⟨_,_,_,q'⟩:=w;exact q'.elim
   |cont=>obtain⟨_,_,_,q'⟩:=w;exact q'.elim⟩
def bH{X:Cx}{i k kk:Nat}{x w:Str}{p1 p2 p3 p4 p5:Pos}(D:XaD X.K C)(hN:X.N[i]?=Gc x)(hv:Vis X.env.scope x)(hd:zn ((x==("__debug__":Str))=false) xz)(hcd:zn ((x==("__classdict__":Str))=false) xz)(hb:zn (attributeBase (.Name x p1) "at" X.env (eval (.Name x p1) X.env)=eval (.Name x p1) X.env) ww)(hs:zn (uf [.Constant (.str w) k p4,.Attribute (.Name x p1) "at" p2] X.env=(false,eval (.Constant (.str w) k p4) X.env)::uf [.Attribute (.Name x p1) "at" p2] X.env) ww)(hs2:zn (uf [.Attribute (.Name x p1) "at" p2] X.env=(false,eval (.Attribute (.Name x p1) "at" p2) X.env)::uf [] X.env) ww):AtS X i C [.Return (Gc (.Tuple [.Constant (.str w) k p4,.Attribute (.Name x p1) "at" p2] kk p5)) p3] (λn=>.tup [.str w,.int n]):=
 ⟨_,KQ (Rq (Uh (F6 Nf (F6 (pH D hN hv hd hcd hb) NR hs2) hs))),λea dx n σ H Dn h1 h2 h3 h4=>⟨ea,dx,n,h1,h2,h3,by rw[xJ];simp,λl hl=>h4 _ _ λM S st=>
   have gr:=CP (o:=.tup [.str w,.int n]) hl
   ⟨.grow st.mo gr,st.grow gr,.tup (.of AX) (.cons (.str w) (.cons (.int n) .nil))⟩⟩⟩
noncomputable def j0(s:vI)(k:Nat):vI:=match s with
 | .ClassDef _ _ _ b _ _ _ _ _ _ _=>b.getD k (.Pass ⟨0,0,0,0⟩)
 |_=>.Pass ⟨0,0,0,0⟩
structure XiR(K:W1)(mg:Str->uS uY)(x B qual:Str)(st:vI):Prop where
 ex:∃C TE fI fd,mg x=Gc (.ref C)/\mg B=Gc (.ref TE)/\XiD K C TE fI/\Fun K "__init__" qual st fI fd/\∃oc od sl,K.lookup fI=Gc ⟨oc,od,.func fd,sl⟩/\oc=.type "function"
 xa:∀C,mg x=Gc (.ref C)->XaD K C
def jD(r:XiR K mg x B qual st)(S:Aj sAt sAt (AB st))(bi:∀f fd,Fun K "__init__" qual st f fd->Binds K fd sAt [])(hb:∀C TE fI,XiD K C TE fI->mg B=Gc (.ref TE)->∀cdv A outer s H E,PSs (IW CX0 P w K mg base sAt qual (AB st) fI cdv A outer s H E).nox (Ar st) (oZ (cS (t1I C)) (t2I C))):XiF P w K mg base x:=by
 obtain⟨C,TE,fI,fd,h1,h2,D,F,h3⟩:=r.ex
 exact⟨C,TE,fI,fd,h1,D,(by obtain⟨oc,od,sl,z,_⟩:=h3;rw[z];exact λw=>nomatch w),h3,bi fI fd F,bL F S (hb C TE fI D h2)⟩
def gc {K:W1}{h:vt}{mg:Str->uS uY}{x B qual:Str}{st:vI}{C TE fI N:ug}{nm q:Str}{bs:Wp uY}{sn:Wp Str}{sub:Wp uY}{ab:va}{col:uS va}{dd:uS ug}{k0 k1 k2 k3 k5:uS uY}{oc:uY}{od an:uS ug}{osl:ym (uS uY)}{kV doc pm cdv ct c1:uY}(X:K.In h)(G:h.Ns mainGlobals mg)(a1:vG K mainGlobals x=Gc (Gc (.ref C)))(a2:vG K mainGlobals B=Gc (Gc (.ref TE)))(a3:K.lookup C=Gc (excClassObj nm q C N bs (.ref TE::VEm) true sn sub ab col dd k0 k1 k2 k3 k5 "ValueError.__new__"))(b1:K.lookup N=Gc ⟨c1,d1,.dict es n1,s1⟩)(b2:(es.all λe=>match e.key with | .str _ _=>true | _=>false)=true)(a5:vG K N "__init__" = Gc (Gc (.ref fI)))(a0:yp K TE VEm "ValueError.__new__" = true)(a7:vB K (.ref C) "__setattr__" = Gc (Gc (.builtin "object.__setattr__")))(a8:vB K (.ref C) "at" = Gc none)(a9:zC K (.ref TE) "__getattribute__" = Gc (Gc (.builtin "type.__getattribute__")))(a10:PySem.W.readsIn K TE (.type "type")=true)(a11:PySem.W.findCls K (.ref TE) (.type "type") "__init__" = Gc (.val (.builtin "ValueError.__init__")))(a12:vB K (.ref C) "__getattribute__" = Gc (Gc (.builtin "BaseException.__getattribute__")))(a13:vB K (.ref C) "__getattr__" = Gc none)(l:K.lookup fI=Gc ⟨oc,od,.func (wZ "__init__" qual (F7 st) (Ar st) (AB st) .none kV doc pm an cdv ct),osl⟩)(lc:oc = .type "function")(c:x5 K cdv qual=true)(k:vn K (.ref fI)=true):XiR K mg x B qual st:=by
  have cd:yO K C=Gc { name:=nm,bases:=bs,mro:=.ref C :: .ref TE::VEm,ns:=N,qualname:=q,hasDict:=true,slotNames:=sn,subclasses:=sub,abstract:=ab,collection:=col,hasDel:=false }:=by unfold yO;rw[a3]
  have mr:∀{t:uY},(u6 C :: .ref TE::VEm).contains t=true->xr K C t=Gc true:=λ{t} z=>by
    unfold xr
    rw [cd]
    exact congrArg Gc z
  have mb:(u6 C :: .ref TE::VEm).contains (.type "object")=true:=by rw[xV,xV];exact xG.mpr (.inr (xG.mpr (.inr (by decide +kernel))))
  have mx:(u6 C :: .ref TE::VEm).contains (.type "BaseException")=true:=by rw[xV,xV];exact xG.mpr (.inr (xG.mpr (.inr (by decide +kernel))))
  have hm:=wR X G a1
  have a4:ABc K N=true:=by unfold ABc;rw[b1];exact b2
  have a6:ABd K VEm (.ref TE::VEm)=true:=by
    unfold yp at a0
    split at a0
    case h_2 => cases a0
    rename_i dT cT sT ho
    split at a0
    case h_2 => cases a0
    simp only [uc, wJ, xo] at a0
    obtain⟨⟨⟨_,_⟩,hok⟩,hni⟩:=a0
    unfold ABd
    rw [xG]
    refine .inr ?_
    dsimp only
    rw [ho]
    dsimp only
    rw [hok, hni]
    rfl
  exact ⟨⟨C, TE, fI, _, hm, wR X G a2, ⟨⟨nm, q, N, bs, sn, sub, ab, col, dd, k0, k1, k2, k3, k5, a3, a4, a5⟩, a6, a7, mr mb, a8, a9, a10, a11⟩, ⟨⟨oc, od, kV, doc, pm, an, cdv, ct, osl, rfl, l, c⟩, k⟩, oc, od, osl, l, lc⟩,
    fun C' z => by
      rw [hm] at z
      cases z
      exact ⟨⟨_, cd, rfl⟩, a8, a12, a13, mr mx⟩⟩
def uC(h:DEs X a b):DEs X a b:=h
def gDE(h:DE X a b):DE X a b:=h
def uM(h:DSs X a b):DSs X a b:=h
def gDS(h:DS X a b):DS X a b:=h
def gDT(h:DT X a b):DT X a b:=h
def gDG(h:DG X a b):DG X a b:=h
def uH(h:OpR X a b):OpR X a b:=h
def qQ(h:Eg X a b):Eg X a b:=h
def dfW k(S:St.Src K mg x st)(sc:Aj N ps (AB st))(hb:∀{f} {cdv} {A} {outer} {s} {H} {E},N.Nodup->Cg k (A.deeper (u5 x (AB st) s.heap.objs.size f cdv))->(A.deeper (u5 x (AB st) s.heap.objs.size f cdv)).units+100<cLine->DSs (IW CX0 P w K mg base N x (AB st) f cdv A outer s H E).nox (Ar st) b)(hp:zn (ps.length=np) ww)(hbi:zn (BnR x st ps) wP):St.Dfn P w K mg base x (k+1) ps (spD K np (AS (AV N.length b))):=dfM k S sc (λhr hu=>hb sc.nd hr hu) hp hbi
def so k(S:St.Src K mg x st)(sc:Aj N ps (AB st))(hb:∀{f} {cdv} {A} {outer} {s} {H} {E},N.Nodup->Cg k (A.deeper (u5 x (AB st) s.heap.objs.size f cdv))->(A.deeper (u5 x (AB st) s.heap.objs.size f cdv)).units+100<cLine->RSs (IW CX0 P w K mg base N x (AB st) f cdv A outer s H E).nox (Ar st) r)(hp:zn (ps.length=np) ww)(hbi:zn (BnR x st ps) wP):jN P w K mg base x (k+1) ps (spR K mg np (AS (OJ N.length r))):=Us S sc hp (λ_ _ F=>bnR F hbi) λf cdv A outer s H E hr=>hb sc.nd hr (Hf hr)
noncomputable def Lf(f:Str)(d:D):Wp (Str×D)->Wp (Str×D)
 | []=>[(f,d)]
 |(g,x)::r=>if g=f then(g,d)::r else(g,x)::Lf f d r
structure FsR(K:W1)(M:Ms)(H:Hp)(fv:Wp (Str×V))(fs:Wp (Str×D)):Prop where
 nm:fv.map (·.1)=fs.map (·.1)
 rel:Af K M H (fv.map (·.2)) (fs.map (·.2))
def FsR.ind{P:Wp (Str×V)->Wp (Str×D)->Prop}(n:P [] [])(c:∀{f} {v} {d} {fv} {fs},BN K M H v d->FsR K M H fv fs->P fv fs->P ((f,v)::fv) ((f,d)::fs)):∀{fs} {fv},FsR K M H fv fs->P fv fs:=λ{fs}=>by
 induction fs with
 |nil=>
  intro fv h
  cases fv with
  |nil=>exact n
  |cons a r=>exact absurd h.nm (by simp)
 |cons b fs ih=>
  intro fv h
  cases fv with
  |nil=>exact absurd h.nm (by simp)
  |cons a fv=>
   obtain⟨f,v⟩:=a
   obtain⟨g,d⟩:=b
   have h1:=h.nm
   rw[ux,ux,List.cons.injEq]at h1
   obtain⟨e,h1⟩:=h1
   have e:f=g:=e
   subst e
   have h2:=h.rel
   rw[ux,ux]at h2
   cases h2 with
   |cons r t=>exact c r ⟨h1,t⟩ (ih ⟨h1,t⟩)
def FsR.cons(r:BN K M H v d)(h:FsR K M H fv fs):FsR K M H ((f,v)::fv) ((f,d)::fs):=⟨by rw[ux,ux,h.nm],.cons r h.rel⟩
def FsR.get(h:FsR K M H fv fs):(∀d,fs.lookup f=Gc d->∃v,fv.lookup f=Gc v/\BN K M H v d)/\(fs.lookup f=none->fv.lookup f=none):=
 FsR.ind (P:=λfv fs=>(∀d,fs.lookup f=Gc d->∃v,fv.lookup f=Gc v/\BN K M H v d)/\(fs.lookup f=none->fv.lookup f=none)) ⟨λ_ e=>(nomatch e),λ_=>rfl⟩ (λ{g v d fv fs} r _ ih=>by
  rw[vU,vU]
  cases q:f==g with
  |true=>exact⟨λy e=>by cases e;exact⟨v,rfl,r⟩,λe=>(nomatch e)⟩
  |false=>exact ih) h
def FsR.put(r:BN K M H v d)(h:FsR K M H fv fs):FsR K M H (Nq f v fv) (Lf f d fs):=
 FsR.ind (P:=λfv fs=>FsR K M H (Nq f v fv) (Lf f d fs)) (.cons r ⟨rfl,.nil⟩) (λ{g v' d' fv fs} r' h' ih=>by
  rw[show Nq f v ((g,v')::fv)=(if g=f then(g,v)::fv else(g,v')::Nq f v fv)from rfl,show Lf f d ((g,d')::fs)=(if g=f then(g,d)::fs else(g,d')::Lf f d fs)from rfl]
  by_cases q:g=f
  .rw[vD q,vD q];exact .cons r h'
  .rw[vC q,vC q];exact .cons r' ih) h
def StR.sf(r:StR K M S H)(h1:M.cel[n]?=Gc a)(h2:S[n]?=Gc (.ins C fs))(hN:vG K mainGlobals C=Gc (Gc (.ref Ca)))(ea:H a=Gc (.ins Ca dx fv))(eo:H dx=Gc (.own a))(hy:FsR K M H fv' fs'):StR K M (S.set n (.ins C fs')) (upd H a (.ins Ca dx fv'))/\Gr M H M (upd H a (.ins Ca dx fv')):=by
 have ha:a∈M.cel:=uw h1
 have hl:n<S.length:=(ua.mp h2).1
 have g:Gr M H M (upd H a (.ins Ca dx fv')):=⟨r.mo,vk,rfl,λ_ z=>.inl z,λb o eb nb=>by rw[AM (λz=>nb (by rw[z];exact ha))];exact eb,λb eb=>by
  by_cases h:b=a
  .subst h;rw[AX];intro z;cases z
  .rw[AM h];exact eb⟩
 refine⟨⟨λb z=>?_,r.nd,r.nt,by rw[wV];exact r.len,λm b c e1 e2=>?_⟩,g⟩
 .by_cases h:b=a
  .subst h;exact⟨_,AX,trivial⟩
  .rw[AM h];exact r.mo b z
 .by_cases h:n=m
  .subst h
   rw[h1]at e1;cases e1
   rw[ui hl]at e2;cases e2
   exact⟨Ca,dx,fv',hN,AX,g.st.VG eo id,hy.nm,hy.rel.step g.st⟩
  .rw[uW h]at e2
   have hb:b≠a:=λz=>by
    subst z
    exact h ((yV (ua.mp h1).1 r.nd).mp (h1.trans e1.symm))
   exact(r.cell m b c e1 e2).step g.st λo e=>by rw[AM hb];exact e
def StR.rV(r:StR K M S H)(e:H a=none)(k:∀b o,H b=Gc o->H' b=Gc o)(ea:H' a=Gc o)(mb:Mob o)(hc:∀M',Sp1 M H M' H'->QZ K M' H' a cl):StR K ⟨M.cel++[a],M.tmp⟩ (S++[cl]) H'/\Gr M H ⟨M.cel++[a],M.tmp⟩ H':=by
 have g:Gr M H ⟨M.cel++[a],M.tmp⟩ H':=⟨r.mo,xT _ _,rfl,λb z=>by
  rcases vE.mp z with z|z
  .exact .inl z
  .simp at z;subst z;exact .inr e,λb o eb _=>k b o eb,λb eb z=>by
  cases h:H b with
  |none=>exact eb h
  |some o=>rw[k b o h]at z;cases z⟩
 have na:¬M.mem a:=λz=>r.mo.some z e
 refine⟨⟨λb z=>?_,?_,λb hb z=>?_,by simp[r.len],λm b c e1 e2=>?_⟩,g⟩
 .have z':M.mem b\/b=a:=by
   rcases z with z|z
   .rcases vE.mp z with z|z
    .exact .inl (.inl z)
    .simp at z;exact .inr z
   .exact .inl (.inr z)
  rcases z' with z|z
  .exact r.mo.at k z
  .subst z;exact⟨_,ea,mb⟩
 .rw[yW]
  refine⟨r.nd,by simp,λx hx y hy=>?_⟩
  simp at hy;subst hy
  exact λz=>na (.inl (by rw[<-z];exact hx))
 .rcases vE.mp z with z|z
  .exact r.nt b hb z
  .simp at z;subst z;exact na (.inr hb)
 .by_cases h:m<S.length
  .rw[uU (by rw[r.len];exact h)]at e1
   rw[uU h]at e2
   exact(r.cell m b c e1 e2).step g.st λo e=>k _ _ e
  .have hm:m=S.length:=by
    have:=(ua.mp e2).1
    simp at this;lia
   subst hm
   rw[vJ (by rw[r.len];exact ue _)]at e1
   rw[vJ (ue _)]at e2
   rw[r.len]at e1
   simp at e1 e2
   subst e1 e2
   exact hc _ g.st
structure ClD(K:W1)(C:Str)(fs:Wp Str):Prop where
 ex:∃Ca,vG K mainGlobals C=Gc (Gc (.ref Ca))/\Cls K Ca/\∀f∈fs,Hw K Ca f
noncomputable def KH(S:Sto)(C:Str):D->uS (Wp (Str×D))
 | .ref n=>match S[n]? with
   |some (.ins C' fs)=>if C'=C then Gc fs else none
   |_=>none
 |_=>none
def Kn(e:KH S C d=Gc fs):∃n,d=.ref n/\S[n]?=Gc (.ins C fs):=by
 unfold KH at e
 split at e
 .rename_i n
  split at e
  .rename_i C' fs' h
   split at e
   .rename_i z;cases e;subst z;exact⟨n,rfl,h⟩
   .cases e
  .cases e
 .cases e
def R0(e:S[n]?=Gc (.ins C fs)):KH S C (.ref n)=Gc fs:=by
 unfold KH
 simp[e]
noncomputable def Og(C f:Str)(o:Ev):Ev:=λE S=>(o E S).bind λr=>(KH r.2 C r.1).bind λfs=>(fs.lookup f).map λd=>(d,r.2)
noncomputable def YE(C f:Str)(o v:Ev):Ex:=λE S=>(v E S).bind λr=>(o E r.2).bind λq=>(KH q.2 C q.1).bind λfs=>match q.1 with
 | .ref n=>if fs.length<1000 then Gc (.nx,E,q.2.set n (.ins C (Lf f r.1 fs)))else none
 |_=>none
def MR(c:ClD X.K C fs)(hf:f∈fs)(ho:DE X o fo)(hb:zn (attributeBase o f X.env (eval o X.env)=eval o X.env) ww):DE X (.Attribute o f pos) (Og C f fo):=⟨Ax (iY ho.pe hb) λσ H Q z=>by
 obtain⟨M,E,S,d,S',e,r,st,q⟩:=z
 obtain⟨⟨d0,S1⟩,e1,e⟩:=Ab e
 obtain⟨fs0,e2,e⟩:=Ab e
 obtain⟨d1,e3,e⟩:=IV e
 cases e
 obtain⟨n,rfl,hn⟩:=Kn e2
 obtain⟨Ca,hC,cl,na⟩:=c.ex
 refine⟨M,E,S,_,S1,e1,r,st,λu H1 M1 g1 st1 r1=>?_⟩
 cases r1 with
 |ref h=>
  rename_i a
  obtain⟨Ca',dx,fv0,h1,h2,h3,h4,h5⟩:=st1.cell n a _ h hn
  cases hC.symm.trans h1
  obtain⟨u,hu,ru⟩:=((FsR.mk h4 h5).get (f:=f)).1 _ e3
  exact⟨a,Ca,dx,fv0,u,rfl,h2,cl,na f hf,hu,q _ _ M1 g1 st1 ru⟩⟩
def Vo(c:ClD X.K C fs)(hf:f∈fs)(ho:DE X o fo)(hv:DE X v fv)(hs:zn (swapsWith v (Gc (.Attribute o f pos')) pos.line X.env=pure false) ww):DS X (.Assign [.Attribute o f pos'] v pos) (YE C f fo fv):=⟨FY (kR ho.pe hv.pe hs) λDn σ H z=>by
 obtain⟨M,E,S,fl,E',S',e,r,st,q⟩:=z
 obtain⟨⟨d0,S1⟩,e1,e⟩:=Ab e
 obtain⟨⟨d1,S2⟩,e2,e⟩:=Ab e
 obtain⟨fs0,e3,e⟩:=Ab e
 obtain⟨n,rfl,hn⟩:=Kn e3
 dsimp only at e hn
 split at e
 case isFalse=>cases e
 rename_i hl
 cases e
 obtain⟨Ca,hC,cl,na⟩:=c.ex
 refine⟨M,E,S,_,S1,e1,r,st,λu H1 M1 g1 st1 r1=>?_⟩
 refine⟨M1,E,S1,_,S2,e2,r.step g1.st,st1,λw H2 M2 g2 st2 r2=>?_⟩
 cases r2 with
 |ref h=>
  rename_i a
  obtain⟨Ca',dx,fv0,h1,h2,h3,h4,h5⟩:=st2.cell n a _ h hn
  cases hC.symm.trans h1
  have F:=FsR.mk h4 h5
  obtain⟨st3,g3⟩:=st2.sf h hn hC h2 h3 (F.put (f:=f) (r1.step g2.st))
  refine⟨a,Ca,dx,fv0,rfl,h2,cl,na f hf,?_,q σ _ M2 ((g1.trans g2).trans g3) (((r.step g1.st).step g2.st).step g3.st) st3⟩
  have:=congrArg yZ h4
  rw[vO,vO]at this
  lia⟩
section
variable{w:wH}{K:W1}{mg:Str->uS uY}{base:vt}
structure MeS(K:W1)(C m q:Str)(st:vI):Prop where
 ex:∃Ca f fd,vG K mainGlobals C=Gc (Gc (.ref Ca))/\Cls K Ca/\Meth K Ca m f/\Fun K m q st f fd
structure MeD(P:vb)(w:wH)(K:W1)(mg:Str->uS uY)(base:vt)(CX:CXT)(C m:Str)(k:Nat)(ps:Wp Str)(sp:Sp):Prop where
 ex:∃Ca f fd,vG K mainGlobals C=Gc (Gc (.ref Ca))/\Cls K Ca/\Meth K Ca m f/\Binds K fd ps []/\Jm P w K mg base CX k f fd ps sp
structure MkS(K:W1)(mg:Str->uS uY)(C q:Str)(st:vI):Prop where
 ex:∃Ca f fd,mg C=Gc (.ref Ca)/\vG K mainGlobals C=Gc (Gc (.ref Ca))/\Mk K Ca f/\Fun K "__init__" q st f fd
structure MkD(P:vb)(w:wH)(K:W1)(mg:Str->uS uY)(base:vt)(CX:CXT)(C:Str)(k:Nat)(ps:Wp Str)(sp:Sp):Prop where
 ex:∃Ca f fd,mg C=Gc (.ref Ca)/\vG K mainGlobals C=Gc (Gc (.ref Ca))/\Mk K Ca f/\Binds K fd ps []/\Jm P w K mg base CX k f fd ps sp
def ZP(Fu:Fun K x y st f fd)(S:Aj N ps (AB st))(hp:ps.length=np)(hb:∀cdv A outer s H E,Cg k (A.deeper (u5 y (AB st) s.heap.objs.size f cdv))->DSs (IW CX0 P w K mg base N y (AB st) f cdv A outer s H E).nox (Ar st) b):Jm P w K mg base CX0 (k+1) f fd ps (spD K np (AS (AV N.length b))):=by
 rw[JQ]
 refine Fu.ok S (λvs H Q E h=>?_) (λcdv A outer s H vs Q E hr h=>?_)
 .obtain⟨M,ds,S0,d,S',hl,_,r,_⟩:=h
  have:=r.length
  lia
 .obtain⟨M,ds,S0,d,S',hl,e,r,st,q⟩:=h
  have hlen:=r.length
  refine⟨_,(hb cdv A outer s H E hr).pe,?_⟩
  obtain⟨⟨fl,E',S1⟩,e1,e⟩:=IV e
  cases e
  refine⟨M,_,S0,fl,E',S1,e1,?_,st,?_⟩
  .rw[show L2.start N vs=vs.map Gc++uq (N.length-ds.length) none from by unfold L2.start;rw[hlen]]
   exact .args r _
  .cases fl with
   |nx=>exact λσ' H' M' g _ st'=>q _ _ M' g st' .non
   |ret d=>exact λv H' M' g st' r'=>q _ _ M' g st' r'
def cE(Fu:Fun K x y st f fd)(S:Aj N ps (AB st))(hp:ps.length=np)(hb:∀cdv A outer s H E,Cg k (A.deeper (u5 y (AB st) s.heap.objs.size f cdv))->RSs (IW CX0 P w K mg base N y (AB st) f cdv A outer s H E).nox (Ar st) r):Jm P w K mg base (CXr P w) (k+1) f fd ps (spR K mg np (AS (OJ N.length r))):=by
 rw[JQ]
 obtain⟨oc,od,kV,doc,pm,an,cdv,ct,osl,rfl,lk,hcd⟩:=Fu.ex
 refine Xy lk hcd S (λvs H Q E h=>?_) λA outer s H vs Q E hr h=>?_
 .obtain⟨M,ds,S0,d,S',hl,_,r,_⟩:=h
  have:=r.length
  lia
 .obtain⟨M,ds,S0,y',S',hl,e,rr,st,q⟩:=h
  have hlen:=rr.length
  refine⟨λ_ σ H=>tR K mg r σ H λC od _ H'=>E (.ref C) od H',λpins s1 σ1 H1 D I h=>?_,?_⟩
  .exact vp ((hb cdv A outer s H E hr).pe pins s1 σ1 H1 _ (I.TM _) h) (λ_ _ z=>z.elim) λev s' z=>RJ z λ_ _ _ _ z=>z
  .obtain⟨⟨y',E',S1⟩,e1,e⟩:=IV e
   cases e
   refine⟨M,_,S0,y',E',S1,e1,?_,st,λC od σ' H' M' hm g _ st'=>q C od H' M' hm g st'⟩
   rw[show L2.start N vs=vs.map Gc++uq (N.length-ds.length) none from by unfold L2.start;rw[hlen]]
   exact .args rr _
def BnQ(x y:Str)(st:vI)(ps:Wp Str):Prop:=∀(kV doc pm:uY) (an:uS ug) (cdv ct:uY) (f:Nat->uY),bindArgs (wZ x y (F7 st) (Ar st) (AB st) .none kV doc pm an cdv ct) ⟨(u7 ps.length).map f,[]⟩=pure (ps.zip ((u7 ps.length).map f))
def bnQ(F:Fun K x y st f fd)(h:BnQ x y st ps):Binds K fd ps []:=F.binds λa b c d e g us hl=>by
 obtain⟨k,rfl⟩:=qp hl
 exact h a b c d e g k
def XR k(S:MeS K C m q st)(sc:Aj N ps (AB st))(hb:∀{f} {cdv} {A} {outer} {s} {H} {E},N.Nodup->Cg k (A.deeper (u5 q (AB st) s.heap.objs.size f cdv))->(A.deeper (u5 q (AB st) s.heap.objs.size f cdv)).units+100<cLine->DSs (IW CX0 P w K mg base N q (AB st) f cdv A outer s H E).nox (Ar st) b)(hp:zn (ps.length=np) ww)(hbi:zn (BnQ m q st ps) wP):MeD P w K mg base CX0 C m (k+1) ps (spD K np (AS (AV N.length b))):=by
 obtain⟨Ca,f,fd,h1,h2,h3,Fu⟩:=S.ex
 exact⟨Ca,f,fd,h1,h2,h3,bnQ Fu hbi,ZP Fu sc hp λcdv A outer s H E hr=>hb sc.nd hr (Hf hr)⟩
def iA k(S:MeS K C m q st)(sc:Aj N ps (AB st))(hb:∀{f} {cdv} {A} {outer} {s} {H} {E},N.Nodup->Cg k (A.deeper (u5 q (AB st) s.heap.objs.size f cdv))->(A.deeper (u5 q (AB st) s.heap.objs.size f cdv)).units+100<cLine->RSs (IW CX0 P w K mg base N q (AB st) f cdv A outer s H E).nox (Ar st) r)(hp:zn (ps.length=np) ww)(hbi:zn (BnQ m q st ps) wP):MeD P w K mg base (CXr P w) C m (k+1) ps (spR K mg np (AS (OJ N.length r))):=by
 obtain⟨Ca,f,fd,h1,h2,h3,Fu⟩:=S.ex
 exact⟨Ca,f,fd,h1,h2,h3,bnQ Fu hbi,cE Fu sc hp λcdv A outer s H E hr=>hb sc.nd hr (Hf hr)⟩
end
noncomputable def HQ(C m:Str)(F:Fn)(o:Ev)(fs:Wp Ev):Ev:=λE S=>(o E S).bind λr=>(KH r.2 C r.1).bind λas=>if(as.lookup m).isNone=true then(evs fs E r.2).bind λq=>F (r.1::q.1) q.2 else none
noncomputable def Sq(C m:Str)(R:Rf)(o:Ev)(fs:Wp Ev):Rx:=λE S=>(o E S).bind λr=>(KH r.2 C r.1).bind λas=>if(as.lookup m).isNone=true then(evs fs E r.2).bind λq=>(R (r.1::q.1) q.2).map λz=>(z.1,E,z.2)else none
section
variable{X:Cx}{k np:Nat}{C m:Str}{ps:Wp Str}{F:Fn}{R:Rf}{o e:vj}{es:Wp vj}{fo:Ev}{fs:Wp Ev}{p pos apos:Pos}{pl:Sem va}
def QN(st:StR K M S H)(r:BN K M H v d)(hC:vG K mainGlobals C=Gc (Gc (.ref Ca)))(e:KH S C d=Gc as)(hn:(as.lookup m).isNone=true):∃a dx fv,v=.ref a/\H a=Gc (.ins Ca dx fv)/\fv.lookup m=none:=by
 obtain⟨n,rfl,hn'⟩:=Kn e
 cases r with
 |ref h=>
  rename_i a
  obtain⟨Ca',dx,fv0,h1,h2,h3,h4,h5⟩:=st.cell n a _ h hn'
  cases hC.symm.trans h1
  exact⟨a,dx,fv0,rfl,h2,((FsR.mk h4 h5).get (f:=m)).2 (Option.isNone_iff_eq_none.mp hn)⟩
def bD (d:MeD X.prog X.w X.K X.mg X.base CX0 C m k ps (spD X.K np F))(hr:Cg k X.A)(ho:DE X o fo)(ha:DEs X (e::es) fs)(hn:zn (fs.length + 1=np) ww)(hst:zn (uf (e::es) X.env=(false,eval e X.env)::uf es X.env) ww)(hpl:zn ((backTo pos (uf es X.env)).any (·.1)=false) ww)(ht:zn (eval (.Call (.Attribute o m apos) (e::es) [] pos) X.env=(do
      let ov ← eval o X.env
      standAt apos.atName
      let (f, first) ← holding [ov] (getMethod ov m pl)
      callWith pos f first (backTo pos (uf (e :: es) X.env)) (backToKw pos (keywordEach [] X.env)))) ww) :
    DE X (.Call (.Attribute o m apos) (e::es) [] pos) (HQ C m F fo fs):=⟨by
  obtain⟨Ca,f,fd,hC,cl,hm,hb,Fk⟩:=d.ex
  refine Ax (aK (pl:=pl) ho.pe cl hm Fk hr hb .nil VJ ha.pe hst hpl ht) λσ H Q z=>?_
  obtain⟨M,E,S,d0,S',e0,r,st,q⟩:=z
  obtain⟨⟨d1,S1⟩,e1,e0⟩:=Ab e0
  obtain⟨as,e2,e0⟩:=Ab e0
  split at e0
  case isFalse => cases e0
  rename_i hno
  obtain⟨⟨ds,S2⟩,e3,e4⟩:=Ab e0
  refine ⟨M, E, S, d1, S1, e1, r, st, fun u H1 M1 g1 st1 r1 => ?_⟩
  obtain⟨a,dx,fv,rfl,h2,h3⟩:=QN st1 r1 hC e2 hno
  refine ⟨a, dx, fv, rfl, h2, h3, EZ e3 (r.step g1.st) st1 fun vs H2 M2 g2 st2 r2 => ?_⟩
  rw [vv]
  exact ⟨M2, d1 :: ds, S2, d0, S', by rw [vH, Ht e3]; exact hn, e4, .cons (r1.step g2.st) r2, st2, fun v H' M' g st' r' => q _ _ M' ((g1.trans g2).trans g) st' r'⟩⟩
def Xx (d:MeD X.prog X.w X.K X.mg X.base CX0 C m k ps (spD X.K np F))(hr:Cg k X.A)(ho:DE X o fo)(hn:zn (1=np) ww)(ht:zn (eval (.Call (.Attribute o m apos) [] [] pos) X.env=(do
      let ov ← eval o X.env
      standAt apos.atName
      let (f, first) ← holding [ov] (getMethod ov m pl)
      callWith pos f first (backTo pos (uf [] X.env)) (backToKw pos (keywordEach [] X.env)))) ww) :
    DE X (.Call (.Attribute o m apos) [] [] pos) (HQ C m F fo []):=⟨by
  obtain⟨Ca,f,fd,hC,cl,hm,hb,Fk⟩:=d.ex
  refine Ax (Yd (pl:=pl) ho.pe cl hm Fk hr hb .nil VJ ht) λσ H Q z=>?_
  obtain⟨M,E,S,d0,S',e0,r,st,q⟩:=z
  obtain⟨⟨d1,S1⟩,e1,e0⟩:=Ab e0
  obtain⟨as,e2,e0⟩:=Ab e0
  split at e0
  case isFalse => cases e0
  rename_i hno
  refine ⟨M, E, S, d1, S1, e1, r, st, fun u H1 M1 g1 st1 r1 => ?_⟩
  obtain⟨a,dx,fv,rfl,h2,h3⟩:=QN st1 r1 hC e2 hno
  exact ⟨a, dx, fv, rfl, h2, h3, M1, [d1], S1, d0, S', hn, e0, .cons r1 .nil, st1, fun v H' M' g st' r' => q _ _ M' (g1.trans g) st' r'⟩⟩
def cu (d:MeD X.prog X.w X.K X.mg X.base (CXr X.prog X.w) C m k ps (spR X.K X.mg np R))(hr:Cg k X.A)(ho:DE X o fo)(ha:DEs X (e::es) fs)(hn:zn (fs.length + 1=np) ww)(hxe:zn (X.xe=λ_ _=>wI) ww)(hx:zn (X.ex=[]) ww)(hst:zn (uf (e::es) X.env=(false,eval e X.env)::uf es X.env) ww)(hpl:zn ((backTo pos (uf es X.env)).any (·.1)=false) ww)(ht:zn (eval (.Call (.Attribute o m apos) (e::es) [] pos) X.env=(do
      let ov ← eval o X.env
      standAt apos.atName
      let (f, first) ← holding [ov] (getMethod ov m pl)
      callWith pos f first (backTo pos (uf (e :: es) X.env)) (backToKw pos (keywordEach [] X.env)))) ww) :
    RE X (.Call (.Attribute o m apos) (e::es) [] pos) (Sq C m R fo fs):=⟨by
  intro pins s σ H Z I h
  obtain⟨Ca,f,fd,hC,cl,hm,hb,Fk⟩:=d.ex
  obtain⟨M,E,S,y,E',S',e0,r,st,q⟩:=h
  obtain⟨⟨d1,S1⟩,e1,e0⟩:=Ab e0
  obtain⟨as,e2,e0⟩:=Ab e0
  split at e0
  case isFalse => cases e0
  rename_i hno
  obtain⟨⟨ds,S2⟩,e3,e4⟩:=Ab e0
  obtain⟨⟨y',S3⟩,e5,e6⟩:=IV e4
  cases e6
  refine yP (pl:=pl) (EF hxe (ho.pe pins s σ H (λv H1=>∃M1,Gr M H M1 H1/\StR X.K M1 S1 H1/\BN X.K M1 H1 v d1) I ⟨M,E,S,d1,S1,e1,r,st,λv H1 M1 g1 st1 r1=>⟨M1,g1,st1,r1⟩⟩) λu s1 z=>?_) ht
  obtain⟨v,H1,I1,rv,M1,g1,st1,r1⟩:=z
  obtain⟨a,dx,fv,rfl,h2,h3⟩:=QN st1 r1 hC e2 hno
  obtain rfl:u=u6 a:=rv
  refine J8 I1 h2 cl hm h3 ?_
  have ha':=ha.pe pos pins s1 σ H1 (λvs H2=>∃M2,Gr M1 H1 M2 H2/\StR X.K M2 S2 H2/\Af X.K M2 H2 vs ds) I1 (EZ e3 (r.step g1.st) st1 λvs H2 M2 g2 st2 r2=>⟨M2,g2,st2,r2⟩)
  refine wk (first:=[.ref a]) (h₀:=X.base) I.ok.mod.kin hm.kp (EF hxe ha' λus s2 ⟨vs,H2,I2,rv,M2,g2,st2,r2⟩=>⟨I2.kIn,?_⟩) hst hpl
  have sp:spR X.K X.mg np R (.ref a::vs) H2 (λ_ _=>wI) (λv od H'=>∃C,v = .ref C/\Z C od σ H') :=
    ⟨M2, d1 :: ds, S2, y', S3, by rw [vH, Ht e3]; exact hn, e5, .cons (r1.step g2.st) r2, st2, fun C od H' M' hc g3 st3 => ⟨C, rfl, q C od σ H' M' hc ((g1.trans g2).trans g3) (((r.step g1.st).step g2.st).step g3.st) st3⟩⟩
  have rv2:Vals (V.ref a::vs) (u6 a::us):=.cons rfl rv
  have hl:(u6 a::us++[]).length=ps.length:=by rw[vv,← rv2.length];exact Fk.len _ _ _ _ sp
  have hbs:=hb s2 (.ref a::us) I2.kIn hl
  rw [vv] at hbs
  refine xt (yd (Fk.run X.A X.stack s2 H2 ⟨.ref a :: us, []⟩ (.ref a :: us) (.ref a :: vs) _ _ hr I2.Zd hbs rv2 sp) fun rs s' hq => ?_)
  cases rs with
  | error ev =>
    obtain⟨e,C,od,H',rfl,os,bare,un,hok,fly,C',hC,z⟩:=hq
    cases hC
    exact ⟨e, C, od, σ, H', rfl, I2.Yo os un hok bare (fun b z => nomatch z), z, fly.imp fun b z => Ef I2 hx b z⟩
  | ok fl =>
    cases fl with
    | ret u =>
      obtain⟨v,H',_,_,_,_,_,q⟩:=hq
      exact q.elim
    | next => exact vY hq
    | brk => exact vY hq
    | cont => exact vY hq⟩
noncomputable def Qm(C:Str)(F:Fn)(fs:Wp Ev):Ev:=λE S=>(evs fs E S).bind λr=>(F (.ref r.2.length::r.1) (r.2++[.ins C []])).bind λq=>match q.1 with
 | .non=>Gc (.ref r.2.length,q.2)
 |_=>none
def cB(d:MkD X.prog X.w X.K X.mg X.base CX0 C k ps (spD X.K np F))(hr:Cg (k+1) X.A)(hg:Gl X C)(ha:DEs X (e::es) fs)(hn:zn (fs.length+1=np) ww)(hdb:zn ((C==("__debug__":Str))=false) xz)(he:zn (uf (e::es) X.env=(false,eval e X.env)::uf es X.env) ww)(hpl:zn ((backTo pos (uf es X.env)).any (·.1)=false) ww):DE X (.Call (.Name C p) (e::es) [] pos) (Qm C F fs):=⟨by
 obtain⟨Ca,f,fd,hmg,hC,hm,hb,Fk⟩:=d.ex
 refine Ax (dA hm Fk hr hg hmg hb .nil VJ ha.pe hdb he hpl) λσ H Q z=>?_
 obtain⟨M,E,S,d0,S',e0,r,st,q⟩:=z
 obtain⟨⟨ds,S1⟩,e1,e0⟩:=Ab e0
 obtain⟨⟨w,S2⟩,e2,e0⟩:=Ab e0
 refine EZ e1 r st λvs H1 M1 g1 st1 r1=>λx dx hx hdx ne=>?_
 dsimp only at e0 e2
 split at e0
 case h_2=>cases e0
 cases e0
 obtain⟨st2,g2⟩:=st1.rV (a:=x) (cl:=.ins C []) (H':=upd (upd H1 dx (.own x)) x (.ins Ca dx [])) hx (λb o eb=>by rw[AM (λz=>by rw[z,hx]at eb;cases eb),AM (λz=>by rw[z,hdx]at eb;cases eb)];exact eb) AX trivial λM' g=>⟨Ca,dx,[],hC,AX,by rw[AM ne,AX],rfl,.nil⟩
 have hi:(⟨M1.cel++[x],M1.tmp⟩:Ms).cel[S1.length]?=Gc x:=by rw[<-st1.len];exact uz
 rw[vv]
 exact⟨_,.ref S1.length::ds,_,_,_,by rw[vH,Ht e1];exact hn,e2,.cons (.ref hi) (r1.step g2.st),st2,λv H' M' g st' r'=>⟨by cases r';rfl,q _ _ M' ((g1.trans g2).trans g) st' (.ref (Lr g.pre hi))⟩⟩⟩
end
section
variable{X:Cx}{k j np:Nat}{C m:Str}{ps:Wp Str}{F:Fn}{es:Wp vj}{fo:Ev}{fs:Wp Ev}{p pos apos:Pos}{pl:Sem va}
def LM (d:MeD X.prog X.w X.K X.mg X.base CX0 C m k ps (spD X.K np F))(hr:Cg j X.A)(ho:DE X o fo)(ha:DEs X (e::es) fs)(hk:zn (k ≤ j) xz)(hn:zn (fs.length + 1=np) ww)(hst:zn (uf (e::es) X.env=(false,eval e X.env)::uf es X.env) ww)(hpl:zn ((backTo pos (uf es X.env)).any (·.1)=false) ww)(ht:zn (eval (.Call (.Attribute o m apos) (e::es) [] pos) X.env=(do
      let ov ← eval o X.env
      standAt apos.atName
      let (f, first) ← holding [ov] (getMethod ov m pl)
      callWith pos f first (backTo pos (uf (e :: es) X.env)) (backToKw pos (keywordEach [] X.env)))) ww) :
    DE X (.Call (.Attribute o m apos) (e::es) [] pos) (HQ C m F fo fs):=bD (pl:=pl) d (hr.mono hk) ho ha hn hst hpl ht
def VW (d:MeD X.prog X.w X.K X.mg X.base CX0 C m k ps (spD X.K np F))(hr:Cg j X.A)(ho:DE X o fo)(hk:zn (k ≤ j) xz)(hn:zn (1=np) ww)(ht:zn (eval (.Call (.Attribute o m apos) [] [] pos) X.env=(do
      let ov ← eval o X.env
      standAt apos.atName
      let (f, first) ← holding [ov] (getMethod ov m pl)
      callWith pos f first (backTo pos (uf [] X.env)) (backToKw pos (keywordEach [] X.env)))) ww) :
    DE X (.Call (.Attribute o m apos) [] [] pos) (HQ C m F fo []):=Xx (pl:=pl) d (hr.mono hk) ho hn ht
def Yb (d:MeD X.prog X.w X.K X.mg X.base (CXr X.prog X.w) C m k ps (spR X.K X.mg np R))(hr:Cg j X.A)(ho:DE X o fo)(ha:DEs X (e::es) fs)(hk:zn (k ≤ j) xz)(hn:zn (fs.length + 1=np) ww)(hxe:zn (X.xe=λ_ _=>wI) ww)(hx:zn (X.ex=[]) ww)(hst:zn (uf (e::es) X.env=(false,eval e X.env)::uf es X.env) ww)(hpl:zn ((backTo pos (uf es X.env)).any (·.1)=false) ww)(ht:zn (eval (.Call (.Attribute o m apos) (e::es) [] pos) X.env=(do
      let ov ← eval o X.env
      standAt apos.atName
      let (f, first) ← holding [ov] (getMethod ov m pl)
      callWith pos f first (backTo pos (uf (e :: es) X.env)) (backToKw pos (keywordEach [] X.env)))) ww) :
    RE X (.Call (.Attribute o m apos) (e::es) [] pos) (Sq C m R fo fs):=cu (pl:=pl) d (hr.mono hk) ho ha hn hxe hx hst hpl ht
def X2(d:MkD X.prog X.w X.K X.mg X.base CX0 C k ps (spD X.K np F))(hr:Cg j X.A)(hg:Gl X C)(ha:DEs X (e::es) fs)(hk:zn (k+1<=j) xz)(hn:zn (fs.length+1=np) ww)(hdb:zn ((C==("__debug__":Str))=false) xz)(he:zn (uf (e::es) X.env=(false,eval e X.env)::uf es X.env) ww)(hpl:zn ((backTo pos (uf es X.env)).any (·.1)=false) ww):DE X (.Call (.Name C p) (e::es) [] pos) (Qm C F fs):=cB d (hr.mono hk) hg ha hn hdb he hpl
end
def m8 k(S:MkS K mg C q st)(sc:Aj N ps (AB st))(hb:∀{f} {cdv} {A} {outer} {s} {H} {E},N.Nodup->Cg k (A.deeper (u5 q (AB st) s.heap.objs.size f cdv))->(A.deeper (u5 q (AB st) s.heap.objs.size f cdv)).units+100<cLine->DSs (IW CX0 P w K mg base N q (AB st) f cdv A outer s H E).nox (Ar st) b)(hp:zn (ps.length=np) ww)(hbi:zn (BnQ "__init__" q st ps) wP):MkD P w K mg base CX0 C (k+1) ps (spD K np (AS (AV N.length b))):=by
 obtain⟨Ca,f,fd,h1,h2,h3,Fu⟩:=S.ex
 exact⟨Ca,f,fd,h1,h2,h3,bnQ Fu hbi,ZP Fu sc hp λcdv A outer s H E hr=>hb sc.nd hr (Hf hr)⟩
section
variable{K:W1}{st:vI}{od an:uS ug}{osl:ym (uS uY)}{kV doc pm cdv ct:uY}
def jV:∀z∈([]:Wp Str),Hw K Ca z:=λ_ z=>nomatch z
def UC(h:vB K (.ref Ca) x=Gc none)(t:∀z∈fs,Hw K Ca z):∀z∈x::fs,Hw K Ca z:=λz m=>by
 rcases uZ.mp m with e|m
 .rw[e];exact h
 .exact t z m
def iW(a:vG K mainGlobals C=Gc (Gc (.ref Ca)))(b1:yc K Ca Str.empty=true)(b2:yT K Ca=true)(b3:AAa K Ca=true)(b4:vB K (.ref Ca) "__setattr__"=Gc (Gc (.builtin "object.__setattr__")))(n:∀z∈fs,Hw K Ca z):ClD K C fs:=⟨Ca,a,⟨b1,b2,b3,b4⟩,n⟩
def Rz(c:ClD K C fs)(a:vG K mainGlobals C=Gc (Gc (.ref Ca)))(m1:vB K (.ref Ca) m=Gc (Gc (.ref f)))(m2:z5 K (.ref f)=true)(l:K.lookup f=Gc ⟨oc,od,.func (wZ m q (F7 st) (Ar st) (AB st) .none kV doc pm an cdv ct),osl⟩)(cd:x5 K cdv q=true)(k:vn K (.ref f)=true):MeS K C m q st:=by
 obtain⟨Ca',h,cl,_⟩:=c.ex
 cases a.symm.trans h
 exact⟨Ca,f,_,a,cl,⟨m1,m2,k⟩,Uw l cd k⟩
def gC(X:K.In h)(G:h.Ns mainGlobals mg)(a:vG K mainGlobals C=Gc (Gc (.ref Ca)))(m0:ABD K Ca=true)(m1:vB K (.ref Ca) "__init__"=Gc (Gc (.ref f)))(m2:z5 K (.ref f)=true)(m3:vn K (.ref Ca)=true)(l:K.lookup f=Gc ⟨oc,od,.func (wZ "__init__" q (F7 st) (Ar st) (AB st) .none kV doc pm an cdv ct),osl⟩)(cd:x5 K cdv q=true)(k:vn K (.ref f)=true):MkS K mg C q st:=
 ⟨Ca,f,_,wR X G a,a,⟨m0,m1,m2,m3⟩,Uw l cd k⟩
end
def XN(ha:PE X a ta)(hb:PXe X b tr)(hxe:X.xe=λ_ _=>wI)(hs:uf [a,b] X.env=[(false,eval a X.env),(false,eval b X.env)]):PXe X (.Tuple [a,b] k pos) (λσ H Z=>ta σ H λ_ H1=>tr σ H1 Z):=by
 intro pins s σ H Z I h
 refine ABj ?_
 rw[hs]
 show wpAny _ _ (spliced ((false,eval a X.env)::backTo pos [(false,eval b X.env)])) _ _ s
 refine xF (EF hxe (ha pins s σ H _ I h) λu s1 z=>?_)
 obtain⟨x,H1,I1,r1,q1⟩:=z
 exact xF (vp (hb pins s1 σ H1 Z I1 q1) (λ_ _ z=>z.elim) λ_ _ z=>z)
noncomputable def Nk(p wd:Str)(ck tk:Nat)(np cp ep kp tp rp:Pos)(h₀:yq)(hs:Wp yq):Wp vI:=[.Try [.Return (Gc (.Tuple [.Constant (.str wd) ck kp,.Call (.Name p np) [] [] cp] tk ep)) rp] (h₀::hs) [] [] tp]
noncomputable def VI(wd:Str)(x:Str)(J5:Wp Nat)(F:Ev)(R:Rx)(n:Nat)(h:Tg->Ex):Ev:=λE S=>
 if S.any (Vn x)=true then
  match F (SY J5 E) S with
  |some q=>Gc ((.tup [.str wd,q.1]),q.2)
  |none=>(R (SY J5 E) S).bind λq=>(h q.1 (none::uq n none) q.2.2).bind λz=>match z.1 with| .ret d=>Gc (d,z.2.2)| .nx=>none
 else none
def WQ{X:Cx}{pins:Wp (ug×Obj)}{σ:Sg}{H:Hp}{s:uj}{k:Nat}{fg f:ug}{fd:zD}{g p x:Str}{st:vI}{body:vj}{sc:wY}{clos:Wp (Str×ug)}{N':Wp Str}{σc:Sg}{Q:VK}{np cp ep kp tp rp:Pos}{rs:Wp Str}(I:Inv X pins σ H s)(Fu:Fun X.K g g st fg fd)(S:Aj (p::rs) [p] (AB st))(Bi:Binds X.K fd [p] [])(hr:Cg (k+3) X.A)(L:Mw H s.heap x body sc clos N' σc f)(eb:Ar st=Nk p wd ck tk np cp ep kp tp rp h₀ hs)(hv:Vis (AB st) p)(hd1:(p==("__debug__":Str))=false)(hd2:(p==("__classdict__":Str))=false)(hb:∀c' A outer s H,Cg k (A.deeper (wy (LY x) sc s.heap.objs.size f (.ref c') clos))->DE (Mx X.prog X.w X.K X.mg X.base N' x sc clos f c' A outer s H) body F)(hx:∀c' A outer s H,Cg k (A.deeper (wy (LY x) sc s.heap.objs.size f (.ref c') clos))->RE (Mx X.prog X.w X.K X.mg X.base N' x sc clos f c' A outer s H) body R)(hh:∀cdv A outer s H,HS (IW CX0 X.prog X.w X.K X.mg X.base (p::rs) g (AB st) fg cdv A outer s H E0).nox (h₀::hs) hd)(h:∃M E S,EnR X.K M E σc H/\StR X.K M S H/\((∃d S',F E S=Gc (d,S')/\∀v H' M',Gr M H M' H'->StR X.K M' S' H'->BN X.K M' H' v (.tup [.str wd,d])->Q v H')\/∃y E' S' d E2 S2,R E S=Gc (y,E',S')/\hd y (none::uq rs.length none) S'=Gc (.ret d,E2,S2)/\∀v H' M',Gr M H M' H'->StR X.K M' S2 H'->BN X.K M' H' v d->Q v H')):wpAny (model X.prog X.w) X.A (call (.ref fg) [.ref f]) (EP X pins σ Q) X.xe s:=by
 refine jL (k:=k+2) (vs:=[.ref f]) Fu S Bi hr I (.cons rfl .nil) rfl λcdv hrg=>?_
 have hrl:Cg (k+1) (X.A.deeper (u5 g (AB st) s.heap.objs.size fg cdv)):=hrg.mono (by lia)
 let Xg:=(IW CX0 X.prog X.w X.K X.mg X.base (p::rs) g (AB st) fg cdv X.A X.stack s H E0).nox
 have p1:=W2 (X:=Xg) (t:=tD X.K F) (i:=0) (y:=p) (p:=np) (pos:=cp) hrl rfl L (λc' s H z=>(hb c' Xg.A Xg.stack s H z).pe) rfl hv hd1 hd2
 have p2:=Xs (X:=Xg) (t:=tR X.K X.mg R) (i:=0) (y:=p) (p:=np) (pos:=cp) hrl rfl L (λc' s H z=>(hx c' Xg.A Xg.stack s H z).pe) rfl hv rfl hd1 hd2
 have hst:uf [.Constant (.str wd) ck kp,.Call (.Name p np) [] [] cp] Xg.env=[(false,eval (.Constant (.str wd) ck kp) Xg.env),(false,eval (.Call (.Name p np) [] [] cp) Xg.env)]:=rfl
 have q1:PSs Xg [.Return (Gc (.Tuple [.Constant (.str wd) ck kp,.Call (.Name p np) [] [] cp] tk ep)) rp] _:=KQ (Rq (Uh (F6 Nf (F6 p1 NR rfl) rfl)))
 have qx:=XN (pos:=ep) (k:=tk) (Nf (X:=Xg) (x:=wd) (j:=ck) (pos:=kp)) p2 rfl hst
 have q2:PXs Xg [.Return (Gc (.Tuple [.Constant (.str wd) ck kp,.Call (.Name p np) [] [] cp] tk ep)) rp] (λσ H Z=>σ[0]?=Gc (Gc (.ref f))/\tR X.K X.mg R σc H λC od _ H'=>Z C od σ H'):=λpins s σ H Z I q=>
  xy (AAZ (vp (qx pins s σ H Z I q) (λ_ _ z=>z.elim) λ_ _ z=>z))
 have q3:=KQ (aB (pos:=tp) q1 q2 (hh cdv X.A X.stack s H) rfl rfl rfl rfl)
 refine⟨_,by rw[eb];exact q3,?_⟩
 obtain⟨M,E,S0,r,sr,w⟩:=h
 rcases w with⟨d,S',e,q⟩|⟨y,E',S',d,E2,S2,e,e2,q⟩
 .refine .inl ⟨rfl,M,E,S0,d,S',e,r,sr,λv H' M' gr st' rd=>⟨by rw[xJ];simp,λl hl=>?_⟩⟩
  have g2:=CP (o:=HO.tup [V.str wd,v]) hl
  exact q _ _ M' (gr.trans (.grow st'.mo g2)) (st'.grow g2) (.tup (.of AX) (.cons (.str wd) (.cons (rd.step (Gr.grow st'.mo g2).st) .nil)))
 .refine .inr ⟨y,rfl,M,E,S0,y,E',S',e,r,sr,λC od σ' H' M' hm gr er st'=>⟨hm,?_⟩⟩
  refine⟨M',_,S',.ret d,E2,S2,e2,?_,st',λv2 H2 M2 g2 st2 r2=>q v2 H2 M2 (gr.trans g2) st2 r2⟩
  exact⟨by simp[L2.start],λi d e=>by rw[<-wK,yz]at e;split at e<;>cases e⟩
def cn{X:Cx}{k:Nat}{g p x:Str}{st:vI}{body:vj}{sc:wY}{params:Arguments}{N':Wp Str}{J5:Wp Nat}{gp pl pos np cp ep kp tp rp:Pos}{h₀:yq}(G:St.Src X.K X.mg g st)(S:Aj (p::rs) [p] (AB st))(LS:LN X.N X.env.scope N' J5 sc)(ci:V5 X x)(bm:BmB X.mg X.base)(hr:Cg (k+3) X.A)(hg:Gl X g)(hb:∀f c' clos A outer s H,Cg k (A.deeper (wy (LY x) sc s.heap.objs.size f (.ref c') clos))->DE (Mx X.prog X.w X.K X.mg X.base N' x sc clos f c' A outer s H) body F)(hx:∀f c' clos A outer s H,Cg k (A.deeper (wy (LY x) sc s.heap.objs.size f (.ref c') clos))->RE (Mx X.prog X.w X.K X.mg X.base N' x sc clos f c' A outer s H) body R)(hh:∀fg cdv A outer s H,HS (IW CX0 X.prog X.w X.K X.mg X.base (p::rs) g (AB st) fg cdv A outer s H E0).nox (h₀::hs) hd)(eb:zn (Ar st=Nk p wd ck tk np cp ep kp tp rp h₀ hs) ww)(hv:zn (Vis (AB st) p) v4)(hqual:zn (X.env.qual=x++(".<locals>.":Str)) ww)(hdf:zn (defaultsOf params X.env=([],[])) ww)(hp:zn (∀clos pm c' ctv,bindArgs (zM "<lambda>" (LY x) params body sc clos pm (.ref c') ctv) ⟨[],[]⟩=pure []) u8)(hbi:zn (BnR g st [p]) wP)(hdb:zn ((g==("__debug__":Str))=false) xz)(hd1:zn ((p==("__debug__":Str))=false) xz)(hd2:zn ((p==("__classdict__":Str))=false) xz)(he:zn (uf [Expr.Lambda params body sc pl] X.env=[(false,eval (.Lambda params body sc pl) X.env)]) ww):DE X (.Call (.Name g gp) [.Lambda params body sc pl] [] pos) (VI wd x J5 F R rs.length hd):=⟨by
 intro pins s σ H Q I h
 obtain⟨M,E,S0,d,S',e,r,sr,q⟩:=h
 unfold VI at e
 split at e
 case isFalse=>cases e
 rename_i hany
 obtain⟨n,hn⟩:=WW hany
 obtain⟨P,hc,ps,hP,tok⟩:=sr.at hn
 obtain⟨c,hcode,hcd⟩:=ci P tok.tat I.ok.mod.kin I.ok.mod.glob
 obtain⟨fg,fd,Fu,hm⟩:=G.ex
 have hcl:∀y∈sc.names,y.2=.free->∃a,X.env.cells.lookup y.1=Gc a:=λy hy hf=>I.ok.has y.1 (.inl (LS.free y hy hf))
 refine wF (IC I hg hm ?_ hdb)
 refine wk (h₀:=X.base) I.ok.mod.kin Fu.kp ?_ he rfl
 rw[he]
 show wpAny _ _ (spliced ((false,eval (.Lambda params body sc pl) X.env)::backTo pos [])) _ _ s
 refine xF (Xt I hqual hdf (N9 hcl) hcode hcd bm hP tok λf H' s1 mk=>?_)
 refine zy ⟨mk.inv.kIn,?_⟩
 obtain⟨sr1,g1⟩:=fS sr hc hn mk
 have L:=jB LS mk λpm c' ctv=>hp _ pm c' ctv
 refine WQ mk.inv Fu S (bnR Fu hbi) hr L eb hv hd1 hd2 (λc'=>hb f c' _) (λc'=>hx f c' _) (hh fg) ⟨M,SY J5 E,S0,(r.step g1.st).NB J5,sr1,?_⟩
 split at e
 .rename_i w ew
  cases e
  exact .inl ⟨w.1,w.2,ew,λv H2 M2 g2 st2 rd=>q v H2 M2 (g1.trans g2) st2 rd⟩
 .obtain⟨⟨y,E',S1⟩,e1,e⟩:=Ab e
  obtain⟨⟨fl,E2,S2⟩,e2,e⟩:=Ab e
  cases fl with
  |nx=>cases e
  |ret w=>
   cases e
   exact .inr ⟨y,E',S1,_,E2,S2,e1,e2,λv H2 M2 g2 st2 rd=>q v H2 M2 (g1.trans g2) st2 rd⟩⟩
section
noncomputable def Dt:D:=.tup [.int 0,.int 1]
noncomputable def OW:D:=.tup [.int 1,.int 1]
noncomputable def BS:D:=.tup [.str "bring",.str "pool",.str "swap",.str "trade"]
def Fq:=AZ (D7 (eOp (o2 QH) [eV 0,eC (.ty "int")]) (E7 (eOp (o2 QH) [eV 0,eC (.ty "bool")])))
def Cn:=AS (AV 1 Fq)
def GU:=AZ (D7 (AF Cn [eV 0]) (eOp (o2 wGe) [eV 0,eV 1]))
def Bp:=AS (AV 2 GU)
def Dp:=AZ (D7 (AF Bp [eV 0,eV 1]) (eOp (o2 wLe) [eV 0,eV 2]))
def Ac:=AS (AV 3 Dp)
def Es:=AN (Tv 0 1 (eOp (o1 eZ) [eV 0]) (eOp (o1 eZ) [eV 1])) (AN (Pg (Ur 1) (eOp (o2 wNe) [eV 1,eI 0]) (Tv 0 1 (eV 1) (eOp (o2 Ox) [eV 0,eV 1]))) (AZ (eV 0)))
def BQ:=AS (AV 2 Es)
def Nn:=AN (Az 2 (AF BQ [eV 0,eV 1])) (AZ (BC [eOp (o2 Oa) [eV 0,eV 2],eOp (o2 Oa) [eV 1,eV 2]]))
def Cr:=AS (AV 3 Nn)
def RX:=AZ (AF Cr [eOp (o2 CM) [eOp (o2 B5) [eIx (eV 0) (eI 0),eIx (eV 1) (eI 1)],eOp (o2 B5) [eIx (eV 1) (eI 0),eIx (eV 0) (eI 1)]],eOp (o2 B5) [eIx (eV 0) (eI 1),eIx (eV 1) (eI 1)]])
def Ez:=AS (AV 2 RX)
def Q6:=AZ (AF Cr [eOp (o2 QL) [eOp (o2 B5) [eIx (eV 0) (eI 0),eIx (eV 1) (eI 1)],eOp (o2 B5) [eIx (eV 1) (eI 0),eIx (eV 0) (eI 1)]],eOp (o2 B5) [eIx (eV 0) (eI 1),eIx (eV 1) (eI 1)]])
def Jr:=AS (AV 2 Q6)
def PN:=AZ (AF Cr [eOp (o2 B5) [eIx (eV 0) (eI 0),eIx (eV 1) (eI 0)],eOp (o2 B5) [eIx (eV 0) (eI 1),eIx (eV 1) (eI 1)]])
def FN:=AS (AV 2 PN)
def QD:=AN (Az 4 (eOp (o2 CM) [eOp (o2 B5) [eOp (o2 B5) [eIx (eV 0) (eI 0),eIx (eV 2) (eI 1)],eV 1],eOp (o2 B5) [eOp (o2 B5) [eIx (eV 2) (eI 0),eIx (eV 0) (eI 1)],eV 3]])) (AZ (AF Cr [eV 4,eOp (o2 B5) [eOp (o2 B5) [eIx (eV 0) (eI 1),eIx (eV 2) (eI 1)],eOp (o2 CM) [eV 1,eV 3]]]))
def HN:=AS (AV 5 QD)
def GA:=AZ (D7 (eOp (o2 wLt) [eV 1,eOp (o1 Eu) [eV 0]]) (eOp (o2 wGe) [eIx (eIx (eV 0) (eV 1)) (eI 1),eV 2]))
def BU:=AS (AV 3 GA)
def Fw:=AZ (D7 (AF BU [eV 0,eV 1,eI 1]) (D7 (AF BU [eV 0,eV 2,eI 1]) (eOp (o2 wEq) [eIx (eIx (eV 0) (eV 1)) (eI 0),eIx (eIx (eV 0) (eV 2)) (eI 0)])))
def DU:=AS (AV 3 Fw)
def HY:=AZ (D7 (AF BU [eV 0,eV 1,eV 2]) (eOp (o2 wNe) [eIx (eIx (eV 0) (eV 1)) (eI 0),eV 3]))
def Dg:=AS (AV 4 HY)
def DR:=AN (Az 3 (eIx (eV 2) (eI 0))) (AN (xIf (eOp (o2 wEq) [eV 3,eC (.str "pool")]) (AZ (AF DU [eV 0,eIx (eV 2) (eI 1),eIx (eV 2) (eI 2)])) BO) (AN (xIf (eOp (o2 wEq) [eV 3,eC (.str "swap")]) (AZ (AF Dg [eV 0,eIx (eV 2) (eI 1),eIx (eV 2) (eI 2),eIx (eV 2) (eI 3)])) BO) (AN (xIf (eOp (o2 wEq) [eV 3,eC (.str "trade")]) (AN (Az 4 (Be [] 1 (F1 (eV 1)) (tNm 0) (eOp (o2 wEq) [eIx (eV 0) (eI 0),eC (.str "trade")]) (eIx (eV 0) (eI 1)))) (AZ (D7 (eOp (o2 (wIn true)) [eIx (eV 2) (eI 1),eV 4]) (AF Dg [eV 0,eIx (eV 2) (eI 2),eIx (eV 2) (eI 3),eIx (eV 2) (eI 4)])))) BO) (AN (xIf (eOp (o2 (wIn false)) [eV 3,BC [eC (.str "spoil"),eC (.str "throw")]]) (AZ (AF BU [eV 0,eIx (eV 2) (eI 1),eIx (eV 2) (eI 2)])) BO) (AZ (eC (.bl true)))))))
def Bc:=AS (AV 5 DR)
def HB:=AN (IP (tTp [tNm 3,tNm 4]) (eIx (eV 0) (eV 1))) (AZ (eOp (o2 CM) [eOp (o2 CM) [eOp (Il false true) [eV 0,eV 1],Ja [BC [eV 3,eOp (o2 QL) [eV 4,eV 2]]]],eOp (Il true false) [eV 0,eOp (o2 CM) [eV 1,eI 1]]]))
def BM:=AS (AV 5 HB)
def BF:=AN (Az 2 (eIx (eV 1) (eI 0))) (AN (xIf (eOp (o2 wEq) [eV 2,eC (.str "bring")]) (AZ (eOp (o2 CM) [eV 0,Ja [BC [eIx (eV 1) (eI 2),eIx (eV 1) (eI 3)]]])) BO) (AN (xIf (eOp (o2 wEq) [eV 2,eC (.str "pool")]) (AN (IP (tTp [tNm 3,tNm 4]) (eIx (eV 0) (eIx (eV 1) (eI 1)))) (AN (Az 5 (eIx (eIx (eV 0) (eIx (eV 1) (eI 2))) (eI 1))) (AZ (eOp (o2 CM) [AF BM [AF BM [eV 0,eIx (eV 1) (eI 1),eV 4],eIx (eV 1) (eI 2),eV 5],Ja [BC [eV 3,eOp (o2 CM) [eV 4,eV 5]]]])))) BO) (AN (xIf (eOp (o2 (wIn false)) [eV 2,BC [eC (.str "swap"),eC (.str "trade")]]) (AN (IP (tTp [tNm 6,tNm 7,tNm 3,tNm 8]) (eOp (Il true false) [eV 1,eOp (o1 Ts) [eI 4]])) (AZ (eOp (o2 CM) [AF BM [eV 0,eV 6,eV 7],Ja [BC [eV 3,eV 8]]]))) BO) (AN (xIf (eOp (o2 (wIn false)) [eV 2,BC [eC (.str "spoil"),eC (.str "throw")]]) (AZ (AF BM [eV 0,eIx (eV 1) (eI 1),eIx (eV 1) (eI 2)])) BO) (AZ (eV 0))))))
def Ad:=AS (AV 9 BF)
def GQ:=AZ (Be [] 1 (F1 (eIx (eV 0) (eI 1))) (tNm 0) BI (BC [eIx (eV 0) (eI 0),eIx (eV 0) (eI 1)]))
def Bz:=AS (AV 1 GQ)
def Dk:=AN (Az 1 (eIx (eV 0) (eI 0))) (AN (xIf (eOp (o2 wEq) [eV 1,eC (.str "pool")]) (AZ (eOp (o1 Oh) [Ja [eIx (eV 0) (eI 1),eIx (eV 0) (eI 2)]])) BO) (AN (xIf (eOp (o2 (wIn false)) [eV 1,BC [eC (.str "swap"),eC (.str "trade")]]) (AZ (Ja [eIx (eV 0) (eOp (o1 Ts) [eI 4])])) BO) (AZ (Ja []))))
def Bh:=AS (AV 2 Dk)
def Dz:=AN (Az 1 (AF Bz [eV 0])) (AN (Az 2 (eIx (eV 0) (eI 2))) (AN (M8 (eA (eV 2)) (tTp [tNm 3,tNm 4]) (AN (xIf (E7 (AF Bc [eV 1,eOp (Il false true) [eV 2,eV 3],eV 4])) (AZ (eV 3)) BO) (Az 1 (AF Ad [eV 1,eV 4])))) (AZ (eC .non))))
def BG:=AS (AV 5 Dz)
def Cz:=AN (Az 1 (AF BG [eV 0])) (xIf (eOp (o2 (Wn true)) [eV 1,eC .non]) Cp BO)
def AU:=AS (AV 2 Cz)
def Et:=xIf (E7 (AF Ac [eV 1,eI 0,eOp (o1 Eu) [eIx (eV 0) (eI 2)]])) Cp BO
def Br:=AS (AV 2 Et)
def Ih:=AZ (eOp (o1 B7) [Be [1] 1 (Ow [eV 0]) (tNm 1) BI (eIf (eOp (o2 wEq) [eV 1,eV 0]) (eC OW) (eC Dt))])
def ES:=AS (AV 2 Ih)
def G6:=AZ (eOp (o1 B7) [Be [1,3] 2 (c7 (eV 0) (eV 2)) (tTp [tNm 2,tNm 3]) BI (AF HN [eV 2,eV 0,eV 3,eV 1])])
def CK:=AS (AV 4 G6)
def Cc:=AN (Az 3 (AF Bh [eV 2])) (AN (xIf (eOp (o2 wEq) [eOp (o1 Eu) [eV 3],eI 1]) (AZ (eIx (eV 1) (eIx (eV 3) (eI 0)))) BO) (AN (IP (tTp [tNm 4,tNm 5]) (eV 3)) (AZ (AF CK [eIx (eV 1) (eV 4),eIx (eIx (eV 0) (eV 4)) (eI 1),eIx (eV 1) (eV 5),eIx (eIx (eV 0) (eV 5)) (eI 1)]))))
def A4:=AS (AV 6 Cc)
def G9:=AZ (eOp (o2 CM) [eOp (o1 Yf) [Be [2] 2 (F1 (eV 1)) (tTp [tNm 1,tNm 2]) BI (eOp (o2 B5) [eV 2,eIx (eV 0) (eV 1)])],eOp (o2 B5) [eIx (eV 0) (eI 2),eIx (eV 2) (eOp (o1 Ts) [eI 1])]])
def DF:=AS (AV 3 G9)
def Ha:=AN (IP (tTp [tNm 3,tNm 4,tNm 5]) (eOp (Il true false) [eV 2,eI 1])) (AZ (AF Cr [eOp (o2 B5) [eV 4,eIx (eV 5) (eIx (eIx (eV 1) (eV 3)) (eI 0))],AF DF [eV 0,eV 1,eV 5]]))
def Dl:=AS (AV 6 Ha)
def GK:=AN (IP (tTp [tNm 5,tNm 6]) (AF Dl [eV 0,eV 1,eV 3])) (AZ (AF CK [eV 4,eOp (o2 QL) [eV 6,eV 5],eIx (eV 2) (eIx (eV 3) (eI 1)),eV 5]))
def Cy:=AS (AV 7 GK)
def Hu:=AN (IP (tTp [tNm 2,tNm 3,tNm 4]) (eOp (Il true false) [eV 0,eI 1])) (AN (Az 5 (AF FN [eIx (eV 1) (eV 2),eV 4])) (AN (Az 6 (fE (o1 O9) [eV 1])) (AN (Mt (AF Jr [eIx (eV 1) (eV 2),eV 5]) (eV 6) (eV 2)) (AN (Mt (AF Ez [eIx (eV 1) (eV 3),eV 5]) (eV 6) (eV 3)) (AZ (eOp (o1 B7) [eV 6]))))))
def Dq:=AS (AV 7 Hu)
def Av:=AN (xIf (eOp (o2 wEq) [eIx (eV 3) (eI 0),eC (.str "throw")]) (AZ (AF Cy [eV 0,eV 1,eV 2,eV 3,eV 4])) BO) (AN (xIf (eOp (o2 wEq) [eIx (eV 3) (eI 0),eC (.str "sell")]) (AZ (AF Dq [eV 3,eV 4])) BO) (AZ (eV 4)))
def AY:=AS (AV 5 Av)
def Aw:=AN (Az 4 (Be [0,1,2,3] 1 (F1 (eV 2)) (tNm 4) BI (AF AY [eV 0,eV 1,eV 2,eV 3,eV 4]))) (AN (xIf (eOp (o2 wEq) [eIx (eV 3) (eI 0),eC (.str "bring")]) (AZ (eOp (o2 CM) [eV 4,Ja [AF ES [eIx (eV 0) (eI 0),eIx (eV 3) (eI 1)]]])) BO) (AN (xIf (eOp (o2 (wIn false)) [eIx (eV 3) (eI 0),eC BS]) (AZ (eOp (o2 CM) [eV 4,Ja [AF A4 [eV 1,eV 2,eV 3]]])) BO) (AZ (eV 4))))
def Ag:=AS (AV 5 Aw)
def K7:=AN (IP (tTp [tNm 2,tNm 3,tNm 4]) (eV 0)) (AN (Az 5 (AF Bz [eV 0])) (AN (Az 6 (Be [] 1 (F1 (eV 3)) (tNm 0) BI (eIx (eV 0) (eI 2)))) (AN (Az 7 (eIx (eV 2) (eI 3))) (AN (M8 (F1 (eOp (Il false true) [eV 4,eV 1])) (tNm 8) (AN (Az 7 (AF AY [eV 2,eV 5,eV 6,eV 8,eV 7])) (AN (Az 6 (AF Ag [eV 2,eV 5,eV 6,eV 8])) (Az 5 (AF Ad [eV 5,eV 8]))))) (AZ (BC [eV 5,eV 6,eV 7]))))))
def Fo:=AS (AV 9 K7)
def Ge:=AN (xIf (eOp (o2 wLt) [eV 1,eOp (o1 Eu) [eV 0]]) (AZ (eIx (eV 0) (eV 1))) BO) (AZ (eI 0))
def C0:=AS (AV 2 Ge)
def PY:=AZ (JZ [eV 0,eOp (o1 Wl) [eOp (o2 wGe) [eV 0,eOp (o2 ky) [eI 10,eI 18]]],eI 0,eOp (o2 Ox) [eV 0,eI 1000000007]])
def Hk:=AS (AV 1 PY)
def IL:=AN (xIf (D7 (eOp (o2 wEq) [eIx (eV 0) (eI 1),eI 1]) (eOp (o2 wGt) [eIx (eV 0) (eI 0),eI 0])) (AN (Az 2 (eOp (o2 Ox) [eIx (eV 0) (eI 0),eV 1])) (AN (Mt (eOp (o2 Oa) [eIx (eV 0) (eI 0),eV 1]) (eV 0) (eI 0)) (AZ (eV 2)))) BO) (AN (Mt (eOp (o2 CM) [eIx (eV 0) (eI 2),eI 1]) (eV 0) (eI 2)) (AN (Az 3 (eOp (o2 Ox) [eOp (o2 B5) [eOp (o2 CM) [eIx (eV 0) (eI 3),eI 17],eOp (o2 CM) [eI 69621,eOp (o2 B5) [eI 2,eIx (eV 0) (eI 2)]]],eI 2147483647])) (AN (Az 3 (eOp (o2 Ox) [eOp (o2 CM) [eOp (o2 CM) [eOp (o2 B5) [eV 3,eV 3],eOp (o2 B5) [eI 40503,eIx (eV 0) (eI 2)]],eI 5],eI 2147483629])) (AZ (eOp (o2 Ox) [eOp (o2 Oa) [eOp (o2 Ox) [eOp (o2 B5) [eV 3,eI 48271],eI 2147483647],eI 32],eV 1])))))
def AG:=AS (AV 4 IL)
def K4:=AN (Pg (Ur 1) (eOp (o2 wGt) [eV 1,eI 0]) (Tv 0 1 (eV 1) (eOp (o2 Ox) [eV 0,eV 1]))) (AZ (eV 0))
def Fs:=AS (AV 2 K4)
def Nb:=AN (Az 2 (AF Fs [eOp (o1 eZ) [eV 0],eV 1])) (AZ (BC [eOp (o2 Oa) [eV 0,eV 2],eOp (o2 Oa) [eV 1,eV 2]]))
def BW:=AS (AV 3 Nb)
def Nj:=AZ (AF BW [eOp (o2 CM) [eOp (o2 B5) [eIx (eV 0) (eI 0),eIx (eV 1) (eI 1)],eOp (o2 B5) [eIx (eV 1) (eI 0),eIx (eV 0) (eI 1)]],eOp (o2 B5) [eIx (eV 0) (eI 1),eIx (eV 1) (eI 1)]])
def BY:=AS (AV 2 Nj)
def Lv:=AZ (AF BW [eOp (o2 B5) [eIx (eV 0) (eI 0),eIx (eV 1) (eI 0)],eOp (o2 B5) [eIx (eV 0) (eI 1),eIx (eV 1) (eI 1)]])
def Ae:=AS (AV 2 Lv)
def Nc:=AZ (AF BY [eV 0,BC [eOp (o2 QL) [eI 0,eIx (eV 1) (eI 0)],eIx (eV 1) (eI 1)]])
def De:=AS (AV 2 Nc)
def JP:=AN (Az 2 (ZF [0] 1 (Ow [eV 1]) (tNm 1) BI (eIx (Ja [eI 0,eI 1,AF AG [eV 0,eI 4],AF AG [eV 0,eI 9]]) (AF AG [eV 0,eI 4])))) (AN (xIf (eOp (o2 wEq) [eOp (o1 Yf) [eV 2],eI 0]) (Mt (eI 1) (eV 2) (AF AG [eV 0,eV 1])) BO) (AZ (eOp (o1 B7) [Be [2] 1 (F1 (eV 2)) (tNm 1) BI (AF BW [eV 1,eOp (o1 Yf) [eV 0]])])))
def DO:=AS (AV 3 JP)
def Hm:=AN (Az 1 (eOp (o2 CM) [eOp (o2 ky) [eI 10,eI 30],AF AG [eV 0,eI 99]])) (AZ (eIx (Ja [eOp (o2 CM) [eI 1,AF AG [eV 0,eI 4]],eOp (o2 CM) [eI 1,AF AG [eV 0,eI 40]],eOp (o2 CM) [eI 1,AF AG [eV 0,eI 999]],eV 1]) (eOp (o2 Oa) [AF AG [eV 0,eI 7],eI 2])))
def A8:=AS (AV 2 Hm)
def Ma:=AN (Tv 1 2 (eOp (o2 CM) [eI 1,AF AG [eV 0,eI 4]]) (eOp (o2 CM) [eI 1,AF AG [eV 0,eI 5]])) (AN (Az 3 (eIx (Ja [eOp (o2 CM) [eI 1,AF AG [eV 0,eI 3]],eOp (o2 CM) [eI 1,AF AG [eV 0,eI 20]]]) (AF AG [eV 0,eI 2]))) (AZ (BC [eV 1,eV 2,eV 3,AF DO [eV 0,eV 1],AF AG [eV 0,eI 10],AF AG [eV 0,eI 10]])))
def G4:=AS (AV 4 Ma)
def L5:=AN (Az 2 (JZ [])) (AN (M8 (Ow [eIx (Ja [eI 0,eI 1,AF AG [eV 0,eI 5]]) (AF AG [eV 0,eI 3])]) (tNm 3) (Bm (NH NV (eV 2) [BC [AF AG [eV 0,eIx (eV 1) (eI 1)],AF A8 [eV 0],AF DO [eV 0,eIx (eV 1) (eI 0)]]]))) (AZ (eOp (o1 B7) [eV 2])))
def Gv:=AS (AV 4 L5)
def Ll:=AN (Az 1 (eOp (o2 CM) [eI 1,AF AG [eV 0,eI 12]])) (AZ (AF BW [eOp (o2 CM) [eI 1,AF AG [eV 0,eV 1]],eV 1]))
def FK:=AS (AV 2 Ll)
def Kr:=AZ (eOp (o1 B7) [Be [0] 1 (Ow [eV 1]) (tNm 1) BI (eOp (o2 CM) [eI 1,eIx (Ja [AF AG [eV 0,eI 3],AF AG [eV 0,eI 99]]) (AF AG [eV 0,eI 2])])])
def DZ:=AS (AV 2 Kr)
def Ly:=AZ (JZ [ZF [] 1 (F1 (eIx (eV 0) (eI 1))) (tNm 0) BI (fE (o1 O9) [eV 0]),eOp (o1 B7) [eIx (eIx (eV 0) (eI 0)) (eI 3)],JZ []])
def CF:=AS (AV 1 Ly)
def Kt:=AN (Az 2 (JZ [])) (AN (M8 (c7 (eIx (eV 0) (eI 2)) (eIx (eV 1) (eI 2))) (tTp [tNm 3,tNm 4]) (AN (Az 5 (AF BY [AF Ae [BC [eIx (eV 0) (eI 1),eI 1],eV 3],AF Ae [BC [eIx (eV 1) (eI 1),eI 1],eV 4]])) (Bm (NH NV (eV 2) [AF Ae [eV 5,AF BW [eI 1,eOp (o2 CM) [eIx (eV 0) (eI 1),eIx (eV 1) (eI 1)]]]])))) (AZ (eOp (o1 B7) [eV 2])))
def Fv:=AS (AV 6 Kt)
def Ng:=AN (Az 3 (eIx (eV 2) (eI 3))) (AN (Az 4 (eOp (o2 CM) [eOp (o1 Yf) [Be [3] 3 (F1 (eV 1)) (tTp [tNm 1,tNm 2,tNm 3]) BI (eOp (o2 B5) [eV 2,eIx (eV 0) (eV 1)])],eOp (o2 B5) [eIx (eV 0) (eI 2),eIx (eV 3) (eOp (o1 Ts) [eI 1])]])) (AZ (AF BW [eOp (o2 B5) [eIx (eV 2) (eI 2),eIx (eV 3) (eIx (eIx (eV 1) (eIx (eV 2) (eI 1))) (eI 0))],eV 4])))
def IK:=AS (AV 5 Ng)
def Lj:=AN (Az 3 (JZ [])) (AN (M8 (c7 (eV 0) (eV 2)) (tTp [tNm 4,tNm 5]) (Bm (NH NV (eV 3) [AF BY [AF Ae [eV 4,AF De [BC [eI 1,eI 1],eV 1]],AF Ae [eV 5,eV 1]]]))) (AZ (eOp (o1 B7) [eV 3])))
def ED:=AS (AV 6 Lj)
def Nh:=AN (Az 2 (fE (o1 O9) [eV 0])) (AN (Az 3 (AF Ae [eIx (eV 2) (eIx (eV 1) (eI 1)),eIx (eV 1) (eI 3)])) (AN (Mt (AF De [eIx (eV 2) (eIx (eV 1) (eI 1)),eV 3]) (eV 2) (eIx (eV 1) (eI 1))) (AN (Mt (AF BY [eIx (eV 2) (eIx (eV 1) (eI 2)),eV 3]) (eV 2) (eIx (eV 1) (eI 2))) (AZ (eOp (o1 B7) [eV 2])))))
def FD:=AS (AV 4 Nh)
def KR:=AN (IP (tTp [tNm 3,tNm 4,tNm 5]) (eV 1)) (xIf (eOp (o2 wEq) [eIx (eV 2) (eI 0),eC (.str "throw")]) (AN (Tv 6 7 (AF IK [eV 0,eV 3,eV 2]) (eIx (eIx (eV 3) (eIx (eV 2) (eI 1))) (eI 2))) (AN (Mt (eOp (o2 QL) [eIx (eIx (eV 3) (eIx (eV 2) (eI 1))) (eI 1),eIx (eV 2) (eI 2)]) (eIx (eV 3) (eIx (eV 2) (eI 1))) (eI 1)) (AN (M8 (F1 (eV 3)) (tNm 8) (Mt (AF ED [eIx (eV 8) (eI 2),eV 6,eV 7]) (eV 8) (eI 2))) (Mt (AF ED [eV 4,eV 6,eV 7]) (eV 1) (eI 1))))) (AN (M8 (F1 (eV 3)) (tNm 8) (Mt (AF FD [eIx (eV 8) (eI 2),eV 2]) (eV 8) (eI 2))) (Mt (AF FD [eV 4,eV 2]) (eV 1) (eI 1))))
def E8:=AS (AV 9 KR)
def Fi:=AN (IP (tTp [tNm 3,tNm 4,tNm 5]) (eV 1)) (AN (Az 6 (eIx (eV 2) (eI 0))) (xIf (eOp (o2 wEq) [eV 6,eC (.str "bring")]) (Bm (NH NV (eV 3) [JZ [eIx (eV 2) (eI 2),eIx (eV 2) (eI 3),eOp (o1 B7) [Be [2] 1 (Ow [eIx (eV 0) (eI 0)]) (tNm 1) BI (BC [eOp (o1 Wl) [eOp (o2 wEq) [eV 1,eIx (eV 0) (eI 1)]],eI 1])]]])) (xIf (eOp (o2 wEq) [eV 6,eC (.str "pool")]) (AN (Tv 7 8 (eIx (eV 3) (eIx (eV 2) (eI 1))) (eIx (eV 3) (eIx (eV 2) (eI 2)))) (AN (Bm (NH NV (eV 3) [JZ [eIx (eV 7) (eI 0),eOp (o2 CM) [eIx (eV 7) (eI 1),eIx (eV 8) (eI 1)],AF Fv [eV 7,eV 8]]])) (AN (Mt (eI 0) (eV 7) (eI 1)) (Mt (eI 0) (eV 8) (eI 1))))) (xIf (eOp (o2 (wIn false)) [eV 6,BC [eC (.str "swap"),eC (.str "trade")]]) (AN (IP (tTp [tNm 9,tNm 10,tNm 11,tNm 12]) (eOp (Il true false) [eV 2,eOp (o1 Ts) [eI 4]])) (AN (Mt (eOp (o2 QL) [eIx (eIx (eV 3) (eV 9)) (eI 1),eV 10]) (eIx (eV 3) (eV 9)) (eI 1)) (AN (Bm (NH NV (eV 3) [JZ [eV 11,eV 12,eIx (eIx (eV 3) (eV 9)) (eI 2)]])) (Bm (NH lu (eV 5) [eOp (o2 B5) [eOp (Il true true) [eV 2,eI 1,eI 2],eOp (o1 Wl) [eOp (o2 wEq) [eV 6,eC (.str "trade")]]]]))))) (xIf (eOp (o2 wEq) [eV 6,eC (.str "spoil")]) (Mt (eOp (o2 QL) [eIx (eIx (eV 3) (eIx (eV 2) (eI 1))) (eI 1),eIx (eV 2) (eI 2)]) (eIx (eV 3) (eIx (eV 2) (eI 1))) (eI 1)) (Bm (AF E8 [eV 0,eV 1,eV 2])))))))
def Bf:=AS (AV 13 Fi)
def Ni:=AN (IP (tTp [tNm 3,tNm 4,tNm 5]) (eV 2)) (AN (Az 6 (Be [] 2 (eA (eV 3)) (tTp [tNm 0,tNm 1]) (eOp (o2 wGt) [eIx (eV 1) (eI 1),eI 0]) (eV 0))) (AN (Az 7 (AF AG [eV 0,eI 12])) (AN (xIf (eOr (eOp (o2 wLt) [eV 7,eI 2]) (eOp (o2 wEq) [eV 6,Ja []])) (AZ (BC [eC (.str "bring"),AF AG [eV 0,eIx (eV 1) (eI 0)],AF AG [eV 0,eIx (eV 1) (eI 1)],AF A8 [eV 0]])) BO) (AN (Az 8 (eIx (eV 6) (AF AG [eV 0,eOp (o1 Eu) [eV 6]]))) (AN (Az 9 (eOp (o2 CM) [eI 1,AF AG [eV 0,eOp (o2 lI) [eIx (eIx (eV 3) (eV 8)) (eI 1),eI 2000]]])) (AN (xIf (eOp (o2 wLt) [eV 7,eI 5]) (AN (Az 10 (Be [3,8] 1 (F1 (eV 6)) (tNm 2) (D7 (eOp (o2 wNe) [eV 2,eV 1]) (eOp (o2 wEq) [eIx (eIx (eV 0) (eV 2)) (eI 0),eIx (eIx (eV 0) (eV 1)) (eI 0)])) (eV 2))) (xIf (eOp (o2 wNe) [eV 10,Ja []]) (AZ (BC [eC (.str "pool"),eV 8,eIx (eV 10) (AF AG [eV 0,eOp (o1 Eu) [eV 10]])])) BO)) BO) (AN (xIf (D7 (eOp (o2 wLt) [eV 7,eI 8]) (eOp (o2 wGt) [eIx (eV 1) (eI 1),eI 1])) (AN (Az 11 (eOp (o2 Ox) [eOp (o2 CM) [eOp (o2 CM) [eIx (eIx (eV 3) (eV 8)) (eI 0),eI 1],AF AG [eV 0,eOp (o2 QL) [eIx (eV 1) (eI 1),eI 1]]],eIx (eV 1) (eI 1)])) (AN (Az 12 (Be [5] 1 (Ow [eI 10]) (tNm 1) (eOp (o2 (wIn true)) [eV 1,eV 0]) (eV 1))) (AN (xIf (D7 (eOp (o2 wEq) [eV 7,eI 7]) (eOp (o2 wNe) [eV 12,Ja []])) (AZ (BC [eC (.str "trade"),eIx (eV 12) (AF AG [eV 0,eOp (o1 Eu) [eV 12]]),eV 8,eV 9,eV 11,AF A8 [eV 0]])) BO) (AZ (BC [eC (.str "swap"),eV 8,eV 9,eV 11,AF A8 [eV 0]]))))) BO) (AN (xIf (eOp (o2 wEq) [eV 7,eI 8]) (AZ (BC [eC (.str "spoil"),eV 8,eV 9])) BO) (AN (xIf (D7 (eOp (o2 wEq) [eV 7,eI 9]) (eOp (o2 wGt) [eIx (eV 1) (eI 0),eI 1])) (AN (Az 13 (AF AG [eV 0,eIx (eV 1) (eI 0)])) (AZ (BC [eC (.str "sell"),eV 13,eOp (o2 Ox) [eOp (o2 CM) [eOp (o2 CM) [eV 13,eI 1],AF AG [eV 0,eOp (o2 QL) [eIx (eV 1) (eI 0),eI 1]]],eIx (eV 1) (eI 0)],AF FK [eV 0]]))) BO) (AZ (BC [eC (.str "throw"),eV 8,eV 9,AF DZ [eV 0,eOp (o2 CM) [eIx (eV 1) (eI 1),eI 1]]])))))))))))
def DX:=AS (AV 14 Ni)
def K1:=AN (Az 1 (AF CF [eV 0])) (AN (Az 2 (JZ [BC [Be [] 1 (F1 (eIx (eV 1) (eI 0))) (tNm 0) BI (eOp (o1 B7) [eV 0]),eOp (o1 B7) [eIx (eV 1) (eI 1)]]])) (AN (M8 (F1 (eIx (eV 0) (eI 2))) (tNm 3) (AN (Bm (AF Bf [eIx (eV 0) (eI 0),eV 1,eV 3])) (Bm (NH NV (eV 2) [BC [Be [] 1 (F1 (eIx (eV 1) (eI 0))) (tNm 0) BI (eOp (o1 B7) [eV 0]),eOp (o1 B7) [eIx (eV 1) (eI 1)]]])))) (AZ (eV 2))))
def Eh:=AS (AV 4 K1)
def MJ:=AN (Az 1 (AF G4 [eV 0])) (AZ (BC [eV 1,AF Gv [eV 0,eV 1]]))
def FR:=AS (AV 2 MJ)
def JW:=AZ (D7 (eOp (o2 wLt) [eV 1,eOp (o1 Eu) [eV 0]]) (eOp (o2 wGe) [eIx (eIx (eV 0) (eV 1)) (eI 1),eV 2]))
def Cd:=AS (AV 3 JW)
def B0:=AN (IP (tTp [tNm 2,tNm 3,tNm 4]) (eV 0)) (AN (xIf (eOp (o2 wEq) [eIx (eV 1) (eI 0),eC (.str "pool")]) (AN (Az 5 (D7 (AF Cd [eV 2,eIx (eV 1) (eI 1),eI 1]) (AF Cd [eV 2,eIx (eV 1) (eI 2),eI 1]))) (AZ (D7 (eV 5) (eOp (o2 wEq) [eIx (eIx (eV 2) (eIx (eV 1) (eI 1))) (eI 0),eIx (eIx (eV 2) (eIx (eV 1) (eI 2))) (eI 0)])))) BO) (AN (xIf (eOp (o2 (wIn false)) [eIx (eV 1) (eI 0),BC [eC (.str "swap"),eC (.str "trade")]]) (AN (IP (tTp [tNm 6,tNm 7,tNm 8,tNm 9]) (eOp (Il true false) [eV 1,eOp (o1 Ts) [eI 4]])) (AN (xIf (D7 (eOp (o2 wEq) [eIx (eV 1) (eI 0),eC (.str "trade")]) (eOp (o2 (wIn false)) [eIx (eV 1) (eI 1),eV 4])) (AZ (eC (.bl false))) BO) (AZ (D7 (AF Cd [eV 2,eV 6,eV 7]) (eOp (o2 wNe) [eIx (eIx (eV 2) (eV 6)) (eI 0),eV 8]))))) BO) (AN (xIf (eOp (o2 (wIn false)) [eIx (eV 1) (eI 0),BC [eC (.str "spoil"),eC (.str "throw")]]) (AZ (AF Cd [eV 2,eIx (eV 1) (eI 1),eIx (eV 1) (eI 2)])) BO) (AZ (eC (.bl true))))))
def BP:=AS (AV 10 B0)
def GD:=AZ (D7 (eOp (o2 wGe) [eV 1,eI 0]) (D7 (eOp (o2 wGt) [eV 2,eI 0]) (D7 (Qh (eI 0) (eV 3) (eIx (eV 0) (eI 1))) (eOp (o2 wGt) [eV 4,eI 0]))))
def Cv:=AS (AV 5 GD)
def Bk:=AN (Tv 2 3 (eIx (eV 1) (eI 0)) (eOp (Il true false) [eV 1,eI 1])) (AN (xIf (eOp (o2 wEq) [eV 2,eC (.str "bring")]) (AZ (D7 (eOp (o2 wLt) [eIx (eV 3) (eI 0),eIx (eV 0) (eI 0)]) (D7 (eOp (o2 wLt) [eIx (eV 3) (eI 1),eIx (eV 0) (eI 1)]) (eOp (o2 wGt) [eIx (eV 3) (eI 2),eI 0])))) BO) (AN (xIf (eOp (o2 wEq) [eV 2,eC (.str "pool")]) (AZ (eOp (o2 wNe) [eIx (eV 3) (eI 0),eIx (eV 3) (eI 1)])) BO) (AN (xIf (eOp (o2 (wIn false)) [eV 2,BC [eC (.str "swap"),eC (.str "trade")]]) (AN (IP (tTp [tNm 4,tNm 5,tNm 6,tNm 7]) (eOp (Il true false) [eV 3,eOp (o1 Ts) [eI 4]])) (AZ (AF Cv [eV 0,eV 4,eV 5,eV 6,eV 7]))) BO) (AN (xIf (eOp (o2 (wIn false)) [eV 2,BC [eC (.str "spoil"),eC (.str "throw")]]) (AZ (eOp (o2 wGt) [eIx (eV 3) (eI 1),eI 0])) BO) (AZ (D7 (eOp (o2 wLt) [eIx (eV 3) (eI 0),eIx (eV 0) (eI 0)]) (D7 (eOp (o2 wLt) [eIx (eV 3) (eI 1),eIx (eV 0) (eI 0)]) (eOp (o2 wNe) [eIx (eV 3) (eI 0),eIx (eV 3) (eI 1)]))))))))
def A7:=AS (AV 8 Bk)
def K0:=AN (IP (tTp [tNm 2,tNm 3,tNm 4]) (eV 0)) (AN (xIf (E7 (AF A7 [eV 2,eV 1])) (AZ (eC (.str "!deed"))) BO) (AN (Az 5 (AF CF [eV 0])) (AN (M8 (F1 (eV 4)) (tNm 6) (Bm (AF Bf [eV 2,eV 5,eV 6]))) (AN (xIf (E7 (AF BP [eV 5,eV 1])) (AZ (eC (.str "!done"))) BO) (AN (Az 7 (eOp (o1 Eu) [Be [] 1 (F1 (eOp (o2 CM) [eV 4,BC [eV 1]])) (tNm 0) (eOp (o2 wEq) [eIx (eV 0) (eI 0),eC (.str "throw")]) (eV 0)])) (AZ (eIx (Ja [eC (.str "ok"),eC (.str "!many")]) (eOp (o1 Wl) [eOr (eOp (o2 wEq) [eOp (o1 Eu) [eV 4],eI 20]) (eOp (o2 wGt) [eV 7,eI 3])]))))))))
def Cb:=AS (AV 8 K0)
def Ks:=AZ (eOp (o2 CM) [eOp (o1 Eu) [eIx (eV 0) (eI 1)],eOp (o1 Eu) [Be [] 1 (F1 (eIx (eV 0) (eI 2))) (tNm 0) (eOp (o2 (wIn false)) [eIx (eV 0) (eI 0),BC [eC (.str "bring"),eC (.str "pool"),eC (.str "swap"),eC (.str "trade")]]) (eV 0)]])
def Cm:=AS (AV 1 Ks)
def Fh:=AN (Bm (NH NV (Og "Leader" "earlier" (eV 0)) [Og "Leader" "kept" (eV 0)])) (YE "Leader" "kept" (eV 0) (eV 1))
def A5:=AS (AV 2 Fh)
def Im:=AZ (AF Bp [eV 1,eI 1])
def EM:=AS (AV 2 Im)
def Cj:=AZ (D7 (eOp (o2 QH) [eV 0,eC (.ty "tuple")]) (eOp (o2 wEq) [eOp (o1 Eu) [eV 0],eV 1]))
def Ah:=AS (AV 2 Cj)
def Ik:=AZ (D7 (AF Ah [eV 0,eV 1]) (eOp (o1 Ww) [Be [] 1 (F1 (eV 0)) (tNm 0) BI (AF Ac [eV 0,eI 1,eI 99])]))
def EU:=AS (AV 2 Ik)
def Ij:=AZ (AF EU [eV 1,eOp (o2 CM) [eIx (eV 0) (eI 1),eI 1]])
def EV:=AS (AV 2 Ij)
def JL:=AZ (AF Ac [eV 1,eI 0,eOp (o2 QL) [eIx (eV 0) (eI 1),eI 1]])
def DP:=AS (AV 2 JL)
def Ft:=AZ (AF Bp [eV 1,eI 0])
def CS:=AS (AV 2 Ft)
def F3:=AZ (AF Ac [eV 1,eI 0,eOp (o2 QL) [eIx (eV 0) (eI 0),eI 1]])
def CN:=AS (AV 2 F3)
def Jf:=AN (xIf (eOr (E7 (eOp (o2 QH) [eV 0,eC (.ty "tuple")])) (eOp (o2 wNe) [eOp (o1 Eu) [eV 0],eI 2])) (AZ (eC (.bl false))) BO) (AN (IP (tTp [tNm 1,tNm 2]) (eV 0)) (AZ (D7 (AF Cn [eV 1]) (D7 (AF Bp [eV 2,eI 1]) (eOp (o2 wEq) [AF BQ [eV 1,eV 2],eI 1])))))
def Ey:=AS (AV 3 Jf)
def Ku:=AZ (D7 (AF Ey [eV 0]) (SQ (eI 0) (eIx (eV 0) (eI 0)) (eIx (eV 0) (eI 1))))
def CZ:=AS (AV 1 Ku)
def GF:=AZ (D7 (AF CZ [eV 1]) (D7 (eOp (o2 wGt) [eIx (eV 1) (eI 0),eI 0]) (eOp (o2 wLe) [eIx (eV 1) (eI 1),eI 12])))
def Cw:=AS (AV 2 GF)
def FU:=AZ (AF Ac [eV 1,eI 0,eI 9])
def CC:=AS (AV 2 FU)
def Ew:Wp (Str×Fn):=[("partner",CN),("kind",DP),("load",CS),("number",CC),("pieces",EM),("worths",EV),("share",Cw)]
def Co:=jz Ew 3 1 [eV 0,eV 2]
def Al:=AS (AV 4 Co)
noncomputable def El:Wp (Str×D):=[("bring",.tup [.str "partner",.str "kind",.str "pieces"]),("pool",.tup [.str "load",.str "load"]),("swap",.tup [.str "load",.str "pieces",.str "kind",.str "pieces"]),("trade",.tup [.str "number",.str "load",.str "pieces",.str "kind",.str "pieces"]),("spoil",.tup [.str "load",.str "pieces"]),("throw",.tup [.str "load",.str "pieces",.str "worths"]),("sell",.tup [.str "partner",.str "partner",.str "share"])]
noncomputable def Bs:D:=.tup [.str "pool",.str "sell"]
def Li:=AN (xIf (eOr (E7 (eOp (o2 QH) [eV 1,eC (.ty "tuple")])) (eOp (o2 wEq) [eOp (o1 Eu) [eV 1],eI 0])) (AZ (eC (.bl false))) BO) (AN (Az 2 (eIx (eV 1) (eI 0))) (AN (xIf (eOr (E7 (eOp (o2 QH) [eV 2,eC (.ty "str")])) (eOp (o1 (NS true El)) [eV 2])) (AZ (eC (.bl false))) BO) (AN (Az 3 (eOp (o1 (gE El)) [eV 2])) (AN (xIf (eOp (o2 wNe) [eOp (o1 Eu) [eV 1],eOp (o2 CM) [eOp (o1 Eu) [eV 3],eI 1]]) (AZ (eC (.bl false))) BO) (AN (xIf (E7 (eOp (o1 Ww) [Be [0,1] 2 (eA (eV 3)) (tTp [tNm 2,tNm 3]) BI (AF Al [eV 0,eV 3,eIx (eV 1) (eOp (o2 CM) [eV 2,eI 1])])])) (AZ (eC (.bl false))) BO) (AZ (eOr (eOp (o2 (wIn true)) [eV 2,eC Bs]) (eOp (o2 wNe) [eIx (eV 1) (eI 1),eIx (eV 1) (eI 2)]))))))))
def A9:=AS (AV 4 Li)
noncomputable def Fj:D:=.int 20
noncomputable def E5:D:=.int 3
def GW:=AN (xIf (eOr (E7 (eOp (o2 QH) [eV 1,eC (.ty "tuple")])) (eOp (o2 wGt) [eOp (o1 Eu) [eV 1],eC Fj])) (AZ (eC (.bl false))) BO) (AN (xIf (E7 (eOp (o1 Ww) [Be [0] 1 (F1 (eV 1)) (tNm 1) BI (AF A9 [eV 0,eV 1])])) (AZ (eC (.bl false))) BO) (AZ (eOp (o2 wLe) [eOp (o1 Eu) [Be [] 1 (F1 (eV 1)) (tNm 0) (eOp (o2 wEq) [eIx (eV 0) (eI 0),eC (.str "throw")]) (eV 0)],eC E5])))
def BD:=AS (AV 2 GW)
def Ky:=AZ (AF Ac [eV 1,eI 0,eOp (o2 QL) [eOp (o1 Eu) [eIx (eV 0) (eI 2)],eI 1]])
def Dh:=AS (AV 2 Ky)
def IZ:=AZ (eOp (o2 CM) [eOp (o1 Eu) [eIx (eV 0) (eI 1)],eOp (o1 Eu) [Be [] 1 (F1 (eOp (Il false true) [eIx (eV 0) (eI 2),eV 1])) (tNm 0) (eOp (o2 (wIn false)) [eIx (eV 0) (eI 0),eC BS]) (eV 0)]])
def DB:=AS (AV 2 IZ)
def JR:=AN (Bm (AF AU [eV 0])) (AN (xIf (E7 (AF Dh [eV 0,eV 1])) Cp BO) (AN (xIf (eOp (o2 (wIn true)) [eIx (eIx (eIx (eV 0) (eI 2)) (eV 1)) (eI 0),eC BS]) (AZ (eC .non)) BO) (AZ (AF DB [eV 0,eV 1]))))
def EG:=AS (AV 2 JR)
def Jb:=AN (IP (tTp [tNm 2,tNm 3,tNm 4]) (Og "Leader" "kept" (eV 0))) (AN (xIf (E7 (AF A9 [eV 2,eV 1])) Cp BO) (AN (Az 5 (BC [eV 2,eV 3,eOp (o2 CM) [eV 4,BC [eV 1]]])) (AN (Bm (AF AU [eV 5])) (AN (xIf (E7 (AF BD [eV 2,eIx (eV 5) (eI 2)])) Cp BO) (AN (Bm (HQ "Leader" "turn_to" A5 (eV 0) [eV 5])) (AZ (AF EG [eV 5,eOp (o1 Eu) [eV 4]])))))))
def As:=AS (AV 6 Jb)
def Ct:=OO rNo (Az 1 (AF BG [eV 0])) (rIf (eOp (o2 (Wn true)) [eV 1,eC .non]) (Qf "NotDone" (eV 1)) rNo)
def Ak:=AS (OJ 2 Ct)
def Q3:Rx:=(OO (Ql Ak [eV 0]) (Bm (AF AU [eV 0])) (OO (rIf (E7 (AF Dh [eV 0,eV 1])) (MU "NoNumber" [eC (.str "no deed of the book has this place")]) rNo) (xIf (E7 (AF Dh [eV 0,eV 1])) Cp BO)
    rNo))
def JV:=AS (OJ 2 Q3)
def Jv:=OO rNo (IP (tTp [tNm 2,tNm 3,tNm 4]) (Og "Leader" "kept" (eV 0))) (OO (rIf (E7 (AF A9 [eV 2,eV 1])) (MU "NoDeed" [eC (.str "this is no deed of the train")]) rNo) (xIf (E7 (AF A9 [eV 2,eV 1])) Cp BO) (OO rNo (Az 5 (BC [eV 2,eV 3,eOp (o2 CM) [eV 4,BC [eV 1]]])) (OO (Ql Ak [eV 5]) (Bm (AF AU [eV 5])) (OO (rIf (E7 (AF BD [eV 2,eIx (eV 5) (eI 2)])) (MU "TooMany" [eC (.str "a book hasn't so many deeds or throws")]) rNo) (xIf (E7 (AF BD [eV 2,eIx (eV 5) (eI 2)])) Cp BO) (OO rNo (Bm (HQ "Leader" "turn_to" A5 (eV 0) [eV 5])) (Ql JV [eV 5,eOp (o1 Eu) [eV 4]]))))))
def A1:=AS (OJ 6 Jv)
def G8:=AN (Az 3 (AF Cb [eV 1,eV 2])) (AN (Az 4 (eC .non)) (AN (xIf (eOp (o2 (wIn false)) [eIx (eV 2) (eI 0),BC [eC (.str "bring"),eC (.str "pool"),eC (.str "swap"),eC (.str "trade")]]) (Az 4 (AF Cm [eV 1])) BO) (AN (Az 5 (lM (jj [((eC (.str "ok")),(BC [eC (.str "told"),eV 4])),((eC (.str "!done")),(BC [eC (.str "!done"),eOp (o1 Eu) [eIx (eV 1) (eI 2)]]))]) (eV 3) (BC [eV 3,eC .non]))) (AN (xIf (eOp (o2 wNe) [VI "told" "_law_deed_right" [0,2] (HQ "Leader" "do" As (eV 0) [eV 1]) (Sq "Leader" "do" A1 (eV 0) [eV 1]) 1 (gOr ["NoDeed","NotDone","TooMany","NoNext","NothingDone"] "NoDeed" (AZ (BC [eC (.str "!deed"),eC .non])) (gAs ["NoDeed","NotDone","TooMany","NoNext","NothingDone"] "NotDone" (λn=>.tup [.str "!done",.int n]) (gOr ["NoDeed","NotDone","TooMany","NoNext","NothingDone"] "TooMany" (AZ (BC [eC (.str "!many"),eC .non])) (gOr ["NoDeed","NotDone","TooMany","NoNext","NothingDone"] "NoNext" (AZ (BC [eC (.str "!next"),eC .non])) (gOr ["NoDeed","NotDone","TooMany","NoNext","NothingDone"] "NothingDone" (AZ (BC [eC (.str "!nothing"),eC .non])) gNo))))),eV 5]) (AZ (eC .non)) BO) (AN (xIf (eOp (o2 wEq) [eV 3,eC (.str "ok")]) (AZ (eOp (o2 CM) [eOp (Il false true) [eV 1,eI 2],BC [eOp (o2 CM) [eIx (eV 1) (eI 2),BC [eV 2]]]])) BO) (AZ (eV 1)))))))
def CJ:=AS (AV 6 G8)
def O2:=AN (Az 1 (BC [eI 0,eI 1])) (AN (M8 (F1 (eV 0)) (tNm 2) (Az 1 (AF BY [eV 1,eV 2]))) (AZ (eV 1)))
def GO:=AS (AV 3 O2)
def Kw:=AN (Az 3 (JZ [])) (AN (M8 (Ow [eIx (eIx (eV 0) (eI 0)) (eI 1)]) (tNm 4) (AN (Az 5 (Be [2,4] 1 (F1 (eV 1)) (tNm 2) (eOp (o2 wEq) [eIx (eV 2) (eI 0),eV 1]) (AF Ae [BC [eIx (eV 2) (eI 1),eI 1],eIx (eIx (eV 2) (eI 2)) (eV 0)]))) (Bm (NH NV (eV 3) [AF GO [eV 5]])))) (AZ (eOp (o1 B7) [eV 3])))
def Dc:=AS (AV 6 Kw)
def Hr:=AZ (Og "Leader" "kept" (eV 0))
def Ck:=AS (AV 1 Hr)
def EY:=xIf (E7 (AF CN [eIx (eV 0) (eI 0),eV 1])) Cp BO
def Bg:=AS (AV 2 EY)
def GH:=AN (Az 3 (fE (o2 B5) [Ja [eC Dt],eV 0])) (AN (M8 (c7 (eV 1) (eV 2)) (tTp [tTp [tNm 5,tNm 6],tNm 4]) (Mt (AF Ez [eIx (eV 3) (eV 5),AF FN [BC [eV 6,eI 1],eV 4]]) (eV 3) (eV 5))) (AZ (eOp (o1 B7) [eV 3])))
def B3:=AS (AV 7 GH)
def Hg:=AN (IP (tTp [tNm 2,tNm 3]) (eOp (Il false true) [eIx (eV 0) (eI 0),eI 2])) (AN (IP (tTp [tNm 4,tNm 5,tNm 6]) (AF Fo [eV 0,eV 1])) (AZ (Be [3,4,5] 1 (Ow [eV 2]) (tNm 3) BI (AF B3 [eV 0,eV 1,Be [3] 1 (F1 (eV 2)) (tNm 1) BI (eIx (eV 1) (eV 0))]))))
def Du:=AS (AV 7 Hg)
def J0:=AN (Bm (AF AU [eV 0])) (AN (Bm (AF Br [eV 0,eV 1])) (AN (Bm (AF Bg [eV 0,eV 2])) (AZ (eIx (AF Du [eV 0,eV 1]) (eV 2)))))
def Dy:=AS (AV 3 J0)
def GL:=AZ (AF Dy [Og "Leader" "kept" (eV 0),eOp (o1 Eu) [eIx (Og "Leader" "kept" (eV 0)) (eI 2)],eV 1])
def BV:=AS (AV 2 GL)
def Ml:=AN (xIf (eOp (o2 wNe) [HQ "Leader" "book" Ck (eV 0) [],eV 1]) (AZ (eC (.bl false))) BO) (AN (Az 2 (eIx (eIx (AF Eh [eV 1]) (eOp (o1 Ts) [eI 1])) (eI 0))) (AN (Az 3 (Be [0] 1 (Ow [eIx (eIx (eV 1) (eI 0)) (eI 0)]) (tNm 1) BI (HQ "Leader" "theirs" BV (eV 0) [eV 1]))) (AZ (eOp (o2 wEq) [eV 3,Be [1,2] 1 (Ow [eIx (eIx (eV 1) (eI 0)) (eI 0)]) (tNm 2) BI (AF Dc [eV 0,eV 1,eV 2])]))))
def DM:=AS (AV 4 Ml)
def ID:=AN (IP (tTp [tNm 2,tNm 3,tNm 4]) (eV 1)) (AN (Az 5 (AF CF [eV 1])) (AN (M8 (F1 (eV 4)) (tNm 6) (Bm (AF Bf [eV 2,eV 5,eV 6]))) (AN (Az 6 (AF DX [eV 0,eV 2,eV 5])) (AN (xIf (eOp (o2 wEq) [AF AG [eV 0,eI 4],eI 0]) (Az 6 (eOp (o2 CM) [eOp (Il false true) [eV 6,eI 1],eOp (o1 B7) [Be [0] 1 (F1 (eOp (Il true false) [eV 6,eI 1])) (tNm 1) BI (eIf (eOp (o2 QH) [eV 1,eC (.ty "int")]) (AF AG [eV 0,eI 7]) (eV 1))]])) BO) (AZ (eV 6))))))
def Bt:=AS (AV 7 ID)
def PL:=AN (Az 1 (eC Dt)) (AN (M8 (F1 (eV 0)) (tNm 2) (Az 1 (AF Ez [eV 1,eV 2]))) (AZ (eV 1)))
def Hj:=AS (AV 3 PL)
def Ic:=AN (xIf (E7 (AF Ah [eV 1,eV 0])) (AZ (eC (.bl false))) BO) (AZ (D7 (eOp (o1 Ww) [Be [] 1 (F1 (eV 1)) (tNm 0) BI (AF CZ [eV 0])]) (eOp (o2 wEq) [AF Hj [eV 1],eC OW])))
def C8:=AS (AV 2 Ic)
def Ln:=AN (xIf (E7 (AF Ah [eV 1,eI 3])) (AZ (eC (.bl false))) BO) (AN (IP (tTp [tNm 2,tNm 3,tNm 4]) (eV 1)) (AZ (D7 (AF DP [eV 0,eV 2]) (D7 (AF Bp [eV 3,eI 0]) (AF C8 [eIx (eV 0) (eI 0),eV 4])))))
def D9:=AS (AV 5 Ln)
noncomputable def Eb:D:=.int 4
def Ji:=AN (xIf (eOr (E7 (eOp (o2 QH) [eV 1,eC (.ty "tuple")])) (eOp (o2 wGt) [eOp (o1 Eu) [eV 1],eC Eb])) (AZ (eC (.bl false))) BO) (AZ (eOp (o1 Ww) [Be [0] 1 (F1 (eV 1)) (tNm 1) BI (D7 (AF D9 [eV 0,eV 1]) (eOp (o2 wGt) [eIx (eV 1) (eI 1),eI 0]))]))
def Cq:=AS (AV 2 Ji)
def K5:=AN (xIf (E7 (AF Ah [eV 0,eI 6])) (AZ (eC (.bl false))) BO) (AN (IP (tTp [tNm 1,tNm 2,tNm 3,tNm 4,tNm 5,tNm 6]) (eV 0)) (AN (xIf (E7 (D7 (AF Ac [eV 1,eI 1,eI 4]) (D7 (AF Ac [eV 2,eI 1,eI 5]) (AF Ac [eV 3,eI 1,eI 20])))) (AZ (eC (.bl false))) BO) (AZ (D7 (AF C8 [eV 1,eV 4]) (D7 (AF Ac [eV 5,eI 0,eI 9]) (AF Ac [eV 6,eI 0,eI 9]))))))
def DY:=AS (AV 7 K5)
def Ib:=AN (xIf (E7 (AF DY [eV 1])) Cp BO) (AN (xIf (E7 (AF Cq [eV 1,eV 2])) Cp BO) (AN (YE "Leader" "kept" (eV 0) (BC [eV 1,eV 2,BC []])) (YE "Leader" "earlier" (eV 0) (JZ []))))
def Bo:=AS (AV 3 Ib)
def Vi:=AN (Az 1 (AF Hk [AF C0 [eV 0,eI 0]])) (AN (IP (tTp [tNm 2,tNm 3]) (AF FR [eV 1])) (AN (Az 4 (Qm "Leader" Bo [eV 2,eV 3])) (AN (Az 5 (BC [eV 2,eV 3,BC []])) (AN (M8 (Ow [eIx (Ja [eI 6,eI 12,eI 26]) (AF AG [eV 1,eI 3])]) (tNm 6) (AN (Az 5 (AF CJ [eV 4,eV 5,AF Bt [eV 1,eV 5]])) (AN (xIf (eOp (o2 (Wn false)) [eV 5,eC .non]) (AZ (eC (.bl false))) BO) (xIf (D7 (eOp (o2 wEq) [eOp (o2 Ox) [eV 6,eI 4],eI 0]) (E7 (AF DM [eV 4,eV 5]))) (AZ (eC (.bl false))) BO)))) (AZ (AF DM [eV 4,eV 5]))))))
def OR:=AS (AV 7 Vi)
end
section
noncomputable def top(i:Nat):vI:=zl.main.body.getD i (.Pass ⟨0,0,0,0⟩)
noncomputable def pL(sc osc:wY):wY:={sc with names:=sc.names.map λ(n,k)=>if(k== .free && osc.kind== .function && osc.names.lookup n==Gc .cell)then(n,.cell)else(n,k)}
abbrev IE:=top 4
abbrev JI:=top 5
abbrev Gz:=top 6
abbrev C3:=top 7
abbrev GX:=top 8
abbrev KD:=top 9
abbrev N0:=top 10
abbrev OE:=top 11
abbrev Mp:=top 12
abbrev L7:=top 13
abbrev Mc:=top 14
abbrev FT:=top 33
abbrev Fx:=top 34
abbrev C6:=top 35
abbrev HU:=top 36
abbrev F5:=top 37
abbrev JM:=top 38
abbrev Dx:=top 39
abbrev DN:=top 40
abbrev F2:=top 41
abbrev C7:=top 42
abbrev F4:=top 43
abbrev EK:=top 44
abbrev Gp:=top 46
abbrev JN:=top 47
abbrev EL:=top 48
abbrev Dm:=top 49
abbrev CD:=top 50
abbrev F0:=top 51
abbrev Hv:=top 52
abbrev Hz:=top 53
abbrev GI:=top 54
abbrev Ek:=top 55
abbrev Fc:=top 56
abbrev By:=top 57
abbrev Gn:=top 59
abbrev FP:=top 60
abbrev B4:=top 61
abbrev C9:=top 62
abbrev HP:=top 63
abbrev C4:=top 64
abbrev CY:=top 65
abbrev Gg:=top 66
abbrev DC:=top 68
abbrev CH:=top 69
abbrev FQ:=top 70
abbrev CI:=top 71
abbrev FW:=top 72
abbrev EC:=top 73
abbrev FJ:=top 74
abbrev D8:=top 75
abbrev Bw:=top 76
abbrev Ee:=top 77
abbrev EJ:=top 78
abbrev BH:=top 79
abbrev Ga:=top 80
abbrev Bn:=inClass (top 87) 0
abbrev A6:=inClass (top 87) 1
abbrev Bj:=inClass (top 87) 2
abbrev Ba:=inClass (top 87) 5
abbrev BA:=inClass (top 87) 6
abbrev MP:=top 89
abbrev Gh:=top 90
abbrev KU:=top 91
abbrev Hd:=top 92
abbrev J9:=top 93
abbrev DQ:=top 94
abbrev Iv:=top 95
abbrev Hn:=top 96
abbrev JA:=top 97
abbrev JG:=top 98
abbrev EH:=top 99
abbrev G3:=top 100
abbrev Fb:=top 101
abbrev Kp:=top 102
abbrev JH:=top 103
abbrev IF:=top 104
abbrev GJ:=top 105
abbrev Kf:=top 106
abbrev JK:=top 107
abbrev Kj:=top 108
abbrev KO:=top 109
abbrev Ju:=top 110
abbrev Iz:=top 111
abbrev MG:=top 112
abbrev Di:=top 113
abbrev Ej:=top 114
abbrev Bb:=top 116
abbrev Iq:=top 117
abbrev EW:=top 118
abbrev Cs:=top 119
abbrev Cf:=top 120
abbrev Ci:=top 121
abbrev MK:=top 122
abbrev Ec:=top 123
abbrev CV:=top 124
abbrev MN:=top 125
abbrev IG:=top 115
def MZ:Aj ["_law_call","e"] ["_law_call"] (AB IG):=scM
abbrev ER:=j0 (top 25) 0
def Lk:Aj sAt sAt (AB ER):=scM
def Kk{P:vb}{w:wH}{K:W1}{mg:Str->uS uY}{base:vt}(r:XiR K mg "NotDone" "TrailError" "NotDone.__init__" ER):XiF P w K mg base "NotDone":=
 jD r Lk (λf fd F=>F.binds λ_ _ _ _ _ _ us hl=>by obtain⟨a,b,rfl⟩:=jG hl;rfl) λC TE fI D hB cdv A outer s H E=>N1 (Uc (Yi D hB rfl rfl (.inl rfl) (.inl rfl) (by decide) (by decide) (by decide) rfl)) (KQ (ny D rfl (.inl rfl) (.inl rfl) rfl))
structure Bts(mg:Str->uS uY):Prop where
 abs:mg "abs"=none
 all:mg "all"=none
 bool:mg "bool"=none
 enumerate:mg "enumerate"=none
 int:mg "int"=none
 isi:mg "isinstance"=none
 len:mg "len"=none
 list:mg "list"=none
 min:mg "min"=none
 range:mg "range"=none
 sorted:mg "sorted"=none
 str:mg "str"=none
 sum:mg "sum"=none
 tuple:mg "tuple"=none
 zip:mg "zip"=none
structure All(w:wH)(K:W1)(mg:Str->uS uY):Prop where
 bt:Bts mg
 iN:QJ K mg "ALL" OW
 R8:QJ K mg "MAKERS" BS
 Kz:QJ K mg "MOST_DEEDS" Fj
 K8:QJ K mg "MOST_FIRST" Eb
 Jt:QJ K mg "MOST_THROWS" E5
 Pw:QJ K mg "NOTHING" Dt
 Jp:QJ K mg "UNLIKE" Bs
 KZ:i9 K w mg "FORMS" El
 Qp:mL w K mg "PARTS" [("partner","is_partner"),("kind","is_kind"),("load","is_load_number"),("number","is_trade_number"),("pieces","are_pieces"),("worths","are_worths"),("share","is_sold_share")]
 J7:XcD K mg "NoDeed"
 NM:XcD K mg "NoNumber"
 HV:XcD K mg "TooMany"
 Jz:XiR K mg "NotDone" "TrailError" "NotDone.__init__" ER
 J3:XmD K mg ["NoDeed","NotDone","TooMany","NoNext","NothingDone"] "NoDeed"
 Jq:XmD K mg ["NoDeed","NotDone","TooMany","NoNext","NothingDone"] "NoNext"
 HM:XmD K mg ["NoDeed","NotDone","TooMany","NoNext","NothingDone"] "NotDone"
 D5:XmD K mg ["NoDeed","NotDone","TooMany","NoNext","NothingDone"] "NothingDone"
 HW:XmD K mg ["NoDeed","NotDone","TooMany","NoNext","NothingDone"] "TooMany"
 Ao:ClD K "Leader" ["kept","earlier"]
 Bn:MkS K mg "Leader" "Leader.__init__" Bn
 A6:MeS K "Leader" "turn_to" "Leader.turn_to" A6
 Bj:MeS K "Leader" "do" "Leader.do" Bj
 Ba:MeS K "Leader" "book" "Leader.book" Ba
 BA:MeS K "Leader" "theirs" "Leader.theirs" BA
 IE:St.Src K mg "is_whole" IE
 JI:St.Src K mg "is_from" JI
 Gz:St.Src K mg "is_within" Gz
 C3:St.Src K mg "greatest_divisor" C3
 GX:St.Src K mg "is_amount" GX
 KD:St.Src K mg "lowest" KD
 N0:St.Src K mg "plus" N0
 OE:St.Src K mg "less" OE
 Mp:St.Src K mg "times" Mp
 L7:St.Src K mg "mixed" L7
 Mc:St.Src K mg "total" Mc
 FT:St.Src K mg "is_tuple_of" FT
 Fx:St.Src K mg "is_share" Fx
 C6:St.Src K mg "are_owners" C6
 HU:St.Src K mg "is_train" HU
 F5:St.Src K mg "is_partner" F5
 JM:St.Src K mg "is_kind" JM
 Dx:St.Src K mg "is_load_number" Dx
 DN:St.Src K mg "is_trade_number" DN
 F2:St.Src K mg "are_pieces" F2
 C7:St.Src K mg "are_values" C7
 F4:St.Src K mg "are_worths" F4
 EK:St.Src K mg "is_sold_share" EK
 Gp:St.Src K mg "is_part" Gp
 JN:St.Src K mg "is_load" JN
 EL:St.Src K mg "is_deed" EL
 Dm:St.Src K mg "are_first" Dm
 CD:St.Src K mg "are_deeds" CD
 F0:St.Src K mg "has_pieces" F0
 Hv:St.Src K mg "can_pool" Hv
 Hz:St.Src K mg "can_swap" Hz
 GI:St.Src K mg "can_do" GI
 Ek:St.Src K mg "held_without" Ek
 Fc:St.Src K mg "held_behind" Fc
 By:St.Src K mg "held_at_first" By
 Gn:St.Src K mg "made_from" Gn
 FP:St.Src K mg "first_wrong" FP
 B4:St.Src K mg "refuse_undone" B4
 C9:St.Src K mg "many_loads" C9
 HP:St.Src K mg "is_place" HP
 C4:St.Src K mg "refuse_no_number" C4
 CY:St.Src K mg "refuse_no_partner" CY
 Gg:St.Src K mg "made_by" Gg
 DC:St.Src K mg "all_to_one" DC
 CH:St.Src K mg "mixed_shares" CH
 FQ:St.Src K mg "made_shares" FQ
 CI:St.Src K mg "worth_of_all" CI
 FW:St.Src K mg "part_thrown" FW
 EC:St.Src K mg "thrown_shares" EC
 FJ:St.Src K mg "sold_shares" FJ
 D8:St.Src K mg "shares_behind" D8
 Bw:St.Src K mg "owners_behind" Bw
 Ee:St.Src K mg "state_by" Ee
 EJ:St.Src K mg "sums_by_kinds" EJ
 BH:St.Src K mg "theirs_told" BH
 Ga:St.Src K mg "theirs_by" Ga
 MP:St.Src K mg "_law_pen" MP
 Gh:St.Src K mg "_law_cell_at" Gh
 KU:St.Src K mg "_law_draw" KU
 Hd:St.Src K mg "_law_common" Hd
 J9:St.Src K mg "_law_made" J9
 DQ:St.Src K mg "_law_whole" DQ
 Iv:St.Src K mg "_law_train" Iv
 Hn:St.Src K mg "_law_pieces" Hn
 JA:St.Src K mg "_law_first" JA
 JG:St.Src K mg "_law_begin" JG
 EH:St.Src K mg "_law_is_swapping" EH
 G3:St.Src K mg "_law_is_deed" G3
 Fb:St.Src K mg "_law_begun" Fb
 Kp:St.Src K mg "_law_plus" Kp
 JH:St.Src K mg "_law_times" JH
 IF:St.Src K mg "_law_pooled" IF
 GJ:St.Src K mg "_law_cost" GJ
 Kf:St.Src K mg "_law_less" Kf
 JK:St.Src K mg "_law_borne" JK
 Kj:St.Src K mg "_law_sold" Kj
 KO:St.Src K mg "_law_turn" KO
 Ju:St.Src K mg "_law_do" Ju
 Iz:St.Src K mg "_law_there" Iz
 MG:St.Src K mg "_law_can" MG
 Di:St.Src K mg "_law_due_of" Di
 Ej:St.Src K mg "_law_number" Ej
 Bb:St.Src K mg "_law_deed_right" Bb
 Iq:St.Src K mg "_law_share" Iq
 EW:St.Src K mg "_law_worths" EW
 Cs:St.Src K mg "_law_deed" Cs
 Cf:St.Src K mg "_law_some_deed" Cf
 Ci:St.Src K mg "_law_states" Ci
 MK:St.Src K mg "_law_sum" MK
 Ec:St.Src K mg "_law_theirs" Ec
 CV:St.Src K mg "_law_is_so" CV
 MN:St.Src K mg "law" MN
 IG:St.Src K mg "_law_said" IG
end
section
local macro_rules| `(tactic|walk_at $s)=>do
 let i (w:yE):Lean.Term:=AA8 w.toName
 let t (w:yE):Lean.MacroM Lean.Term:=do
  match w with
  | "?"=> `(?_)
  | "_"=> `(_)
  | "A"=> `(by assumption)
  | "B"=> `(by walk_at "b")
  | "D"=> `(by decide)
  | "K"=> `(λ_ _ _=>⟨?_,?_,?_⟩)
  | "M"=> `(Cg.mono (by assumption) (by decide))
  | "F"=> `(Ur _)
  |_=>match w.splitOn "/" with
   | [f,n]=>pure (AAf (i f) (Array.replicate n.length (<- `(?_))))
   |_=>pure (i w)
 let r (a:Wp yE):Lean.MacroM (Lean.TSyntax `tactic):=do `(tactic|refine $(AAf (i a.head!) (<-a.tail!.mapM t).toArray))
 let g (s:yE):Lean.MacroM (Lean.TSyntax `tactic):=do
  (s.splitOn ";").foldrM (λx z=>do
    let a:=x.splitOn " "
    let b<-if a.head!== "%" then `(tactic|with_reducible $(<-r a.tail!):tactic)else r a
    `(tactic|first| $b:tactic| $z:tactic)) (<- `(tactic|assumption))
 let ws:=s.getString.splitOn " "
 match ws.head! with
 | "b"=>g "Bts.abs A;Bts.all A;Bts.bool A;Bts.enumerate A;Bts.int A;Bts.isi A;Bts.len A;Bts.list A;Bts.min A;Bts.range A;Bts.sorted A;Bts.str A;Bts.sum A;Bts.tuple A;Bts.zip A;% boot_abs;% boot_all;% boot_bool;% boot_enumerate;% boot_int;% boot_isinstance;% boot_len;% boot_list;% boot_min;% boot_range;% boot_sorted;% boot_str;% boot_sum;% boot_tuple;% boot_zip"
 | "d"=>do
   let z<-("uC:AD ? ?;AI|gDE:AH _;BR;DV;Fd Mq ? ?;deM A A ?;Po ? ? ?;DH ? rfl B B ?;Ug ? rfl B B ?;Dv ?;VD ?;Qx _ _ _ rfl A ? K;O0 ? ? ?;jM ? ?;Vf ?;pR ? ?;Jk;Qt;dM A rfl;kX rfl B B;sF ? ? ?;qS ?;kW PySem.F.slot_list_append PySem.F.type_list_append dJ ? ?;kW PySem.F.slot_list_extend PySem.F.type_list_extend oj ? ?;pv ? ?;aV ? ?;nU ? ? ?;pQ ? ? ?|uM:Aq ?;Aa ? ?;CO|gDS:CQ ?;Ep _ ? A;KY ?;HF ? ? ?;To _ _ _ rfl A rfl rfl A ? K;RU ? ?;lh ? ? ?;ZC PassesOwn.never rfl ? ? ?;qa rfl A rfl rfl D rfl rfl ? ?;IQ;lY F PassesOwn.never ? ?|gDT:IX ? ? ?;Fp ?;DW.dt jg/??;DW.dt j6/??;Fy ?|gDG:HI _ A;U5 rfl ?|uH:% JT;% NQ ?;% mJ;% pd;% gw;% dO;% Q7 ?;% kI;% lX;% qi;% qH;% qK;% mn;% WG;% YV|qQ:% Dw;% aX;% fU rfl;% P7;% UI;% ff;% eM;% U6 rfl;% fY rfl;% Zm".splitOn "|").foldrM (λx z=>do
    let a:=x.splitOn ":"
    `(tactic|first|((with_reducible refine $(i a.head!) ?_); $(<-g a.tail!.head!):tactic)| $z:tactic)) (<-g "Cu ? ?;Le;Qa;cm ?;Yt ?;QQ rfl B ?;qG rfl B ? ?;iy rfl B ?;cg;jg ? ?;aO ?;j6 ? ?;Y7 ?;VU;Mg ?;Gq ? ? ?;bJ ?;cc ? ? ?;U3 A M rfl ?;RC rfl A rfl ?")
   let y:Lean.TSyntax `tactic<-ws.tail!.foldrM (λw z=>do `(tactic|(have:= $(if w.startsWith "T." then i w else AAf (i w) #[i "P",i "base",i "bm",i "T"]); $z:tactic))) (<- `(tactic|repeat' $z:tactic))
   pure y
 |_=>Lean.Macro.throwUnsupported
variable(P:vb){w:wH}{K:W1}{mg:Str->uS uY}(base:vt)(bm:BmB mg base)(T:All w K mg)
include bm T
theorem Zg:St.Dfn P w K mg base "is_whole" 1 ["thing"] (spD K 1 Cn):=dfW (N:=["thing"]) 0 T.IE scM λ_ _ _=>by
 walk_at "d T.bt"
theorem bP:St.Dfn P w K mg base "is_from" 2 ["thing","low"] (spD K 2 Bp):=dfW (N:=["thing","low"]) 1 T.JI scM λ_ _ _=>by
 walk_at "d Zg"
theorem Xu:St.Dfn P w K mg base "is_within" 3 ["thing","low","high"] (spD K 3 Ac):=dfW (N:=["thing","low","high"]) 2 T.Gz scM λ_ _ _=>by
 walk_at "d bP"
theorem QK:St.Dfn P w K mg base "greatest_divisor" 1 ["one","other"] (spD K 2 BQ):=dfW (N:=["one","other"]) 0 T.C3 scM λ_ _ _=>by
 walk_at "d T.bt"
theorem Gu:St.Dfn P w K mg base "is_amount" 3 ["thing"] (spD K 1 Ey):=dfW (N:=["thing","top","bottom"]) 2 T.GX scM λ_ _ _=>by
 walk_at "d T.bt Zg bP QK"
theorem eT:St.Dfn P w K mg base "lowest" 2 ["top","bottom"] (spD K 2 Cr):=dfW (N:=["top","bottom","divisor"]) 1 T.KD scM λ_ _ _=>by
 walk_at "d QK"
theorem lO:St.Dfn P w K mg base "plus" 3 ["one","other"] (spD K 2 Ez):=dfW (N:=["one","other"]) 2 T.N0 scM λ_ _ _=>by
 walk_at "d eT"
theorem mB:St.Dfn P w K mg base "less" 3 ["one","other"] (spD K 2 Jr):=dfW (N:=["one","other"]) 2 T.OE scM λ_ _ _=>by
 walk_at "d eT"
theorem gZ:St.Dfn P w K mg base "times" 3 ["one","other"] (spD K 2 FN):=dfW (N:=["one","other"]) 2 T.Mp scM λ_ _ _=>by
 walk_at "d eT"
theorem gL:St.Dfn P w K mg base "mixed" 3 ["one","weight","other","more"] (spD K 4 HN):=dfW (N:=["one","weight","other","more","top"]) 2 T.L7 scM λ_ _ _=>by
 walk_at "d eT"
theorem fX:St.Dfn P w K mg base "total" 4 ["amounts"] (spD K 1 Hj):=dfW (N:=["amounts","together","amount"]) 3 T.Mc scM λ_ _ _=>by
 walk_at "d T.Pw lO"
theorem VM:St.Dfn P w K mg base "is_tuple_of" 1 ["thing","many"] (spD K 2 Ah):=dfW (N:=["thing","many"]) 0 T.FT scM λ_ _ _=>by
 walk_at "d T.bt"
omit T bm in
theorem Oe:Aj ["thing"] ["thing"] (AB Fx):=scM
theorem Y5:St.Dfn P w K mg base "is_share" 4 ["thing"] (spD K 1 CZ):=by
 have Gu:=Gu P base bm T
 refine dfM 3 T.Fx Oe λhr hu=>?_
 exact(Aq (CQ (jM (deM Gu hr (AD (AH 0) AI)) (Vf (aF BR (Fd Mq (AH 0) BR) (Fd Mq (AH 0) BR))))))
theorem Wt:St.Dfn P w K mg base "are_owners" 5 ["partners","thing"] (spD K 2 C8):=dfW (N:=["partners","thing"]) 4 T.C6 scM λ_ _ _=>by
 have:AO ["partners","thing"] (AB C6) ["share"] (ixC [] 1) (IU C6 0):=csM
 have:(["share"]:Wp Str).Nodup:=by decide+kernel
 walk_at "d T.bt T.iN fX VM Y5"
theorem HJ:St.Dfn P w K mg base "is_train" 6 ["thing"] (spD K 1 DY):=dfW (N:=["thing","partners","kinds","beasts","holders","hire","part"]) 5 T.HU scM λ_ _ _=>by
 walk_at "d Xu VM Wt"
theorem NI:St.Dfn P w K mg base "is_partner" 4 ["train","thing"] (spD K 2 CN):=dfW (N:=["train","thing"]) 3 T.F5 scM λ_ _ _=>by
 walk_at "d Xu"
theorem Q4:St.Dfn P w K mg base "is_kind" 4 ["train","thing"] (spD K 2 DP):=dfW (N:=["train","thing"]) 3 T.JM scM λ_ _ _=>by
 walk_at "d Xu"
theorem Jl:St.Dfn P w K mg base "is_load_number" 3 ["train","thing"] (spD K 2 CS):=dfW (N:=["train","thing"]) 2 T.Dx scM λ_ _ _=>by
 walk_at "d bP"
theorem Ip:St.Dfn P w K mg base "is_trade_number" 4 ["train","thing"] (spD K 2 CC):=dfW (N:=["train","thing"]) 3 T.DN scM λ_ _ _=>by
 walk_at "d Xu"
theorem M9:St.Dfn P w K mg base "are_pieces" 3 ["train","thing"] (spD K 2 EM):=dfW (N:=["train","thing"]) 2 T.F2 scM λ_ _ _=>by
 walk_at "d bP"
theorem Wm:St.Dfn P w K mg base "are_values" 4 ["thing","many"] (spD K 2 EU):=dfW (N:=["thing","many"]) 3 T.C7 scM λ_ _ _=>by
 have:AO ["thing","many"] (AB C7) ["value"] (ixC [] 1) (IU C7 0):=csM
 have:(["value"]:Wp Str).Nodup:=by decide+kernel
 walk_at "d T.bt Xu VM"
theorem My:St.Dfn P w K mg base "are_worths" 5 ["train","thing"] (spD K 2 EV):=dfW (N:=["train","thing"]) 4 T.F4 scM λ_ _ _=>by
 walk_at "d Wm"
theorem KA:St.Dfn P w K mg base "is_sold_share" 5 ["train","thing"] (spD K 2 Cw):=dfW (N:=["train","thing"]) 4 T.EK scM λ_ _ _=>by
 walk_at "d Y5"
omit T bm in
theorem K3:Aj ["train","part","thing","holds"] ["train","part","thing"] (AB Gp):=scM
theorem YD:pO P w K mg base "PARTS" 5 2 Ew:=ar T.Qp (.cons ⟨rfl,_,_,(by decide),NI P base bm T⟩ (.cons ⟨rfl,_,_,(by decide),Q4 P base bm T⟩ (.cons ⟨rfl,_,_,(by decide),Jl P base bm T⟩ (.cons ⟨rfl,_,_,(by decide),Ip P base bm T⟩ (.cons ⟨rfl,_,_,(by decide),M9 P base bm T⟩ (.cons ⟨rfl,_,_,(by decide),My P base bm T⟩ (.cons ⟨rfl,_,_,(by decide),KA P base bm T⟩ Paired.nil)))))))
theorem Iy:St.Dfn P w K mg base "is_part" 6 ["train","part","thing"] (spD K 3 Al):=by
 have T_PARTS:=YD P base bm T
 refine dfM 5 T.Gp K3 λhr hu=>?_
 exact(aJ 3 1 T_PARTS (hr.mono (by decide)) (AD (AH 0) (AD (AH 2) AI)) rfl K3.nd)
theorem di:St.Dfn P w K mg base "is_load" 6 ["train","thing"] (spD K 2 D9):=dfW (N:=["train","thing","kind","pieces","owners"]) 5 T.JN scM λ_ _ _=>by
 walk_at "d bP VM Wt Q4"
omit T bm in
theorem HK:Aj ["train","thing","word","form"] ["train","thing"] (AB EL):=scM
omit T bm in
theorem Mu:AO ["train","thing","word","form"] (AB EL) ["train","thing","at","part"] (ixC [0,1] 2) (IU EL 0):=csM
omit T bm in
theorem Ia:(["train","thing","at","part"]:Wp Str).Nodup:=by decide+kernel
theorem DL:St.Dfn P w K mg base "is_deed" 7 ["train","thing"] (spD K 2 A9):=by
 have B:=T.bt
 have Jp:=T.Jp
 have KZ:=T.KZ
 have Iy:=Iy P base bm T
 refine dfM 6 T.EL HK λhr hu=>?_
 exact(Aa (HF (DW.dt (j6 (Fp (Fy (DH P7 rfl B.isi boot_isinstance (AD (AH 1) (AD (kX rfl B.tuple boot_tuple) AI))))) (Y7 (IX (NQ hu) (DH Dw rfl B.len zh (AD (AH 1) AI)) BR)))) (Aq (CQ Qt)) CO)
      (Aa (Ep 2 (Fd Mq (AH 1) BR) HK.nd)
      (Aa (HF (DW.dt (j6 (Fp (Fy (DH P7 rfl B.isi boot_isinstance (AD (AH 2) (AD (kX rfl B.str boot_str) AI))))) (Y7 (Q2 KZ rfl (AH 2))))) (Aq (CQ Qt)) CO)
      (Aa (Ep 3 (ja KZ rfl (AH 2)) HK.nd)
      (Aa (HF (IX (Q7 hu) (DH Dw rfl B.len zh (AD (AH 1) AI)) (Po JT (DH Dw rfl B.len zh (AD (AH 3) AI)) BR)) (Aq (CQ Qt)) CO)
      (Aa (HF (Fp (Fy (DH (U6 rfl) rfl B.all boot_all (AD (Qx [0,1] 2 ["train","thing","at","part"] rfl Mu (iy rfl B.enumerate (AH 3)) (λs H fp=>⟨U5 rfl (Cu (HI 2 Ia) (Cu (HI 3 Ia) Le)),Qa,deM Iy hr (AD (AH 0) (AD (AH 3) (AD (Fd Mq (AH 1) (Po JT (AH 2) BR)) AI)))⟩)) AI)))) (Aq (CQ Qt)) CO)
      (Aq (CQ (fV (O0 WG (AH 2) (dM Jp rfl)) (Vf (O0 (Q7 hu) (Fd Mq (AH 1) BR) (Fd Mq (AH 1) BR))))))))))))
theorem GY:St.Dfn P w K mg base "are_first" 7 ["train","thing"] (spD K 2 Cq):=dfW (N:=["train","thing"]) 6 T.Dm scM λ_ _ _=>by
 have:AO ["train","thing"] (AB Dm) ["train","load"] (ixC [0] 1) (IU Dm 0):=csM
 have:(["train","load"]:Wp Str).Nodup:=by decide+kernel
 walk_at "d T.bt T.K8 di"
theorem CG:St.Dfn P w K mg base "are_deeds" 8 ["train","thing"] (spD K 2 BD):=dfW (N:=["train","thing"]) 7 T.CD scM λ_ _ _=>by
 have:AO ["train","thing"] (AB CD) ["train","deed"] (ixC [0] 1) (IU CD 0):=csM
 have:(["train","deed"]:Wp Str).Nodup:=by decide+kernel
 have:AO ["train","thing"] (AB CD) ["deed"] (ixC [] 1) (IU CD 1):=csM
 have:(["deed"]:Wp Str).Nodup:=by decide+kernel
 walk_at "d T.bt T.Kz T.Jt DL"
theorem Wu:St.Dfn P w K mg base "has_pieces" 1 ["held","load","pieces"] (spD K 3 BU):=dfW (N:=["held","load","pieces"]) 0 T.F0 scM λ_ _ _=>by
 walk_at "d T.bt"
theorem Zu:St.Dfn P w K mg base "can_pool" 2 ["held","load","other"] (spD K 3 DU):=dfW (N:=["held","load","other"]) 1 T.Hv scM λ_ _ _=>by
 walk_at "d Wu"
theorem ZZ:St.Dfn P w K mg base "can_swap" 2 ["held","load","given","kind"] (spD K 4 Dg):=dfW (N:=["held","load","given","kind"]) 1 T.Hz scM λ_ _ _=>by
 walk_at "d Wu"
theorem eP:St.Dfn P w K mg base "can_do" 3 ["held","done","deed"] (spD K 3 Bc):=dfW (N:=["held","done","deed","word","numbers"]) 2 T.GI scM λ_ _ _=>by
 have:AO ["held","done","deed","word","numbers"] (AB GI) ["other"] (ixC [] 1) (IU GI 0):=csM
 have:(["other"]:Wp Str).Nodup:=by decide+kernel
 walk_at "d Wu Zu ZZ"
theorem T5:St.Dfn P w K mg base "held_without" 1 ["held","load","pieces"] (spD K 3 BM):=dfW (N:=["held","load","pieces","kind","there"]) 0 T.Ek scM λ_ _ _=>by
 walk_at "d"
theorem WK:St.Dfn P w K mg base "held_behind" 2 ["held","deed"] (spD K 2 Ad):=dfW (N:=["held","deed","word","kind","pieces","more","load","given","got"]) 1 T.Fc scM λ_ _ _=>by
 walk_at "d T5"
theorem Sj:St.Dfn P w K mg base "held_at_first" 1 ["book"] (spD K 1 Bz):=dfW (N:=["book"]) 0 T.By scM λ_ _ _=>by
 have:AO ["book"] (AB By) ["load"] (ixC [] 1) (IU By 0):=csM
 have:(["load"]:Wp Str).Nodup:=by decide+kernel
 walk_at "d"
theorem W7:St.Dfn P w K mg base "made_from" 1 ["deed"] (spD K 1 Bh):=dfW (N:=["deed","word"]) 0 T.Gn scM λ_ _ _=>by
 walk_at "d T.bt"
theorem FL:St.Dfn P w K mg base "first_wrong" 4 ["book"] (spD K 1 BG):=dfW (N:=["book","held","deeds","at","deed"]) 3 T.FP scM λ_ _ _=>by
 walk_at "d T.bt eP WK Sj"
omit T bm in
theorem Fm:Aj ["book","wrong"] ["book"] (AB B4):=scM
theorem EB:jN P w K mg base "refuse_undone" 5 ["book"] (spR K mg 1 Ak):=by
 have FL:=FL P base bm T
 have Kk:=Kk (P:=P) (w:=w) (base:=base) T.Jz
 refine Us (k:=4) T.B4 Fm rfl (λ_ _ F=>bnR F λ_ _ _ _ _ _ _=>rfl) λf cdv A outer s H E hr=>?_
 have hu:=Hf hr
 exact(Gq Ya (Ep 1 (deM FL hr (AD (AH 0) AI)) Fm.nd)
      (Mg (cc (IX YV (AH 1) Jk) (Mg (WH rfl Kk rfl (hr.mono (by decide)) (AH 1))) VU)))
theorem BX:St.Dfn P w K mg base "refuse_undone" 5 ["book"] (spD K 1 AU):=dfW (N:=["book","wrong"]) 4 T.B4 scM λ_ _ _=>by
 walk_at "d FL"
theorem Ws:St.Dfn P w K mg base "many_loads" 1 ["book","many"] (spD K 2 DB):=dfW (N:=["book","many"]) 0 T.C9 scM λ_ _ _=>by
 have:AO ["book","many"] (AB C9) ["deed"] (ixC [] 1) (IU C9 0):=csM
 have:(["deed"]:Wp Str).Nodup:=by decide+kernel
 walk_at "d T.bt T.R8"
theorem Zi:St.Dfn P w K mg base "is_place" 4 ["book","thing"] (spD K 2 Dh):=dfW (N:=["book","thing"]) 3 T.HP scM λ_ _ _=>by
 walk_at "d T.bt Xu"
theorem QI:St.Dfn P w K mg base "refuse_no_number" 4 ["book","many"] (spD K 2 Br):=dfW (N:=["book","many"]) 3 T.C4 scM λ_ _ _=>by
 walk_at "d T.bt Xu"
theorem PZ:St.Dfn P w K mg base "refuse_no_partner" 5 ["book","partner"] (spD K 2 Bg):=dfW (N:=["book","partner"]) 4 T.CY scM λ_ _ _=>by
 walk_at "d NI"
theorem Iw:jN P w K mg base "made_by" 6 ["book","place"] (spR K mg 2 JV):=so (N:=["book","place"]) 5 T.Gg scM λ_ _ _=>by
 walk_at "d T.R8 BX Ws Zi T.NM EB"
theorem FV:St.Dfn P w K mg base "made_by" 6 ["book","place"] (spD K 2 EG):=dfW (N:=["book","place"]) 5 T.Gg scM λ_ _ _=>by
 walk_at "d T.R8 BX Ws Zi"
theorem Wo:St.Dfn P w K mg base "all_to_one" 1 ["many","one"] (spD K 2 ES):=dfW (N:=["many","one"]) 0 T.DC scM λ_ _ _=>by
 have:AO ["many","one"] (AB DC) ["one","at"] (ixC [1] 1) (IU DC 0):=csM
 have:(["one","at"]:Wp Str).Nodup:=by decide+kernel
 walk_at "d T.bt T.iN T.Pw"
theorem Tx:St.Dfn P w K mg base "mixed_shares" 4 ["shares","weight","others","more"] (spD K 4 CK):=dfW (N:=["shares","weight","others","more"]) 3 T.CH scM λ_ _ _=>by
 have:AO ["shares","weight","others","more"] (AB CH) ["weight","more","share","other"] (ixC [1,3] 2) (IU CH 0):=csM
 have:(["weight","more","share","other"]:Wp Str).Nodup:=by decide+kernel
 walk_at "d T.bt gL"
theorem WS:St.Dfn P w K mg base "made_shares" 5 ["held","shares","deed"] (spD K 3 A4):=dfW (N:=["held","shares","deed","sources","load","other"]) 4 T.FQ scM λ_ _ _=>by
 walk_at "d T.bt W7 Tx"
theorem Tw:St.Dfn P w K mg base "worth_of_all" 1 ["train","held","worths"] (spD K 3 DF):=dfW (N:=["train","held","worths"]) 0 T.CI scM λ_ _ _=>by
 have:AO ["train","held","worths"] (AB CI) ["worths","kind","pieces"] (ixC [2] 2) (IU CI 0):=csM
 have:(["worths","kind","pieces"]:Wp Str).Nodup:=by decide+kernel
 walk_at "d T.bt"
theorem UR:St.Dfn P w K mg base "part_thrown" 3 ["train","held","deed"] (spD K 3 Dl):=dfW (N:=["train","held","deed","load","pieces","worths"]) 2 T.FW scM λ_ _ _=>by
 walk_at "d eT Tw"
theorem TY:St.Dfn P w K mg base "thrown_shares" 5 ["train","held","owners","deed","shares"] (spD K 5 Cy):=dfW (N:=["train","held","owners","deed","shares","top","bottom"]) 4 T.EC scM λ_ _ _=>by
 walk_at "d Tx UR"
theorem UE:St.Dfn P w K mg base "sold_shares" 4 ["deed","shares"] (spD K 2 Dq):=dfW (N:=["deed","shares","partner","other","sold","passed","changed"]) 3 T.FJ scM λ_ _ _=>by
 walk_at "d T.bt lO mB gZ"
theorem SJ:St.Dfn P w K mg base "shares_behind" 6 ["train","held","owners","deed","shares"] (spD K 5 AY):=dfW (N:=["train","held","owners","deed","shares"]) 5 T.D8 scM λ_ _ _=>by
 walk_at "d TY UE"
theorem TV:St.Dfn P w K mg base "owners_behind" 7 ["train","held","owners","deed"] (spD K 4 Ag):=dfW (N:=["train","held","owners","deed","behind"]) 6 T.Bw scM λ_ _ _=>by
 have:AO ["train","held","owners","deed","behind"] (AB Bw) ["train","held","owners","deed","shares"] (ixC [0,1,2,3] 1) (IU Bw 0):=csM
 have:(["train","held","owners","deed","shares"]:Wp Str).Nodup:=by decide+kernel
 walk_at "d T.R8 Wo WS SJ"
theorem Yz:St.Dfn P w K mg base "state_by" 8 ["book","many"] (spD K 2 Fo):=dfW (N:=["book","many","train","first","deeds","held","owners","holders","deed"]) 7 T.Ee scM λ_ _ _=>by
 have:AO ["book","many","train","first","deeds","held","owners","holders","deed"] (AB Ee) ["load"] (ixC [] 1) (IU Ee 0):=csM
 have:(["load"]:Wp Str).Nodup:=by decide+kernel
 walk_at "d WK Sj SJ TV"
theorem TN:St.Dfn P w K mg base "sums_by_kinds" 4 ["kinds","held","shares"] (spD K 3 B3):=dfW (N:=["kinds","held","shares","sums","share","kind","pieces"]) 3 T.EJ scM λ_ _ _=>by
 walk_at "d T.bt T.Pw lO gZ"
theorem Vx:St.Dfn P w K mg base "theirs_told" 9 ["book","many"] (spD K 2 Du):=dfW (N:=["book","many","partners","kinds","held","owners","holders"]) 8 T.BH scM λ_ _ _=>by
 have:AO ["book","many","partners","kinds","held","owners","holders"] (AB BH) ["kinds","held","owners","partner"] (ixC [3,4,5] 1) (IU BH 0):=csM
 have:(["kinds","held","owners","partner"]:Wp Str).Nodup:=by decide+kernel
 have:AO ["kinds","held","owners","partner"] (pL (IU BH 0) (AB BH)) ["partner","shares"] (ixC [3] 1) (IU BH 1):=csM
 have:(["partner","shares"]:Wp Str).Nodup:=by decide+kernel
 walk_at "d T.bt Yz TN"
theorem Gb:St.Dfn P w K mg base "theirs_by" 10 ["book","many","partner"] (spD K 3 Dy):=dfW (N:=["book","many","partner"]) 9 T.Ga scM λ_ _ _=>by
 walk_at "d BX QI PZ Vx"
omit T bm in
theorem L9:Aj ["self","train","first"] ["self","train","first"] (AB Bn):=scM
theorem GB:MkD P w K mg base CX0 "Leader" 8 ["self","train","first"] (spD K 3 Bo):=by
 have Ao:=T.Ao
 have HJ:=HJ P base bm T
 have GY:=GY P base bm T
 refine m8 (N:=["self","train","first"]) 7 T.Bn L9 λ{f cdv A outer s H E} nd_ hr hu=>?_
 exact(Aa (HF (Fp (Fy (deM HJ hr (AD (AH 1) AI)))) (Aq IQ) CO)
      (Aa (HF (Fp (Fy (deM GY hr (AD (AH 1) (AD (AH 2) AI))))) (Aq IQ) CO)
      (Aa (Vo Ao (by decide) (AH 0) (Dv (AD (AH 1) (AD (AH 2) (AD (Dv AI) AI)))))
      (Aq (Vo Ao (by decide) (AH 0) (VD AI))))))
omit T bm in
theorem JY:Aj ["self","book"] ["self","book"] (AB A6):=scM
theorem BL:MeD P w K mg base CX0 "Leader" "turn_to" 1 ["self","book"] (spD K 2 A5):=by
 have Ao:=T.Ao
 refine XR (N:=["self","book"]) 0 T.A6 JY λ{f cdv A outer s H E} nd_ hr hu=>?_
 exact(Aa (KY (kW ABL PySem.F.type_list_append dJ (MR Ao (by decide) (AH 0)) (AD (MR Ao (by decide) (AH 0)) AI)))
      (Aq (Vo Ao (by decide) (AH 0) (AH 1))))
omit T bm in
theorem Ay:Aj ["self","deed","train","first","deeds","behind"] ["self","deed"] (AB Bj):=scM
theorem Gf:MeD P w K mg base (CXr P w) "Leader" "do" 9 ["self","deed"] (spR K mg 2 A1):=by
 have B:=T.bt
 have Ao:=T.Ao
 have DL:=DL P base bm T
 have CG:=CG P base bm T
 have BX:=BX P base bm T
 have FV:=FV P base bm T
 have BL:=BL P base bm T
 have J7:=T.J7
 have HV:=T.HV
 have EB:=EB P base bm T
 have Iw:=Iw P base bm T
 refine iA (N:=["self","deed","train","first","deeds","behind"]) 8 T.Bj Ay λ{f cdv A outer s H E} nd_ hr hu=>?_
 exact(Gq Ya (RU (MR Ao (by decide) (AH 0)) (U5 rfl (Cu (HI 2 Ay.nd) (Cu (HI 3 Ay.nd) (Cu (HI 4 Ay.nd) Le)))))
      (Gq (cc (Fp (Fy (deM DL hr (AD (AH 2) (AD (AH 1) AI))))) (Mg (RC rfl J7 rfl (AD DV AI))) VU) (HF (Fp (Fy (deM DL hr (AD (AH 2) (AD (AH 1) AI))))) (Aq IQ) CO)
      (Gq Ya (Ep 5 (Dv (AD (AH 2) (AD (AH 3) (AD (Po JT (AH 4) (Dv (AD (AH 1) AI))) AI)))) Ay.nd)
      (Gq (bJ (U3 EB (hr.mono (by decide)) rfl (AD (AH 5) AI))) (KY (deM BX hr (AD (AH 5) AI)))
      (Gq (cc (Fp (Fy (deM CG hr (AD (AH 2) (AD (Fd Mq (AH 5) BR) AI))))) (Mg (RC rfl HV rfl (AD DV AI))) VU) (HF (Fp (Fy (deM CG hr (AD (AH 2) (AD (Fd Mq (AH 5) BR) AI))))) (Aq IQ) CO)
      (Gq Ya (KY (LM BL hr (AH 0) (AD (AH 5) AI)))
      (Mg (gD (U3 Iw (hr.mono (by decide)) rfl (AD (AH 5) (AD (DH Dw rfl B.len zh (AD (AH 4) AI)) AI)))))))))))
theorem Gk:MeD P w K mg base CX0 "Leader" "do" 9 ["self","deed"] (spD K 2 As):=by
 have B:=T.bt
 have Ao:=T.Ao
 have DL:=DL P base bm T
 have CG:=CG P base bm T
 have BX:=BX P base bm T
 have FV:=FV P base bm T
 have BL:=BL P base bm T
 refine XR (N:=["self","deed","train","first","deeds","behind"]) 8 T.Bj Ay λ{f cdv A outer s H E} nd_ hr hu=>?_
 exact(Aa (RU (MR Ao (by decide) (AH 0)) (U5 rfl (Cu (HI 2 Ay.nd) (Cu (HI 3 Ay.nd) (Cu (HI 4 Ay.nd) Le)))))
      (Aa (HF (Fp (Fy (deM DL hr (AD (AH 2) (AD (AH 1) AI))))) (Aq IQ) CO)
      (Aa (Ep 5 (Dv (AD (AH 2) (AD (AH 3) (AD (Po JT (AH 4) (Dv (AD (AH 1) AI))) AI)))) Ay.nd)
      (Aa (KY (deM BX hr (AD (AH 5) AI)))
      (Aa (HF (Fp (Fy (deM CG hr (AD (AH 2) (AD (Fd Mq (AH 5) BR) AI))))) (Aq IQ) CO)
      (Aa (KY (LM BL hr (AH 0) (AD (AH 5) AI)))
      (Aq (CQ (deM FV hr (AD (AH 5) (AD (DH Dw rfl B.len zh (AD (AH 4) AI)) AI)))))))))))
omit T bm in
theorem LB:Aj ["self"] ["self"] (AB Ba):=scM
theorem FZ:MeD P w K mg base CX0 "Leader" "book" 1 ["self"] (spD K 1 Ck):=by
 have Ao:=T.Ao
 refine XR (N:=["self"]) 0 T.Ba LB λ{f cdv A outer s H E} nd_ hr hu=>?_
 exact(Aq (CQ (MR Ao (by decide) (AH 0))))
omit T bm in
theorem Je:Aj ["self","partner"] ["self","partner"] (AB BA):=scM
theorem EA:MeD P w K mg base CX0 "Leader" "theirs" 11 ["self","partner"] (spD K 2 BV):=by
 have B:=T.bt
 have Ao:=T.Ao
 have Gb:=Gb P base bm T
 refine XR (N:=["self","partner"]) 10 T.BA Je λ{f cdv A outer s H E} nd_ hr hu=>?_
 exact(Aq (CQ (deM Gb hr (AD (MR Ao (by decide) (AH 0)) (AD (DH Dw rfl B.len zh (AD (Fd Mq (MR Ao (by decide) (AH 0)) BR) AI)) (AD (AH 1) AI))))))
theorem MX:St.Dfn P w K mg base "_law_pen" 1 ["_law_cell"] (spD K 1 Hk):=dfW (N:=["_law_cell"]) 0 T.MP scM λ_ _ _=>by
 walk_at "d T.bt"
theorem GV:St.Dfn P w K mg base "_law_cell_at" 1 ["_law_script","_law_k"] (spD K 2 C0):=dfW (N:=["_law_script","_law_k"]) 0 T.Gh scM λ_ _ _=>by
 walk_at "d T.bt"
theorem KN:St.Dfn P w K mg base "_law_draw" 1 ["_law_pen_here","_law_bound"] (spD K 2 AG):=dfW (N:=["_law_pen_here","_law_bound","_law_found","_law_stir"]) 0 T.KU scM λ_ _ _=>by
 walk_at "d"
theorem ZO:St.Dfn P w K mg base "_law_common" 1 ["_law_one","_law_other"] (spD K 2 Fs):=dfW (N:=["_law_one","_law_other"]) 0 T.Hd scM λ_ _ _=>by
 walk_at "d"
theorem fC:St.Dfn P w K mg base "_law_made" 2 ["_law_top","_law_bottom"] (spD K 2 BW):=dfW (N:=["_law_top","_law_bottom","_law_by"]) 1 T.J9 scM λ_ _ _=>by
 walk_at "d T.bt ZO"
theorem aA:St.Dfn P w K mg base "_law_whole" 3 ["_law_pen_here","_law_many"] (spD K 2 DO):=dfW (N:=["_law_pen_here","_law_many","_law_weights"]) 2 T.DQ scM λ_ _ _=>by
 have:AO ["_law_pen_here","_law_many","_law_weights"] (AB DQ) ["_law_pen_here","_law_one"] (ixC [0] 1) (IU DQ 0):=csM
 have:(["_law_pen_here","_law_one"]:Wp Str).Nodup:=by decide+kernel
 have:AO ["_law_pen_here","_law_many","_law_weights"] (AB DQ) ["_law_weights","_law_weight"] (ixC [2] 1) (IU DQ 1):=csM
 have:(["_law_weights","_law_weight"]:Wp Str).Nodup:=by decide+kernel
 walk_at "d T.bt KN fC"
theorem bQ:St.Dfn P w K mg base "_law_train" 4 ["_law_pen_here"] (spD K 1 G4):=dfW (N:=["_law_pen_here","_law_partners","_law_kinds","_law_beasts"]) 3 T.Iv scM λ_ _ _=>by
 walk_at "d KN aA"
theorem ZR:St.Dfn P w K mg base "_law_pieces" 2 ["_law_pen_here"] (spD K 1 A8):=dfW (N:=["_law_pen_here","_law_great"]) 1 T.Hn scM λ_ _ _=>by
 walk_at "d KN"
theorem aS:St.Dfn P w K mg base "_law_first" 4 ["_law_pen_here","_law_train_here"] (spD K 2 Gv):=dfW (N:=["_law_pen_here","_law_train_here","_law_found","_law_k"]) 3 T.JA scM λ_ _ _=>by
 walk_at "d T.bt KN aA ZR"
theorem JC:St.Dfn P w K mg base "_law_begin" 5 ["_law_pen_here"] (spD K 1 FR):=dfW (N:=["_law_pen_here","_law_train_here"]) 4 T.JG scM λ_ _ _=>by
 walk_at "d bQ aS"
theorem So:St.Dfn P w K mg base "_law_is_swapping" 1 ["_law_train_here","_law_load","_law_given","_law_kind","_law_got"] (spD K 5 Cv):=dfW (N:=["_law_train_here","_law_load","_law_given","_law_kind","_law_got"]) 0 T.EH scM λ_ _ _=>by
 walk_at "d"
theorem Gi:St.Dfn P w K mg base "_law_is_deed" 2 ["_law_train_here","_law_deed_here"] (spD K 2 A7):=dfW (N:=["_law_train_here","_law_deed_here","_law_word","_law_things","_law_load","_law_given","_law_kind","_law_got"]) 1 T.G3 scM λ_ _ _=>by
 walk_at "d So"
theorem JO:St.Dfn P w K mg base "_law_begun" 1 ["_law_book"] (spD K 1 CF):=dfW (N:=["_law_book"]) 0 T.Fb scM λ_ _ _=>by
 have:AO ["_law_book"] (AB Fb) ["_law_load"] (ixC [] 1) (IU Fb 0):=csM
 have:(["_law_load"]:Wp Str).Nodup:=by decide+kernel
 walk_at "d T.bt"
theorem eW:St.Dfn P w K mg base "_law_plus" 3 ["_law_one","_law_other"] (spD K 2 BY):=dfW (N:=["_law_one","_law_other"]) 2 T.Kp scM λ_ _ _=>by
 walk_at "d fC"
theorem cN:St.Dfn P w K mg base "_law_times" 3 ["_law_one","_law_other"] (spD K 2 Ae):=dfW (N:=["_law_one","_law_other"]) 2 T.JH scM λ_ _ _=>by
 walk_at "d fC"
theorem Y3:St.Dfn P w K mg base "_law_pooled" 4 ["_law_one","_law_other"] (spD K 2 Fv):=dfW (N:=["_law_one","_law_other","_law_found","_law_mine","_law_its","_law_both"]) 3 T.IF scM λ_ _ _=>by
 walk_at "d T.bt fC eW cN"
theorem fD:St.Dfn P w K mg base "_law_cost" 3 ["_law_train_here","_law_loads","_law_deed_here"] (spD K 3 IK):=dfW (N:=["_law_train_here","_law_loads","_law_deed_here","_law_worths_here","_law_whole_here"]) 2 T.GJ scM λ_ _ _=>by
 have:AO ["_law_train_here","_law_loads","_law_deed_here","_law_worths_here","_law_whole_here"] (AB GJ) ["_law_worths_here","_law_kind","_law_pieces_here","_law_owners"] (ixC [3] 3) (IU GJ 0):=csM
 have:(["_law_worths_here","_law_kind","_law_pieces_here","_law_owners"]:Wp Str).Nodup:=by decide+kernel
 walk_at "d T.bt fC"
theorem eY:St.Dfn P w K mg base "_law_less" 4 ["_law_one","_law_other"] (spD K 2 De):=dfW (N:=["_law_one","_law_other"]) 3 T.Kf scM λ_ _ _=>by
 walk_at "d eW"
theorem dg:St.Dfn P w K mg base "_law_borne" 5 ["_law_shares","_law_part","_law_owners"] (spD K 3 ED):=dfW (N:=["_law_shares","_law_part","_law_owners","_law_found","_law_mine","_law_its"]) 4 T.JK scM λ_ _ _=>by
 walk_at "d T.bt eW cN eY"
theorem eS:St.Dfn P w K mg base "_law_sold" 5 ["_law_shares","_law_deed_here"] (spD K 2 FD):=dfW (N:=["_law_shares","_law_deed_here","_law_found","_law_passes"]) 4 T.Kj scM λ_ _ _=>by
 walk_at "d T.bt eW cN eY"
theorem eU:St.Dfn P w K mg base "_law_turn" 6 ["_law_train_here","_law_state","_law_deed_here"] (spD K 3 E8):=dfW (N:=["_law_train_here","_law_state","_law_deed_here","_law_loads","_law_holders","_law_numbers","_law_part","_law_owners","_law_load"]) 5 T.KO scM λ_ _ _=>by
 walk_at "d fD dg eS"
theorem Oq:St.Dfn P w K mg base "_law_do" 7 ["_law_train_here","_law_state","_law_deed_here"] (spD K 3 Bf):=dfW (N:=["_law_train_here","_law_state","_law_deed_here","_law_loads","_law_holders","_law_numbers","_law_word","_law_one","_law_other","_law_load","_law_given","_law_kind","_law_got"]) 6 T.Ju scM λ_ _ _=>by
 have:AO ["_law_train_here","_law_state","_law_deed_here","_law_loads","_law_holders","_law_numbers","_law_word","_law_one","_law_other","_law_load","_law_given","_law_kind","_law_got"] (AB Ju) ["_law_deed_here","_law_one"] (ixC [2] 1) (IU Ju 0):=csM
 have:(["_law_deed_here","_law_one"]:Wp Str).Nodup:=by decide+kernel
 walk_at "d T.bt Y3 eU"
theorem cY:St.Dfn P w K mg base "_law_there" 1 ["_law_loads","_law_load","_law_pieces_here"] (spD K 3 Cd):=dfW (N:=["_law_loads","_law_load","_law_pieces_here"]) 0 T.Iz scM λ_ _ _=>by
 walk_at "d T.bt"
theorem LZ:St.Dfn P w K mg base "_law_can" 2 ["_law_state","_law_deed_here"] (spD K 2 BP):=dfW (N:=["_law_state","_law_deed_here","_law_loads","_law_holders","_law_numbers","_law_there_here","_law_load","_law_given","_law_kind","_law_got"]) 1 T.MG scM λ_ _ _=>by
 walk_at "d cY"
omit T bm in
theorem CB:Aj ["_law_book","_law_deed_here","_law_train_here","_law_first_here","_law_deeds","_law_state","_law_one","_law_throws"] ["_law_book","_law_deed_here"] (AB Di):=scM
omit T bm in
theorem Mb:AO ["_law_book","_law_deed_here","_law_train_here","_law_first_here","_law_deeds","_law_state","_law_one","_law_throws"] (AB Di) ["_law_one"] (ixC [] 1) (IU Di 0):=csM
omit T bm in
theorem MB:(["_law_one"]:Wp Str).Nodup:=by decide+kernel
theorem Hb:St.Dfn P w K mg base "_law_due_of" 8 ["_law_book","_law_deed_here"] (spD K 2 Cb):=by
 have B:=T.bt
 have Gi:=Gi P base bm T
 have JO:=JO P base bm T
 have Oq:=Oq P base bm T
 have LZ:=LZ P base bm T
 refine dfM 7 T.Di CB λhr hu=>?_
 exact(Aa (RU (AH 0) (U5 rfl (Cu (HI 2 CB.nd) (Cu (HI 3 CB.nd) (Cu (HI 4 CB.nd) Le)))))
      (Aa (HF (Fp (Fy (deM Gi hr (AD (AH 2) (AD (AH 1) AI))))) (Aq (CQ DV)) CO)
      (Aa (Ep 5 (deM JO hr (AD (AH 0) AI)) CB.nd)
      (Aa (ZC PassesOwn.never rfl (Yt (AH 4)) (HI 6 CB.nd) (Aq (KY (deM Oq hr (AD (AH 2) (AD (AH 5) (AD (AH 6) AI)))))))
      (Aa (HF (Fp (Fy (deM LZ hr (AD (AH 5) (AD (AH 1) AI))))) (Aq (CQ DV)) CO)
      (Aa (Ep 7 (DH Dw rfl B.len zh (AD (Qx [] 1 ["_law_one"] rfl Mb (Yt (Po JT (AH 4) (Dv (AD (AH 1) AI)))) (λs H fp=>⟨HI 0 MB,cm (IX (NQ hu) (Fd Mq (AH 0) BR) DV),AH 0⟩)) AI)) CB.nd)
      (Aq (CQ (Fd Mq (VD (AD DV (AD DV AI))) (Ug UI rfl B.int boot_int (AD (fV (O0 (NQ hu) (DH Dw rfl B.len zh (AD (AH 4) AI)) BR) (Vf (O0 kI (AH 7) BR))) AI)))))))))))
theorem Hc:St.Dfn P w K mg base "_law_number" 1 ["_law_book"] (spD K 1 Cm):=dfW (N:=["_law_book"]) 0 T.Ej scM λ_ _ _=>by
 have:AO ["_law_book"] (AB Ej) ["_law_deed_here"] (ixC [] 1) (IU Ej 0):=csM
 have:(["_law_deed_here"]:Wp Str).Nodup:=by decide+kernel
 walk_at "d T.bt"
omit T bm in
theorem Bv:Aj ["_law_leader","_law_book","_law_deed_here","_law_due","_law_number_here","_law_told"] ["_law_leader","_law_book","_law_deed_here"] (AB Bb):=scM
omit T bm in
theorem Iu:LN ["_law_leader","_law_book","_law_deed_here","_law_due","_law_number_here","_law_told"] (AB Bb) ["_law_leader","_law_deed_here"] [0,2] (sG Bb 0):=lsM
theorem Eo:St.Dfn P w K mg base "_law_deed_right" 13 ["_law_leader","_law_book","_law_deed_here"] (spD K 3 CJ):=by
 have B:=T.bt
 have S_law_said:=T.IG
 have Gk:=Gk P base bm T
 have Hb:=Hb P base bm T
 have Hc:=Hc P base bm T
 have J3:=T.J3
 have Jq:=T.Jq
 have HM:=T.HM
 have D5:=T.D5
 have HW:=T.HW
 have xa_NotDone:=T.Jz.xa
 have Gf:=Gf P base bm T
 refine dfL 12 T.Bb Bv λci hr hu=>?_
 exact(Aa (Ep 3 (deM Hb hr (AD (AH 1) (AD (AH 2) AI))) Bv.nd)
      (Aa (Ep 4 Jk Bv.nd)
      (Aa (HF (IX gw (Fd Mq (AH 2) BR) (Dv (AD DV (AD DV (AD DV (AD DV AI)))))) (Aq (Ep 4 (deM Hc hr (AD (AH 1) AI)) Bv.nd)) CO)
      (Aa (Ep 5 (f9 hu (jQ (RQ DV (Dv (AD DV (AD (AH 4) AI))) (RQ DV (Dv (AD DV (AD (DH Dw rfl B.len zh (AD (Fd Mq (AH 1) BR) AI)) AI))) dG)) (List.cons_ne_nil _ _) (by decide)) (AH 3) (Dv (AD (AH 3) (AD Jk AI))) ⟨rfl,rfl,rfl,rfl⟩) Bv.nd)
      (Aa (HF (IX (Q7 hu) (cn (k:=9) S_law_said MZ Iu ci bm (hr.mono (by decide)) rfl (λf c' clos A outer s H hr=>(LM Gk hr (AH 0) (AD (AH 1) AI))) (λf c' clos A outer s H hr=>(Yb Gf hr (AH 0) (AD (AH 1) AI))) (λ_ _ _ _ _ _=>(OU J3 rfl (λ_=>Aq (CQ (Dv (AD DV (AD Jk AI))))) (nK (i:=1) HM xa_NotDone rfl MZ.nd rfl rfl rfl rfl (λ_ _ D=>bH D rfl (.inl rfl)) (OU HW rfl (λ_=>Aq (CQ (Dv (AD DV (AD Jk AI))))) (OU Jq rfl (λ_=>Aq (CQ (Dv (AD DV (AD Jk AI))))) (OU D5 rfl (λ_=>Aq (CQ (Dv (AD DV (AD Jk AI))))) ju))))))) (AH 5)) (Aq (CQ Jk)) CO)
      (Aa (HF (IX (NQ hu) (AH 3) DV) (Aq (CQ (Po JT (aV (AH 1) BR) (Dv (AD (Po JT (Fd Mq (AH 1) BR) (Dv (AD (AH 2) AI))) AI))))) CO)
      (Aq (CQ (AH 1)))))))))
theorem aY:St.Dfn P w K mg base "_law_share" 3 ["_law_pen_here"] (spD K 1 FK):=dfW (N:=["_law_pen_here","_law_bottom"]) 2 T.Iq scM λ_ _ _=>by
 walk_at "d KN fC"
theorem Zc:St.Dfn P w K mg base "_law_worths" 2 ["_law_pen_here","_law_many"] (spD K 2 DZ):=dfW (N:=["_law_pen_here","_law_many"]) 1 T.EW scM λ_ _ _=>by
 have:AO ["_law_pen_here","_law_many"] (AB EW) ["_law_pen_here","_law_one"] (ixC [0] 1) (IU EW 0):=csM
 have:(["_law_pen_here","_law_one"]:Wp Str).Nodup:=by decide+kernel
 walk_at "d T.bt KN"
theorem eL:St.Dfn P w K mg base "_law_deed" 4 ["_law_pen_here","_law_train_here","_law_state"] (spD K 3 DX):=dfW (N:=["_law_pen_here","_law_train_here","_law_state","_law_loads","_law_holders","_law_numbers","_law_full","_law_way","_law_load","_law_some","_law_same","_law_kind","_law_left","_law_partner"]) 3 T.Cs scM λ_ _ _=>by
 have:AO ["_law_pen_here","_law_train_here","_law_state","_law_loads","_law_holders","_law_numbers","_law_full","_law_way","_law_load","_law_some","_law_same","_law_kind","_law_left","_law_partner"] (AB Cs) ["_law_at","_law_load"] (ixC [] 2) (IU Cs 0):=csM
 have:(["_law_at","_law_load"]:Wp Str).Nodup:=by decide+kernel
 have:AO ["_law_pen_here","_law_train_here","_law_state","_law_loads","_law_holders","_law_numbers","_law_full","_law_way","_law_load","_law_some","_law_same","_law_kind","_law_left","_law_partner"] (AB Cs) ["_law_loads","_law_load","_law_at"] (ixC [3,8] 1) (IU Cs 1):=csM
 have:(["_law_loads","_law_load","_law_at"]:Wp Str).Nodup:=by decide+kernel
 have:AO ["_law_pen_here","_law_train_here","_law_state","_law_loads","_law_holders","_law_numbers","_law_full","_law_way","_law_load","_law_some","_law_same","_law_kind","_law_left","_law_partner"] (AB Cs) ["_law_numbers","_law_number_here"] (ixC [5] 1) (IU Cs 2):=csM
 have:(["_law_numbers","_law_number_here"]:Wp Str).Nodup:=by decide+kernel
 walk_at "d T.bt KN ZR aY Zc"
theorem FE:St.Dfn P w K mg base "_law_some_deed" 8 ["_law_pen_here","_law_book"] (spD K 2 Bt):=dfW (N:=["_law_pen_here","_law_book","_law_train_here","_law_first_here","_law_deeds","_law_state","_law_deed_here"]) 7 T.Cf scM λ_ _ _=>by
 have:AO ["_law_pen_here","_law_book","_law_train_here","_law_first_here","_law_deeds","_law_state","_law_deed_here"] (AB Cf) ["_law_pen_here","_law_one"] (ixC [0] 1) (IU Cf 0):=csM
 have:(["_law_pen_here","_law_one"]:Wp Str).Nodup:=by decide+kernel
 walk_at "d T.bt KN JO Oq eL"
theorem Hq:St.Dfn P w K mg base "_law_states" 8 ["_law_book"] (spD K 1 Eh):=dfW (N:=["_law_book","_law_state","_law_found","_law_deed_here"]) 7 T.Ci scM λ_ _ _=>by
 have:AO ["_law_book","_law_state","_law_found","_law_deed_here"] (AB Ci) ["_law_load"] (ixC [] 1) (IU Ci 0):=csM
 have:(["_law_load"]:Wp Str).Nodup:=by decide+kernel
 have:AO ["_law_book","_law_state","_law_found","_law_deed_here"] (AB Ci) ["_law_load"] (ixC [] 1) (IU Ci 1):=csM
 have:(["_law_load"]:Wp Str).Nodup:=by decide+kernel
 walk_at "d T.bt JO Oq"
theorem jb:St.Dfn P w K mg base "_law_sum" 4 ["_law_some"] (spD K 1 GO):=dfW (N:=["_law_some","_law_found","_law_one"]) 3 T.MK scM λ_ _ _=>by
 walk_at "d eW"
theorem HZ:St.Dfn P w K mg base "_law_theirs" 5 ["_law_book","_law_loads","_law_partner"] (spD K 3 Dc):=dfW (N:=["_law_book","_law_loads","_law_partner","_law_found","_law_kind","_law_some"]) 4 T.Ec scM λ_ _ _=>by
 have:AO ["_law_book","_law_loads","_law_partner","_law_found","_law_kind","_law_some"] (AB Ec) ["_law_partner","_law_kind","_law_load"] (ixC [2,4] 1) (IU Ec 0):=csM
 have:(["_law_partner","_law_kind","_law_load"]:Wp Str).Nodup:=by decide+kernel
 walk_at "d T.bt cN jb"
omit T bm in
theorem HX:Aj ["_law_leader","_law_book","_law_loads","_law_mine"] ["_law_leader","_law_book"] (AB CV):=scM
omit T bm in
theorem NJ:AO ["_law_leader","_law_book","_law_loads","_law_mine"] (AB CV) ["_law_leader","_law_partner"] (ixC [0] 1) (IU CV 0):=csM
omit T bm in
theorem Mv:(["_law_leader","_law_partner"]:Wp Str).Nodup:=by decide+kernel
omit T bm in
theorem NG:AO ["_law_leader","_law_book","_law_loads","_law_mine"] (AB CV) ["_law_book","_law_loads","_law_partner"] (ixC [1,2] 1) (IU CV 1):=csM
omit T bm in
theorem ND:(["_law_book","_law_loads","_law_partner"]:Wp Str).Nodup:=by decide+kernel
theorem GZ:St.Dfn P w K mg base "_law_is_so" 12 ["_law_leader","_law_book"] (spD K 2 DM):=by
 have B:=T.bt
 have FZ:=FZ P base bm T
 have EA:=EA P base bm T
 have Hq:=Hq P base bm T
 have HZ:=HZ P base bm T
 refine dfM 11 T.CV HX λhr hu=>?_
 exact(Aa (HF (IX (Q7 hu) (VW FZ hr (AH 0)) (AH 1)) (Aq (CQ Qt)) CO)
      (Aa (Ep 2 (Fd Mq (Fd Mq (deM Hq hr (AD (AH 1) AI)) (pR cg BR)) BR) HX.nd)
      (Aa (To [0] 1 ["_law_leader","_law_partner"] rfl HX.nd rfl rfl NJ (QQ rfl B.range (AD (Fd Mq (Fd Mq (AH 1) BR) BR) AI)) (λs H fp=>⟨HI 1 Mv,Qa,LM EA hr (AH 0) (AD (AH 1) AI)⟩))
      (Aq (CQ (O0 (NQ hu) (AH 3) (Qx [1,2] 1 ["_law_book","_law_loads","_law_partner"] rfl NG (QQ rfl B.range (AD (Fd Mq (Fd Mq (AH 1) BR) BR) AI)) (λs H fp=>⟨HI 2 ND,Qa,deM HZ hr (AD (AH 0) (AD (AH 1) (AD (AH 2) AI)))⟩))))))))
end
def nr{a b:α}(h:a=b):a=b:=h
@[simp high] def A3{α β:Type}(a:α)(f:α->Option β):(some a).bind f=f a:=Eq.mp (congrArg (λz=>z=f a) rfl) (Eq.refl (f a))
@[simp high] def oO{α β:Type}(a:α)(f:α->β):(some a).map f=some (f a):=Eq.mp (congrArg (λz=>z=some (f a)) rfl) (Eq.refl (some (f a)))
section
variable{E:En}{S:Sto}{op:OpN}{f g c:Ev}{d:D}{i:Nat}{w:Wv}{a b e h r':D}{r:Wp D}{fs:Wp Ev}
@[simp] def uP:at? (o::E) 0=o:=nr rfl
@[simp] def uD:at? (o::E) (i+1)=at? E i:=nr rfl
@[simp] def rA:eC d E S=some (d,S):=nr rfl
@[simp] def qO:eV i E S=(at? E i).map λd=>(d,S):=nr rfl
@[simp] def dj:evs [] E S=some ([],S):=nr rfl
@[simp] def DK:evs (f::fs) E S=(f E S).bind λr=>(evs fs E r.2).map λq=>(r.1::q.1,q.2):=nr rfl
@[simp] def WM{cf:Bool}:Oz cf op fs E S=(evs fs E S).bind λr=>(op (r.1.map (dr r.2))).bind λw=>fin cf w r.2:=nr rfl
@[simp] def sE{cf:Bool}:fin cf (.val d) S=some (d,S):=by cases cf<;>rfl
@[simp] def sQ:fin false (.own r) S=some (.lst r,S):=nr rfl
@[simp] def sZ:fin true (.own r) S=some (.ref S.length,S++[.lst r]):=nr rfl
@[simp] def qC:dr S .non=.val .non:=nr rfl
@[simp] def si{b:Bool}:dr S (.bl b)=.val (.bl b):=nr rfl
@[simp] def qw{i:Int}:dr S (.int i)=.val (.int i):=nr rfl
@[simp] def ql{x:Str}:dr S (.str x)=.val (.str x):=nr rfl
@[simp] def sH{x:String}:dr S (.ty x)=.val (.ty x):=nr rfl
@[simp] def qR:dr S (.tup r)=.val (.tup r):=nr rfl
@[simp] def qo:dr S (.lst r)=.val (.lst r):=nr rfl
@[simp] def qg{ns:List Int}:dr S (.scr ns)=.val (.scr ns):=nr rfl
def An{n:Nat}(h:S[n]?=Gc (.lst r)):dr S (.ref n)=.own r:=by
 show(match S[n]? with|some (.lst ds)=>Wv.own ds|_=>.val (.ref n))=_
 rw[h]
def AQ{n:Nat}(h:S[n]?=Gc (.lst r)):Em S n=Gc r:=by
 unfold Em
 rw[h]
@[simp] def qW:fz (.val d)=d:=nr rfl
noncomputable def nR(g:Ev)(E:En)(r:D×Sto):uS (D×Sto):=match r.1 with| .bl true=>g E r.2| .bl false=>Gc (.bl false,r.2)|_=>none
noncomputable def orK(g:Ev)(E:En)(r:D×Sto):uS (D×Sto):=match r.1 with| .bl false=>g E r.2| .bl true=>Gc (.bl true,r.2)|_=>none
noncomputable def rF(r:D×Sto):uS (D×Sto):=match r.1 with| .bl b=>Gc (.bl (!b),r.2)|_=>none
noncomputable def ifK(f g:Ev)(E:En)(r:D×Sto):uS (D×Sto):=match r.1 with| .bl true=>f E r.2| .bl false=>g E r.2|_=>none
@[simp] def qc:nR g E (.bl true,S)=g E S:=nr rfl
@[simp] def q9:nR g E (.bl false,S)=some (.bl false,S):=nr rfl
@[simp] def tW:orK g E (.bl false,S)=g E S:=nr rfl
@[simp] def tT:orK g E (.bl true,S)=some (.bl true,S):=nr rfl
@[simp] def qr{b:Bool}:rF (.bl b,S)=some (.bl (!b),S):=nr rfl
@[simp] def su:ifK f g E (.bl true,S)=f E S:=nr rfl
@[simp] def tO:ifK f g E (.bl false,S)=g E S:=nr rfl
@[simp] def lK:D7 f g E S=(f E S).bind (nR g E):=nr rfl
@[simp] def om:eOr f g E S=(f E S).bind (orK g E):=nr rfl
@[simp] def lN:E7 f E S=(f E S).bind rF:=nr rfl
@[simp] def nv:eIf c f g E S=(c E S).bind (ifK f g E):=nr rfl
@[simp] def l8:BC fs E S=(evs fs E S).bind λr=>if r.1.length<=sizeLine then some (.tup r.1,r.2)else none:=nr rfl
@[simp] def kZ{cf:Bool}:YU cf fs E S=(evs fs E S).bind λr=>if r.1.length<=sizeLine then fin cf (.own r.1) r.2 else none:=nr rfl
@[simp] def kP{F:Fn}:AF F fs E S=(evs fs E S).bind λr=>F r.1 r.2:=nr rfl
noncomputable def qJ(op:Mo)(fs:Wp Ev)(E:En)(r:D×Sto):uS (D×Sto):=match r.1 with
 | .ref n=>(Em r.2 n).bind λ_=>(evs fs E r.2).bind λp=>(Em p.2 n).bind λds=>(op p.2 ds p.1).map λq=>(q.1,p.2.set n (.lst q.2))
 |_=>none
@[simp] def l9{op:Mo}:qJ op fs E (.ref n,S)=(Em S n).bind λ_=>(evs fs E S).bind λp=>(Em p.2 n).bind λds=>(op p.2 ds p.1).map λq=>(q.1,p.2.set n (.lst q.2)):=nr rfl
@[simp] def mG{op:Mo}:NH op f fs E S=(f E S).bind (qJ op fs E):=nr rfl
@[simp] def lZ:NV S r [d]=if r.length<sizeLine then some (.non,r++[d])else none:=nr rfl
variable{x y:Ex}
noncomputable def aW(y:Ex)(r:Fl×En×Sto):uS (Fl×En×Sto):=match r.1 with| .nx=>y r.2.1 r.2.2| .ret w=>Gc (.ret w,r.2)
noncomputable def nO(x y:Ex)(E:En)(r:D×Sto):uS (Fl×En×Sto):=match r.1 with| .bl true=>x E r.2| .bl false=>y E r.2|_=>none
@[simp] def cZ:aW y (.nx,E,S)=y E S:=nr rfl
@[simp] def ke{w:D}:aW y (.ret w,E,S)=some (.ret w,E,S):=nr rfl
@[simp] def qf:nO x y E (.bl true,S)=x E S:=nr rfl
@[simp] def qt:nO x y E (.bl false,S)=y E S:=nr rfl
@[simp] def Rg:AN x y E S=(x E S).bind (aW y):=nr rfl
@[simp] def mC:BO E S=some (.nx,E,S):=nr rfl
@[simp] def T8:xIf c x y E S=(c E S).bind (nO x y E):=nr rfl
@[simp] def lT:AZ f E S=(f E S).map λr=>(.ret r.1,E,r.2):=nr rfl
@[simp] def YK:Az i f E S=(f E S).map λr=>(.nx,E.set i (some r.1),r.2):=nr rfl
@[simp] def Ve:Bm f E S=(f E S).map λr=>(.nx,E,r.2):=nr rfl
noncomputable def qY(d b:D)(E:En)(i:D×Sto):uS (Fl×En×Sto):=match b,i.1 with
 | .ref n,.int j=>(Em i.2 n).bind λds=>(ixN ds.length j).map λm=>(.nx,E,i.2.set n (.lst (ds.set m d)))
 |_,_=>none
@[simp] def lE:qY d (.ref n) E (.int j,S)=(Em S n).bind λds=>(ixN ds.length j).map λm=>(.nx,E,S.set n (.lst (ds.set m d))):=nr rfl
@[simp] def mD{k o:Ev}:Mt k f o E S=(k E S).bind λr=>(f E r.2).bind λb=>(o E b.2).bind (qY r.1 b.1 E):=nr rfl
@[simp] def lV{t:Tf}:IP t f E S=(f E S).bind λr=>(t r.1 E r.2).map λE'=>(.nx,E',r.2):=nr rfl
@[simp] def lP{i j:Nat}:Tv i j f g E S=(f E S).bind λr=>(g E r.2).map λq=>(.nx,(E.set i (some r.1)).set j (some q.1),q.2):=by
  unfold Tv
  rw[DK]
  cases f E S with
  |none=>rfl
  |some r=>
   rw[A3,A3,DK]
   cases g E r.2 with
   |none=>rfl
   |some q=>rfl
@[simp] def bC:tNm i d E S=some (E.set i (some d)):=nr rfl
@[simp] def oV:tTp ts (.tup ds) E S=tMs ts ds E S:=nr rfl
@[simp] def oA:tTp ts (.lst ds) E S=tMs ts ds E S:=nr rfl
@[simp] def oo:tTp ts (.ref n) E S=(Em S n).bind λds=>tMs ts ds E S:=nr rfl
@[simp] def nq:tMs [] [] E S=some E:=nr rfl
@[simp] def k8:tMs (t::ts) (d::ds) E S=(t d E S).bind λE1=>tMs ts ds E1 S:=nr rfl
@[simp] def jH:AS (AV N x) ds S=(x (ds.map some++List.replicate (N-ds.length) none) S).map λr=>(flD r.1,r.2.2):=by rw[JQ];rfl
@[simp] def qM:flD .nx=.non:=nr rfl
@[simp] def nY:flD (.ret d)=d:=nr rfl
@[simp] def pV{i j:Int}:CM (.val (.int i)) (.val (.int j))=some (.val (.int (i+j))):=nr rfl
@[simp] def pA{xs ys:List D}:CM (.val (.tup xs)) (.val (.tup ys))=if xs.length+ys.length<=sizeLine then some (.val (.tup (xs++ys)))else none:=nr rfl
@[simp] def nV{xs ys:List D}:CM (.val (.lst xs)) (.val (.lst ys))=if xs.length+ys.length<=sizeLine then some (.own (xs++ys))else none:=nr rfl
@[simp] def mH{i j:Int}:B5 (.val (.int i)) (.val (.int j))=if Dj i j=true then some (.val (.int (i*j)))else none:=nr rfl
@[simp] def mP{k:Int}:B5 (.val (.tup r)) (.val (.int k))=if(!r.isEmpty && decide (k<=0) && decide (-(2^63)<=k))=true then some (.val (.tup []))else if(!r.isEmpty && decide (1<=k) && decide (r.length*k.toNat<=sizeLine))=true then some (.val (.tup (List.replicate k.toNat r).flatten))else none:=nr rfl
@[simp] def Rn{k:Int}:B5 (.val (.lst r)) (.val (.int k))=if(decide (k<2^63) && decide (-(2^63)<=k) && decide (r.length*k.toNat<=sizeLine))=true then some (.own (List.replicate k.toNat r).flatten)else none:=nr rfl
@[simp] def oH:asS (.own r)=some r:=nr rfl
@[simp] def pY:asS (.val (.lst r))=some r:=nr rfl
@[simp] def oR:asS (.val (.tup r))=some r:=nr rfl
@[simp] def mW{ns:List Int}:asS (.val (.scr ns))=some (ns.map .int):=nr rfl
@[simp] def VX{j:Int}:wIx w (.val (.int j))=(asS w).bind λds=>(atI ds j).map .val:=nr rfl
def B2{n:Nat}{x:α}(h:xs[n]?=Gc x):atI xs (n:Int)=Gc x:=ag h
def Zj{xs:Wp α}{i:Int}(h0:0<=i)(h1:i<xs.length):atI xs i=Gc (xs[i.toNat]'(by lia)):=by
 have:atI xs ((i.toNat:Nat):Int)=Gc (xs[i.toNat]'(by lia)):=B2 (uT (by lia))
 rwa [vh h0]at this
@[simp] def sj:atI (a::r) 0=some a:=B2 (n:=0) rfl
@[simp] def rO:atI (a::b::r) 1=some b:=B2 (n:=1) rfl
@[simp] def tN:atI (a::b::e::r) 2=some e:=B2 (n:=2) rfl
@[simp] def sI:atI (a::b::e::h::r) 3=some h:=B2 (n:=3) rfl
@[simp] def tq{k:D}:atI (a::b::e::h::k::r) 4=some k:=B2 (n:=4) rfl
def Lg{n k:Nat}(h:k<n):ixN n (k:Int)=Gc k:=by
 unfold ixN
 simp
 lia
def R6{n:Nat}{i:Int}(h0:0<=i)(h1:i<n):ixN n i=Gc i.toNat:=by
 have:=Lg (n:=n) (k:=i.toNat) (by lia)
 rwa [vh h0]at this
@[simp] def tJ{n:Nat}:ixN (n+1) 0=some 0:=R6 (by decide) (by lia)
@[simp] def sJ{n:Nat}:ixN (n+2) 1=some 1:=R6 (by decide) (by lia)
@[simp] def tY{n:Nat}:ixN (n+3) 2=some 2:=R6 (by decide) (by lia)
@[simp] def qq{i j:Int}:deq (.int i) (.int j)=(i==j):=nr rfl
@[simp] def oX{i j:Int}:Ou (.int i) (.int j)=true:=nr rfl
@[simp] def pB{w':Wv}:wEq w w'=if Ou (fz w) (fz w')=true then some (.val (.bl (deq (fz w) (fz w'))))else none:=nr rfl
@[simp] def pZ{w':Wv}:wNe w w'=if Ou (fz w) (fz w')=true then some (.val (.bl (!deq (fz w) (fz w'))))else none:=nr rfl
@[simp] def oq{i j:Int}:wLt (.val (.int i)) (.val (.int j))=some (.val (.bl (decide (i<j)))):=nr rfl
@[simp] def nE{i j:Int}:wLe (.val (.int i)) (.val (.int j))=some (.val (.bl (decide (i<=j)))):=nr rfl
@[simp] def pX{i j:Int}:wGt (.val (.int i)) (.val (.int j))=some (.val (.bl (decide (j<i)))):=nr rfl
@[simp] def pz{i j:Int}:wGe (.val (.int i)) (.val (.int j))=some (.val (.bl (decide (j<=i)))):=nr rfl
@[simp] def kz{i j:Int}:QL (.val (.int i)) (.val (.int j))=some (.val (.int (i-j))):=nr rfl
@[simp] def lA{i:Int}:Ts (.val (.int i))=some (.val (.int (-i))):=nr rfl
@[simp] def mU{i j:Int}:Ox (.val (.int i)) (.val (.int j))=(if 0<j then some (.val (.int (i % j)))else none):=by
  show AB9 Wv.val (if 0<j then Gc (D.int (i % j))else none)=_
  split<;>rfl
@[simp] def fQ{i j:Int}:Oa (.val (.int i)) (.val (.int j))=(if(decide (0<j) && decide (j.natAbs<Ff))=true then some (.val (.int (i / j)))else none):=by
  show AB9 Wv.val (if(decide (0<j) && decide (j.natAbs<Ff))=true then Gc (D.int (i / j))else none)=_
  split<;>rfl
@[simp] def kj{i j:Int}:ky (.val (.int i)) (.val (.int j))=if(decide (0<=j) && decide (j<=1000) && decide (i.natAbs<2^64))=true then some (.val (.int (i^j.toNat)))else none:=by
  show AB9 Wv.val (if(decide (0<=j) && decide (j<=1000) && decide (i.natAbs<2^64))=true then Gc (D.int (i^j.toNat))else none)=_
  split<;>rfl
@[simp] def mK{i:Int}:eZ (.val (.int i))=some (.val (.int (i.natAbs:Int))):=by
  show Gc (Wv.val (D.int (if i<0 then-i else i)))=_
  congr 3
  split<;>lia
@[simp] def kn:Eu (.own r)=some (.val (.int r.length)):=nr rfl
@[simp] def lQ:Eu (.val (.lst r))=some (.val (.int r.length)):=nr rfl
@[simp] def km:Eu (.val (.tup r))=some (.val (.int r.length)):=nr rfl
@[simp] def mI{ns:List Int}:Eu (.val (.scr ns))=some (.val (.int ns.length)):=by
  show Gc (Wv.val (D.int ((ns.map D.int).length:Nat)))=_
  rw[vO]
@[simp] def fA:B7 w=(asS w).map λds=>.val (.tup ds):=nr rfl
@[simp] def ip:O9 w=(asS w).map λds=>.own ds:=nr rfl
@[simp] def qD{b:Bool}:Wl (.val (.bl b))=some (.val (.int (if b then 1 else 0))):=nr rfl
@[simp] def lJ{i j:Int}:lI (.val (.int i)) (.val (.int j))=some (.val (.int (if j<i then j else i))):=nr rfl
@[simp] def lS{T:String}:QH w (.val (.ty T))=if PD T=true then(kdW w).map λk=>.val (.bl (k.isA T))else none:=nr rfl
@[simp] def pw:PD "int"=true:=by decide
@[simp] def kr:PD "bool"=true:=by decide
@[simp] def iL:PD "tuple"=true:=by decide
@[simp] def mX:PD "str"=true:=by decide
@[simp] def mT:Ww (.val (.lst r))=(bls r).map λbs=>.val (.bl (bs.all id)):=nr rfl
def AJ{n:Nat}(h:n<=1000):n<=sizeLine:=ub h (by decide)
@[simp] def sz1:(1:Nat)<=sizeLine:=AJ (by decide)
@[simp] def sz2:(2:Nat)<=sizeLine:=AJ (by decide)
@[simp] def sz3:(3:Nat)<=sizeLine:=AJ (by decide)
@[simp] def sz4:(4:Nat)<=sizeLine:=AJ (by decide)
@[simp] def sz5:(5:Nat)<=sizeLine:=AJ (by decide)
@[simp] def sz6:(6:Nat)<=sizeLine:=AJ (by decide)
@[simp] def Ds:BI E S=some (.bl true,S):=nr rfl
@[simp] def l7{b:Ex}:M8 s t b E S=(s E S).bind λr=>Lx r.1.2 t b r.1.1 E r.2:=nr rfl
@[simp] def AW:gOk [] S:=λ_ h=>(nomatch h)
def Jh{b:Ex}(h:gOk gs S):Lx gs t b [] E S=Gc (.nx,E,S):=by
 unfold Lx
 rw[vD h]
def VA {b:Ex}(h:gOk gs S):Lx gs t b (d::ds) E S=(t d E S).bind λE1=>(b E1 S).bind λr=>match r.1 with
    | .nx => Lx gs t b ds r.2.1 r.2.2
    | .ret w=>Gc (.ret w,r.2):=by
  rw [Lx, vD h]
  all_goals rfl
def EE{b:Ex}(h:gOk gs S):Lx gs t b (d::ds) E S=(t d E S).bind λE1=>(b E1 S).bind (aW (Lx gs t b ds)):=by
 rw[VA h]
 rfl
@[simp] def k6:F1 f E S=(f E S).bind λr=>(sqD r.2 r.1).map λp=>(p,r.2):=nr rfl
@[simp] def my:sqD S (.tup r)=some (r,[]):=nr rfl
@[simp] def oN:sqD S (.lst r)=some (r,[]):=nr rfl
def JE{n:Nat}(h:S[n]?=Gc (.lst r)):sqD S (.ref n)=Gc (r,[(n,r)]):=by
 show(Em S n).map (λds=>(ds,[(n,ds)]))=_
 rw[AQ h]
 rfl
@[simp] def kq:eA f E S=(f E S).bind λr=>(sqD r.2 r.1).map λp=>((Mr 0 p.1,p.2),r.2):=nr rfl
@[simp] def lC:c7 f g E S=(f E S).bind λr=>(g E r.2).bind λq=>(sqD q.2 r.1).bind λa=>(sqD q.2 q.1).map λb=>((Nu a.1 b.1,a.2++b.2),q.2):=by
  unfold c7
  rw[DK]
  cases f E S with
  |none=>rfl
  |some r=>
   rw[A3,A3,DK]
   cases g E r.2 with
   |none=>rfl
   |some q=>rfl
noncomputable def Jc(j:Int):va:=decide (-(2^62)<=j) && decide (j<2^62)
def ET{j:Int}(h: -1000000<=j)(g:j<=1000000):Jc j=true:=by
 unfold Jc
 rw[uc]
 exact⟨xP (by lia),xP (by lia)⟩
noncomputable def qb(S:Sto):D->uS ((Wp D×Gd)×Sto)
 | .int j=>if Jc j=true then Gc ((Nd 0 j.toNat,[]),S)else none
 |_=>none
@[simp] def k7{j:Int}:qb S (.int j)=if Jc j=true then some ((Nd 0 j.toNat,[]),S)else none:=nr rfl
@[simp] def lG:Ow [f] E S=(f E S).bind λr=>qb r.2 r.1:=by
  unfold Ow
  rw[DK]
  cases f E S with
  |none=>rfl
  |some r=>
   obtain⟨d,S1⟩:=r
   rw[A3,dj,oO,A3,A3]
   cases d<;>rfl
@[simp] def jE:Na cf cap m s t c f E S=(s E S).bind λr=>(BZ r.1.2 t c f r.1.1 [] (NB cap m E) r.2).bind λq=>fin cf (.own q.1) q.2:=nr rfl
@[simp] def ku:NB cap m E=cap.map (at? E)++List.replicate m none:=nr rfl
theorem QW{α:Type}(p:α->va):∀xs:Wp α,bls (xs.map λx=>.bl (p x))=Gc (xs.map p)
 | []=>rfl
 |x::xs=>by
  have ih:=QW p xs
  unfold bls at ih⊢
  rw[ux,AAR,ih]
  rfl
@[simp] def SW{i:Int}:LD (.int i::r)=(LD r).map λns=>i::ns:=by
  unfold LD
  rw[AAR]
  show(do let r1<-Gc i;let rs<-List.mapM intD r;pure (r1::rs))=_
  cases List.mapM intD r<;>rfl
theorem GR:∀(ns:Wp Int),LD (ns.map D.int)=Gc ns
 | []=>rfl
 |n::ns=>by rw[ux,SW,GR ns];rfl
@[simp] def kc:Yf (.own r)=(LD r).map λns=>.val (.int ns.sum):=nr rfl
@[simp] def lB:Yf (.val (.lst r))=(LD r).map λns=>.val (.int ns.sum):=nr rfl
@[simp] def rC:Wn false w (.val .non)=some (.val (.bl (isN w))):=nr rfl
@[simp] def qZ:Wn true w (.val .non)=some (.val (.bl (!isN w))):=nr rfl
@[simp] def rH{i:Int}:Il true false [w,.val (.int i)]=wSl (some i) none w:=nr rfl
@[simp] def tF{i:Int}:Il false true [w,.val (.int i)]=wSl none (some i) w:=nr rfl
@[simp] def rM{i j:Int}:Il true true [w,.val (.int i),.val (.int j)]=wSl (some i) (some j) w:=nr rfl
@[simp] def mz{lo hi:Option Int}:wSl lo hi (.val (.tup r))=some (.val (.tup (IJ r lo hi))):=nr rfl
end
structure Bq(A:Wp Nat)(S S':Sto):Prop where
 len:S.length<=S'.length
 keep:∀n,n<S.length->n∉A->S'[n]?=S[n]?
def Bq.refl:Bq A S S:=⟨ue _,λ_ _ _=>rfl⟩
def Bq.trans(h:Bq A S S')(g:Bq A S' S2):Bq A S S2:=⟨ub h.len g.len,λn hn ha=>(g.keep n (uV hn h.len) ha).trans (h.keep n hn ha)⟩
def Bq.mono(h:Bq A S S')(s:∀n∈A,n∈B):Bq B S S':=⟨h.len,λn hn hb=>h.keep n hn λz=>hb (s n z)⟩
def Bq.get(h:Bq A S S')(e:S[n]?=Gc c)(ha:n∉A):S'[n]?=Gc c:=by
 rw[h.keep n (ua.mp e).1 ha];exact e
def Bq.app:Bq A S (S++T):=⟨by simp,λn hn _=>uU hn⟩
def Bq.set(h:n∈A):Bq A S (S.set n c):=⟨by simp,λm hm ha=>uW (λz=>ha (by rw[<-z];exact h))⟩
def Bq.new(h:Bq A S S')(g:Bq (A++B) S' S2)(hb:∀n∈B,S.length<=n):Bq A S S2:=⟨ub h.len g.len,λn hn ha=>(g.keep n (uV hn h.len) (λz=>by
 rcases vE.mp z with z|z
 .exact ha z
 .have:=hb n z;lia)).trans (h.keep n hn ha)⟩
def Ai{S:Sto}(h:S[n]?=Gc c):n<S.length:=(ua.mp h).1
section
variable{E:En}{S:Sto}
@[simp high] def mE{op:Op1}:Oz cf (o1 op) [f] E S=(f E S).bind λr=>(op (dr r.2 r.1)).bind λw=>fin cf w r.2:=by
  rw[WM,DK];cases f E S<;>rfl
@[simp high] def YC{op:Op2}:Oz cf (o2 op) [f,g] E S=(f E S).bind λr=>(g E r.2).bind λq=>(op (dr q.2 r.1) (dr q.2 q.1)).bind λw=>fin cf w q.2:=by
  rw[WM,DK]
  cases f E S with
  |none=>rfl
  |some r=>rw[A3,A3,DK];cases g E r.2<;>rfl
def qk:evs [f] E S=(f E S).bind λr=>Gc ([r.1],r.2):=by rw[DK];cases f E S<;>rfl
def qI:evs [f,g] E S=(f E S).bind λr=>(g E r.2).bind λq=>Gc ([r.1,q.1],q.2):=by
 rw[DK];cases f E S with
 |none=>rfl
 |some r=>rw[A3,A3,qk];cases g E r.2<;>rfl
def rD:evs [f,g,h] E S=(f E S).bind λr=>(g E r.2).bind λq=>(h E q.2).bind λu=>Gc ([r.1,q.1,u.1],u.2):=by
 rw[DK];cases f E S with
 |none=>rfl
 |some r=>rw[A3,A3,qI];cases g E r.2 with
  |none=>rfl
  |some q=>rw[A3,A3];cases h E q.2<;>rfl
def rL:evs [f,g,h,k] E S=(f E S).bind λr=>(g E r.2).bind λq=>(h E q.2).bind λu=>(k E u.2).bind λv=>Gc ([r.1,q.1,u.1,v.1],v.2):=by
 rw[DK];cases f E S with
 |none=>rfl
 |some r=>rw[A3,A3,rD];cases g E r.2 with
  |none=>rfl
  |some q=>rw[A3,A3];cases h E q.2 with
   |none=>rfl
   |some u=>rw[A3,A3];cases k E u.2<;>rfl
@[simp high] def sP:evs [f] E S=(f E S).bind λr=>some ([r.1],r.2):=qk
@[simp high] def tL:evs [f,g] E S=(f E S).bind λr=>(g E r.2).bind λq=>some ([r.1,q.1],q.2):=qI
@[simp high] def sX:evs [f,g,h] E S=(f E S).bind λr=>(g E r.2).bind λq=>(h E q.2).bind λu=>some ([r.1,q.1,u.1],u.2):=rD
@[simp high] def rK:evs [f,g,h,k] E S=(f E S).bind λr=>(g E r.2).bind λq=>(h E q.2).bind λu=>(k E u.2).bind λv=>some ([r.1,q.1,u.1,v.1],v.2):=rL
@[simp high] def tw{d:D}:eV 0 (some d::E) S=some (d,S):=nr rfl
@[simp high] def uG:eV 1 (o0::some d::E) S=some (d,S):=nr rfl
@[simp high] def uI{o0 o1:Option D}:eV 2 (o0::o1::some d::E) S=some (d,S):=nr rfl
@[simp high] def uE{o0 o1 o2:Option D}:eV 3 (o0::o1::o2::some d::E) S=some (d,S):=nr rfl
@[simp high] def uA{o0 o1 o2 o3:Option D}:eV 4 (o0::o1::o2::o3::some d::E) S=some (d,S):=nr rfl
@[simp high] def uF{o0 o1 o2 o3 o4:Option D}:eV 5 (o0::o1::o2::o3::o4::some d::E) S=some (d,S):=nr rfl
@[simp high] def uN{o0 o1 o2 o3 o4 o5:Option D}:eV 6 (o0::o1::o2::o3::o4::o5::some d::E) S=some (d,S):=nr rfl
@[simp high] def uK{o0 o1 o2 o3 o4 o5 o6:Option D}:eV 7 (o0::o1::o2::o3::o4::o5::o6::some d::E) S=some (d,S):=nr rfl
@[simp high] def uL{o0 o1 o2 o3 o4 o5 o6 o7:Option D}:eV 8 (o0::o1::o2::o3::o4::o5::o6::o7::some d::E) S=some (d,S):=nr rfl
@[simp high] def uB{o0 o1 o2 o3 o4 o5 o6 o7 o8:Option D}:eV 9 (o0::o1::o2::o3::o4::o5::o6::o7::o8::some d::E) S=some (d,S):=nr rfl
@[simp high] def rQ{o0 o1 o2 o3 o4 o5 o6 o7 o8 o9:Option D}:eV 10 (o0::o1::o2::o3::o4::o5::o6::o7::o8::o9::some d::E) S=some (d,S):=nr rfl
@[simp high] def sS{o0 o1 o2 o3 o4 o5 o6 o7 o8 o9 o10:Option D}:eV 11 (o0::o1::o2::o3::o4::o5::o6::o7::o8::o9::o10::some d::E) S=some (d,S):=nr rfl
@[simp high] def tK{o0 o1 o2 o3 o4 o5 o6 o7 o8 o9 o10 o11:Option D}:eV 12 (o0::o1::o2::o3::o4::o5::o6::o7::o8::o9::o10::o11::some d::E) S=some (d,S):=nr rfl
@[simp high] def rP{o0 o1 o2 o3 o4 o5 o6 o7 o8 o9 o10 o11 o12:Option D}:eV 13 (o0::o1::o2::o3::o4::o5::o6::o7::o8::o9::o10::o11::o12::some d::E) S=some (d,S):=nr rfl
@[simp 20000] def qP:Oz cf (o2 op) [f,eC d] E S=(f E S).bind λr=>(op (dr r.2 r.1) (dr r.2 d)).bind λw=>fin cf w r.2:=by
  rw[YC];cases f E S<;>rfl
@[simp high] def mO:AN (Az i f) y E S=(f E S).bind λr=>y (E.set i (some r.1)) r.2:=by
  rw[Rg,YK];cases f E S<;>rfl
@[simp high] def lL{y:Ex}:AN (Bm f) y E S=(f E S).bind λr=>y E r.2:=by
  rw[Rg,Ve];cases f E S<;>rfl
end
section
def mulL(h: -18446744073709551616<i)(g:i<18446744073709551616):Dj i j=true:=by
 unfold Dj
 rw[vw]
 exact .inl (xP (by lia))
def mulR(h: -18446744073709551616<j)(g:j<18446744073709551616):Dj i j=true:=by
 unfold Dj
 rw[vw,vw]
 exact .inr (.inl (xP (by lia)))
def C5(h:n<2^k)(hk:k<=8000):n<Ff:=uV h (vN (by decide) hk)
def EX{n:Int}(h0:0<n)(h1:n<1152921504606846976):n.natAbs<Ff:=C5 (k:=60) (show n.natAbs<2^60 by lia) (by decide)
variable{S:Sto}
noncomputable def Oy(a b:Int):Int:=((z8 a.natAbs b.natAbs:Nat):Int)
theorem MQ:HR c b (k+1) E S=(c E S).bind λr=>match r.1 with
 | .bl true=>(b E r.2).bind λp=>match p.1 with
   | .nx=>HR c b k p.2.1 p.2.2
   | .ret w=>Gc (.ret w,p.2)
 | .bl false=>Gc (.nx,E,r.2)
 |_=>none:=rfl
def Rt(e1:c E S=Gc (.bl true,S1))(e2:b E S1=Gc (.nx,E2,S2)):HR c b (k+1) E S=HR c b k E2 S2:=by
 rw[MQ,e1]
 show(b E S1).bind _=_
 rw[e2]
 rfl
def Q9(e1:c E S=Gc (.bl false,S1)):HR c b (k+1) E S=Gc (.nx,E,S1):=by
 rw[MQ,e1]
 rfl
theorem R9:∀k (x y:Nat),y<k->HR (eOp (o2 wNe) [eV 1,eC (.int 0)]) (Tv 0 1 (eV 1) (eOp (o2 Ox) [eV 0,eV 1])) k [Gc (.int x),Gc (.int y)] S=Gc (.nx,[Gc (.int (z8 x y:Nat)),Gc (.int 0)],S)
 |0,x,y,h=>absurd h (Nat.not_lt_zero _)
 |k+1,x,y,h=>by
  by_cases hy:y=0
  .subst hy
   rw[Q9 (S1:=S) (by simp)]
   simp
  .have hy2:(((y:Nat):Int)==0)=false:=by simpa using hy
   have ih:=R9 k y (x % y) (by have:=Nat.mod_lt x (yw hy);lia)
   rw[show((x % y:Nat):Int)=(x:Int) % (y:Int) by lia]at ih
   have hy4:0<y:=yw hy
   rw[Rt (S1:=S) (S2:=S) (E2:=[Gc (.int y),Gc (.int ((x:Int) % (y:Int)))]) (by simp[hy2]) (by simp[hy4]),ih]
   rw[AA9 x y,Nat.gcd_rec y x,AA9]
def Zb a b:BQ [.int a,.int b] S=Gc (.int (Oy a b),S):=by
 have:=R9 (S:=S) (b.natAbs+2) a.natAbs b.natAbs (by lia)
 simp[BQ,Es,Pg,Ur,this,Oy]
theorem MV:∀k (x y:Nat),y<k->HR (eOp (o2 wGt) [eV 1,eC (.int 0)]) (Tv 0 1 (eV 1) (eOp (o2 Ox) [eV 0,eV 1])) k [Gc (.int x),Gc (.int y)] S=Gc (.nx,[Gc (.int (z8 x y:Nat)),Gc (.int 0)],S)
 |0,x,y,h=>absurd h (Nat.not_lt_zero _)
 |k+1,x,y,h=>by
  by_cases hy:y=0
  .subst hy
   rw[Q9 (S1:=S) (by simp)]
   simp
  .have ih:=MV k y (x % y) (by have:=Nat.mod_lt x (yw hy);lia)
   rw[show((x % y:Nat):Int)=(x:Int) % (y:Int) by lia]at ih
   have hy4:0<y:=yw hy
   rw[Rt (S1:=S) (S2:=S) (E2:=[Gc (.int y),Gc (.int ((x:Int) % (y:Int)))]) (by simp[hy4]) (by simp[hy4]),ih]
   rw[AA9 x y,Nat.gcd_rec y x,AA9]
def Ua a b(ha:0<=a)(hb:0<=b):Fs [.int a,.int b] S=Gc (.int (Oy a b),S):=by
 have:=MV (S:=S) (b.natAbs+2) a.natAbs b.natAbs (by lia)
 have e1:((a.natAbs:Nat):Int)=a:=by lia
 have e2:((b.natAbs:Nat):Int)=b:=by lia
 rw[e1,e2]at this
 simp[Fs,K4,Pg,Ur,this,Oy]
noncomputable def lowP(t b:Int):Int×Int:=(t / Oy t b,b / Oy t b)
def Rc(h:0<b):0<Oy t b:=by
 unfold Oy
 have:0<z8 t.natAbs b.natAbs:=Nat.gcd_pos_of_pos_right _ (by lia)
 lia
def WE(h:0<b):(Oy t b).natAbs<=b.natAbs:=by
 unfold Oy
 have:z8 t.natAbs b.natAbs<=b.natAbs:=Nat.gcd_le_right _ (by lia)
 lia
noncomputable def amD(p:Int×Int):D:=.tup [.int p.1,.int p.2]
def Jd(h:0<b)(hb:b.natAbs<Ff):Cr [.int t,.int b] S=Gc (amD (lowP t b),S):=by
 have h1:=Rc (t:=t) h
 have h2:(Oy t b).natAbs<Ff:=vM (WE h) hb
 simp[Cr,Nn,Zb,h1,h2,amD,lowP]
def Wy:Oy (t.natAbs:Int) b=Oy t b:=by
 unfold Oy
 rw[wu]
def Qr(h:0<b)(hb:b.natAbs<Ff):BW [.int t,.int b] S=Gc (amD (lowP t b),S):=by
 have h1:=Rc (t:=t) h
 have h2:(Oy t b).natAbs<Ff:=vM (WE h) hb
 have h3:=Ua (S:=S) (t.natAbs:Int) b (by lia) (by lia)
 rw[Wy]at h3
 simp[BW,Nb,h3,h1,h2,amD,lowP]
noncomputable def aD(q:Rat):D:=.tup [.int q.num,.int q.den]
def Sz(k:Nat)(q:Rat):Prop:=q.num.natAbs<2^k/\q.den<2^k
def DJ q:(q.num:Rat) / (q.den:Rat)=q:=by
 rw[<-Rat.mkRat_eq_div,Rat.mkRat_self]
def Hy(q:Rat):(q.den:Rat)≠0:=by
 have:=q.den_nz
 exact_mod_cast this
def MW(t:Int)(n:Nat)(h:0<n):((t:Rat) / (n:Rat)).num=t / (z8 t.natAbs n:Nat)/\((t:Rat) / (n:Rat)).den=n / z8 t.natAbs n:=by
 have e:(t:Rat) / (n:Rat)=mkRat t n:=by rw[Rat.mkRat_eq_div]
 rw[e,Rat.mkRat_def,dif_neg (by lia),Rat.normalize_eq]
 exact⟨rfl,rfl⟩
def JS(h:0<b):amD (lowP t b)=aD ((t:Rat) / (b:Rat)):=by
 obtain⟨n,rfl⟩:∃n:Nat,b=n:=⟨b.natAbs,by lia⟩
 obtain⟨h1,h2⟩:=MW t n (by lia)
 unfold amD aD lowP Oy
 rw[show(((n:Nat):Int):Rat)=((n:Nat):Rat)from rfl,h1,h2]
 simp
def NO{t b:Int}(h:0<b)(ht:t.natAbs<2^k)(hb:b.natAbs<2^k):Sz k ((t:Rat) / (b:Rat)):=by
 obtain⟨n,rfl⟩:∃n:Nat,b=n:=⟨b.natAbs,by lia⟩
 obtain⟨h1,h2⟩:=MW t n (by lia)
 unfold Sz
 rw[show(((n:Nat):Int):Rat)=((n:Nat):Rat)from rfl,h1,h2]
 exact⟨vM (Int.natAbs_ediv_le_natAbs _ _) ht,vM (Nat.div_le_self _ _) (by simpa using hb)⟩
def Df(ha:a<2^j)(hb:b<2^k):a*b<2^(j+k):=by
 rw[Nat.pow_add]
 exact Nat.mul_lt_mul'' ha hb
def Gj(hi:i.natAbs<2^k)(hj:j.natAbs<2^m)(h:k<=60000)(g:m<=60000):Dj i j=true:=by
 unfold Dj
 rw[vw,vw,uc]
 exact .inr (.inr ⟨xP (uV hi (vN (by decide) h)),xP (uV hj (vN (by decide) g))⟩)
def den_pos(q:Rat):0<(q.den:Int):=by have:=q.den_pos;lia
def cy{x:Int}(h:x.natAbs<2^n)(g:n<=m):x.natAbs<2^m:=uV h (vN (by decide) g)
def Dd(hp:Sz j p)(hq:Sz k q):(p.num*q.den+q.num*p.den).natAbs<2^(j+k+1)/\((p.den:Int)*q.den).natAbs<2^(j+k)/\(p.num*q.den-q.num*p.den).natAbs<2^(j+k+1):=by
 have a1:=Df hp.1 hq.2
 have a2:=Df hq.1 hp.2
 have a3:=Df hp.2 hq.2
 rw[AA5 k j]at a2
 have e:2^(j+k+1)=2^(j+k)+2^(j+k):=by rw[ABA];lia
 refine⟨?_,?_,?_⟩
 .refine vM (Int.natAbs_add_le _ _) ?_
  rw[yB,yB,wu,wu,e]
  lia
 .rw[yB,wu,wu];exact a3
 .refine vM (Int.natAbs_sub_le _ _) ?_
  rw[yB,yB,wu,wu,e]
  lia
def Ob:(((p.num*q.den+q.num*p.den:Int):Rat) / (((p.den:Int)*q.den:Int):Rat))=p+q:=by
 have h1:=DJ p;have h2:=DJ q
 have d1:=Hy p;have d2:=Hy q
 push_cast
 grind
def RZ:(((p.num*q.den-q.num*p.den:Int):Rat) / (((p.den:Int)*q.den:Int):Rat))=p-q:=by
 have h1:=DJ p;have h2:=DJ q
 have d1:=Hy p;have d2:=Hy q
 push_cast
 grind
def Lz:(((p.num*q.num:Int):Rat) / (((p.den:Int)*q.den:Int):Rat))=p*q:=by
 have h1:=DJ p;have h2:=DJ q
 have d1:=Hy p;have d2:=Hy q
 push_cast
 grind
def jA(hp:Sz j p)(hq:Sz k q):Sz (j+k+1) (p+q):=by
 rw[<-Ob]
 have:=Dd hp hq
 exact NO (vz (den_pos _) (den_pos _)) this.1 (cy this.2.1 (by lia))
def kH(hp:Sz j p)(hq:Sz k q):Sz (j+k+1) (p-q):=by
 rw[<-RZ]
 have:=Dd hp hq
 exact NO (vz (den_pos _) (den_pos _)) this.2.2 (cy this.2.1 (by lia))
def Nl(hp:Sz j p)(hq:Sz k q):Sz (j+k) (p*q):=by
 rw[<-Lz]
 have:=Dd hp hq
 exact NO (vz (den_pos _) (den_pos _)) (by rw[yB];exact Df hp.1 hq.1) this.2.1
def NZ(hp:Sz j p)(hq:Sz k q)(hj:j+k<=7990):Dj p.num q.den=true/\Dj q.num p.den=true/\Dj p.den q.den=true/\Dj p.num q.num=true:=by
 refine⟨Gj hp.1 (by simpa using hq.2) (by lia) (by lia),Gj hq.1 (by simpa using hp.2) (by lia) (by lia),Gj (by simpa using hp.2) (by simpa using hq.2) (by lia) (by lia),Gj hp.1 hq.1 (by lia) (by lia)⟩
def dm(hp:Sz j p)(hq:Sz k q)(hj:j+k<=7990):Ez [aD p,aD q] S=Gc ((aD (p+q)),S):=by
 obtain⟨m1,m2,m3,m4⟩:=NZ hp hq (by lia)
 have b:=Dd hp hq
 have l:=Jd (S:=S) (t:=p.num*q.den+q.num*p.den) (b:=p.den*q.den) (vz (den_pos _) (den_pos _)) (C5 b.2.1 (by lia))
 rw[JS (vz (den_pos _) (den_pos _)),Ob]at l
 simp only[aD]at l⊢
 simp[Ez,RX,m1,m2,m3,l]
def pM(hp:Sz j p)(hq:Sz k q)(hj:j+k<=7990):Jr [aD p,aD q] S=Gc ((aD (p-q)),S):=by
 obtain⟨m1,m2,m3,m4⟩:=NZ hp hq (by lia)
 have b:=Dd hp hq
 have l:=Jd (S:=S) (t:=p.num*q.den-q.num*p.den) (b:=p.den*q.den) (vz (den_pos _) (den_pos _)) (C5 b.2.1 (by lia))
 rw[JS (vz (den_pos _) (den_pos _)),RZ]at l
 simp only[aD]at l⊢
 simp[Jr,Q6,m1,m2,m3,l]
def ZX(hp:Sz j p)(hq:Sz k q)(hj:j+k<=7990):FN [aD p,aD q] S=Gc ((aD (p*q)),S):=by
 obtain⟨m1,m2,m3,m4⟩:=NZ hp hq (by lia)
 have b:=Dd hp hq
 have l:=Jd (S:=S) (t:=p.num*q.num) (b:=p.den*q.den) (vz (den_pos _) (den_pos _)) (C5 b.2.1 (by lia))
 rw[JS (vz (den_pos _) (den_pos _)),Lz]at l
 simp only[aD]at l⊢
 simp[FN,PN,m3,m4,l]
def Pk(hp:Sz j p)(hq:Sz k q)(hj:j+k<=7990):BY [aD p,aD q] S=Gc ((aD (p+q)),S):=by
 obtain⟨m1,m2,m3,m4⟩:=NZ hp hq (by lia)
 have b:=Dd hp hq
 have l:=Qr (S:=S) (t:=p.num*q.den+q.num*p.den) (b:=p.den*q.den) (vz (den_pos _) (den_pos _)) (C5 b.2.1 (by lia))
 rw[JS (vz (den_pos _) (den_pos _)),Ob]at l
 simp only[aD]at l⊢
 simp[BY,Nj,m1,m2,m3,l]
def JJ(hp:Sz j p)(hq:Sz k q)(hj:j+k<=7990):Ae [aD p,aD q] S=Gc ((aD (p*q)),S):=by
 obtain⟨m1,m2,m3,m4⟩:=NZ hp hq (by lia)
 have b:=Dd hp hq
 have l:=Qr (S:=S) (t:=p.num*q.num) (b:=p.den*q.den) (vz (den_pos _) (den_pos _)) (C5 b.2.1 (by lia))
 rw[JS (vz (den_pos _) (den_pos _)),Lz]at l
 simp only[aD]at l⊢
 simp[Ae,Lv,m3,m4,l]
def gY:aD (-q)=.tup [.int (0-q.num),.int q.den]:=by
 unfold aD
 rw[show(-q).num=0-q.num by simp,show(-q).den=q.den by simp]
def kA(hq:Sz k q):Sz k (-q):=by
 unfold Sz
 rw[show(-q).num= -q.num by simp,show(-q).den=q.den by simp,Int.natAbs_neg]
 exact hq
def ZK(hp:Sz j p)(hq:Sz k q)(hj:j+k<=7990):De [aD p,aD q] S=Gc ((aD (p-q)),S):=by
 have l:=Pk (S:=S) hp (kA hq) hj
 rw[gY]at l
 rw[Rat.sub_eq_add_neg]
 simp only[aD]at l⊢
 simp at l
 simp[De,Nc,l]
def US(h:0<b)(hb:b.natAbs<Ff):Cr [.int t,.int b] S=Gc ((aD (t / b)),S):=by
 rw[Jd h hb,JS h]
def Xr(h:0<b)(hb:b.natAbs<Ff):BW [.int t,.int b] S=Gc ((aD (t / b)),S):=by
 rw[Qr h hb,JS h]
def IH{a b:Int}(ha:a.natAbs<2^k)(hb:b.natAbs<2^k):(a+b).natAbs<2^(k+1):=by
 have e:2^(k+1)=2^k+2^k:=by rw[ABA];lia
 have:=Int.natAbs_add_le a b
 lia
def J6{a b:Int}(ha:a.natAbs<2^j)(hb:b.natAbs<2^k):(a*b).natAbs<2^(j+k):=by
 rw[yB];exact Df ha hb
def VL(h:0<w+m):((p.num*q.den*w+q.num*p.den*m:Int):Rat) / (((p.den:Int)*q.den*(w+m):Int):Rat)=(p*w+q*m) / (w+m):=by
 have h1:=DJ p;have h2:=DJ q
 have d1:=Hy p;have d2:=Hy q
 have d3:((w:Rat)+(m:Rat))≠0:=by
  intro e
  have:((w+m:Int):Rat)=0:=by push_cast;exact e
  have:=yC.mp this
  lia
 push_cast
 grind
section
variable{w m:Int}
def YQ(hp:Sz j p)(hq:Sz k q)(hw:w.natAbs<2^n)(hm:m.natAbs<2^n):(p.num*q.den*w+q.num*p.den*m).natAbs<2^(j+k+n+1)/\((p.den:Int)*q.den*(w+m)).natAbs<2^(j+k+(n+1)):=by
 have d1:((p.den:Int)).natAbs<2^j:=by simpa using hp.2
 have d2:((q.den:Int)).natAbs<2^k:=by simpa using hq.2
 refine⟨IH (J6 (J6 hp.1 d2) hw) ?_,J6 (J6 d1 d2) (IH hw hm)⟩
 have:=J6 (J6 hq.1 d1) hm
 rwa [AA5 k j]at this
def kG(hp:Sz j p)(hq:Sz k q)(hw:w.natAbs<2^n)(hm:m.natAbs<2^n)(h:0<w+m)(hj:j+k+n+1<=7990):HN [aD p,.int w,aD q,.int m] S=Gc ((aD ((p*w+q*m) / (w+m))),S):=by
 obtain⟨m1,m2,m3,m4⟩:=NZ hp hq (by lia)
 have d1:((p.den:Int)).natAbs<2^j:=by simpa using hp.2
 have d2:((q.den:Int)).natAbs<2^k:=by simpa using hq.2
 have b:=YQ hp hq hw hm
 have m5:Dj (p.num*q.den) w=true:=Gj (J6 hp.1 d2) hw (by lia) (by lia)
 have m6:Dj (q.num*p.den) m=true:=Gj (J6 hq.1 d1) hm (by lia) (by lia)
 have m7:Dj ((p.den:Int)*q.den) (w+m)=true:=Gj (J6 d1 d2) (IH hw hm) (by lia) (by lia)
 have l:=US (S:=S) (t:=p.num*q.den*w+q.num*p.den*m) (b:=p.den*q.den*(w+m)) (vz (vz (den_pos _) (den_pos _)) h) (C5 b.2 (by lia))
 rw[VL h]at l
 simp only[aD]at l⊢
 simp[HN,QD,m1,m2,m3,m5,m6,m7,l]
end
end
section
variable{S:Sto}{p:Nat}
def ZN(h:p<S.length):dr (S.set p (.lst r)) (.ref p)=.own r:=An (ui h)
def Pen(ds:Wp D):Prop:=∃a b c d:Int,ds=[.int a,.int b,.int c,.int d]/\0<=d/\d<1000000007
def D0(p:Nat)(S:Sto):Prop:=∃ds,S[p]?=Gc (.lst ds)/\Pen ds
structure Pn(p:Nat)(S S':Sto):Prop where
 same:Bq [p] S S'
 pen:D0 p S'
def Pn.trans(h:Pn p S S')(g:Pn p S' S2):Pn p S S2:=⟨h.same.trans g.same,g.pen⟩
def Pn.get(h:Pn p S S')(e:S[n]?=Gc c)(ha:n≠p):S'[n]?=Gc c:=h.same.get e (by simpa using ha)
def Pn.refl(h:D0 p S):Pn p S S:=⟨.refl,h⟩
def D0.lt(h:D0 p S):p<S.length:=by obtain⟨ds,e,_⟩:=h;exact Ai e
def D0.app(h:D0 p S) T:D0 p (S++T):=by obtain⟨ds,e,hp⟩:=h;exact⟨ds,by rw[uU (Ai e)];exact e,hp⟩
inductive Drw(p:Nat)(n:Int)(S:Sto):Prop
 |mk (r:Int) (S':Sto) (e:AG [.ref p,.int n] S=Gc (.int r,S')) (a:0<=r) (b:r<n) (g:Pn p S S')
def Am(h:D0 p S)(h0:0<n)(h1:n<1152921504606846976):Drw p n S:=by
 obtain⟨ds,hp,a,b,c,d,rfl,hd0,hd1⟩:=h
 have hl:=Ai hp
 have hs:=EX h0 h1
 have hr:=An hp
 have hc:=AQ hp
 by_cases hb:b=1/\0<a
 .obtain⟨rfl,ha⟩:=hb
  refine⟨a % n,S.set p (.lst [.int (a / n),.int 1,.int c,.int d]),?_,xh _ (by lia),yH _ h0,.set (by simp),_,ui hl,_,_,_,_,rfl,hd0,hd1⟩
  simp[AG,IL,ha,h0,hs,hr,hc]
 .have m1:Dj (d+17) (69621+2*(c+1))=true:=mulL (by lia) (by lia)
  have m2:Dj 2 (c+1)=true:=mulL (by decide) (by decide)
  generalize ht:(d+17)*(69621+2*(c+1)) % 2147483647=t at*
  have t0:0<=t:=by rw[<-ht];exact xh _ (by decide)
  have t1:t<2147483647:=by rw[<-ht];exact yH _ (by decide)
  have m3:Dj t t=true:=mulL (by lia) (by lia)
  have m4:Dj 40503 (c+1)=true:=mulL (by decide) (by decide)
  generalize hu:(t*t+40503*(c+1)+5) % 2147483629=u at*
  have u0:0<=u:=by rw[<-hu];exact xh _ (by decide)
  have u1:u<2147483629:=by rw[<-hu];exact yH _ (by decide)
  have m5:Dj u 48271=true:=mulL (by lia) (by lia)
  have d32:(32:Int).natAbs<Ff:=EX (by decide) (by decide)
  have d32':(32:Nat)<Ff:=d32
  refine⟨u*48271 % 2147483647 / 32 % n,S.set p (.lst [.int a,.int b,.int (c+1),.int d]),?_,xh _ (by lia),yH _ h0,.set (by simp),_,ui hl,_,_,_,_,rfl,hd0,hd1⟩
  by_cases hb1:b=1
  .subst hb1
   have ha:¬0<a:=λz=>hb ⟨rfl,z⟩
   simp[AG,IL,ha,h0,hs,hr,hc,ZN,hl,m1,m2,m3,m4,m5,ht,hu,d32']
  .have hb2:(b==1)=false:=by simpa using hb1
   simp[AG,IL,hb2,h0,hs,hr,hc,ZN,hl,m1,m2,m3,m4,m5,ht,hu,d32']
def jU c:∃p S',Hk [.int c] S=Gc (.ref p,S')/\D0 p S'/\Bq [] S S'/\S.length<=p:=by
 refine⟨S.length,S++[.lst [.int c,.int (if(10:Int)^18<=c then 1 else 0),.int 0,.int (c % 1000000007)]],?_,⟨_,uz,_,_,_,_,rfl,xh _ (by decide),yH _ (by decide)⟩,.app,ue _⟩
 simp[Hk,PY]
def DA(h:gOk gs S):BZ gs t c f [] acc E S=Gc (acc,S):=by
 unfold BZ
 rw[vD h]
def NL (h:gOk gs S)(hz:acc.length<sizeLine):BZ gs t c f (d::ds) acc E S=(t d E S).bind λE1=>(c E1 S).bind λr=>match r.1 with
      | .bl true => (f E1 r.2).bind fun p => BZ gs t c f ds (acc ++ [p.1]) E1 p.2
      | .bl false => BZ gs t c f ds acc E1 r.2
      | _=>none:=by
  rw [BZ, vD h, vD hz]
  all_goals rfl
def FH(h:gOk gs S)(hz:acc.length<sizeLine)(e1:t d E S=Gc E1)(e2:c E1 S=Gc (.bl true,S1)):BZ gs t c f (d::ds) acc E S=(f E1 S1).bind λp=>BZ gs t c f ds (acc++[p.1]) E1 p.2:=by
 rw[NL h hz,e1]
 show(c E1 S).bind _=_
 rw[e2]
 rfl
def Ir(h:gOk gs S)(hz:acc.length<sizeLine)(e1:t d E S=Gc E1)(e2:c E1 S=Gc (.bl false,S1)):BZ gs t c f (d::ds) acc E S=BZ gs t c f ds acc E1 S1:=by
 rw[NL h hz,e1]
 show(c E1 S).bind _=_
 rw[e2]
 rfl
theorem Ol{gs:Gd}{t:Tf}{f:Ev}{I:Sto->Prop}(hg:∀S,I S->gOk gs S):∀{ds acc} {os} {S},os.length=m->I S->acc.length+ds.length<=sizeLine->(∀d∈ds,∀os S,os.length=m->I S->∃us y S',us.length=m/\t d (C++os) S=Gc (C++us)/\f (C++us) S=Gc (y,S')/\I S'/\R d y)->∃ys S',BZ gs t BI f ds acc (C++os) S=Gc (acc++ys,S')/\I S'/\ys.length=ds.length/\Paired R ds ys
 | [],acc,os,S,ho,hI,hz,h=>⟨[],S,by rw[DA (hg S hI)];simp,hI,rfl,.nil⟩
 |d::ds,acc,os,S,ho,hI,hz,h=>by
  obtain⟨us,y,S1,hu,e1,e2,I1,r1⟩:=h d um os S ho hI
  obtain⟨ys,S2,e3,I2,l2,r2⟩:=Ol hg (ds:=ds) (acc:=acc++[y]) (os:=us) (S:=S1) hu I1 (by simp at hz ⊢; lia) λd' hd=>h d' (uX _ hd)
  refine⟨y::ys,S2,?_,I2,by simp[l2],.cons r1 r2⟩
  rw[FH (hg S hI) (by simp at hz;lia) e1 Ds,e2,A3,e3]
  simp
theorem comp_map(hg:gOk gs S):∀{ds acc} {os},os.length=m->acc.length+ds.length<=sizeLine->(∀d∈ds,∀os,os.length=m->∃us,us.length=m/\t d (C++os) S=Gc (C++us)/\f (C++us) S=Gc (g d,S))->BZ gs t BI f ds acc (C++os) S=Gc (acc++ds.map g,S)
 | [],acc,os,ho,hz,h=>by rw[DA hg];simp
 |d::ds,acc,os,ho,hz,h=>by
  obtain⟨us,hu,e1,e2⟩:=h d um os ho
  rw[FH hg (by simp at hz;lia) e1 Ds,e2,A3]
  rw[comp_map hg hu (by simp at hz ⊢; lia) λd' hd=>h d' (uX _ hd)]
  simp
theorem Gm{I:Wp D->En->Sto->Prop}(hg:∀ds E S,I ds E S->gOk gs S):∀{ds} {E} {S},I ds E S->(∀d ds E S,I (d::ds) E S->∃E1 E2 S2,t d E S=Gc E1/\b E1 S=Gc (.nx,E2,S2)/\I ds E2 S2)->∃E' S',Lx gs t b ds E S=Gc (.nx,E',S')/\I [] E' S'
 | [],E,S,hI,h=>⟨E,S,Jh (hg _ _ _ hI),hI⟩
 |d::ds,E,S,hI,h=>by
  obtain⟨E1,E2,S2,e1,e2,I2⟩:=h d ds E S hI
  obtain⟨E',S',e3,I3⟩:=Gm hg I2 h
  exact⟨E',S',by rw[EE (hg _ _ _ hI),e1];simp[e2,e3],I3⟩
def pick{xs:Wp D}{r:Int}(h0:0<=r)(h1:r<xs.length):∃x,atI xs r=Gc x/\x∈xs:=⟨_,Zj h0 h1,yD _⟩
theorem Kb{P:β->Prop}:∀{xs:Wp α} {ys},Paired (λ_ y=>P y) xs ys->∀y∈ys,P y
 |_,_,.nil,y,h=>by cases h
 |_,_,.cons r t,y,h=>by
  rcases uZ.mp h with h|h
  .rw[h];exact r
  .exact Kb t y h
def II:(Nd lo n).length=n:=by simp[Nd]
end
def Ok(G B:Nat)(r:Rat):Prop:=∃z:Nat,r*(G:Rat)=(z:Rat)/\z<=B
def NX{n:Nat}(h:0<n):(n:Rat)≠0:=by
 have:n≠0:=by lia
 exact_mod_cast this
def Ok.sz(h:Ok G B r)(hG:0<G)(g:G<2^k)(b:B<2^k):Sz k r:=by
 obtain⟨z,e,hz⟩:=h
 have e2:r=((z:Int):Rat) / ((G:Int):Rat):=by
  have:=NX hG
  rw[show(((z:Nat):Int):Rat)=(z:Rat)from rfl,show(((G:Nat):Int):Rat)=(G:Rat)from rfl,<-e]
  grind
 rw[e2]
 exact NO (by lia) (by simpa using vM hz b) (by simpa using g)
def Ok.up(h:Ok G B r)(hB:B*t<=B'):Ok (G*t) B' r:=by
 obtain⟨z,e,hz⟩:=h
 refine⟨z*t,?_,ub (vf t hz) hB⟩
 push_cast
 rw[<-e]
 grind
def Ok.zero:Ok G B 0:=⟨0,by simp,wM _⟩
def Ok.one(h:G<=B):Ok G B 1:=⟨G,by simp,h⟩
def Ok.mix{G B a b t:Nat}(hr:Ok G B r)(ho:Ok G B o)(ht:a+b=t)(h0:0<t):Ok (G*t) (B*t) ((r*(a:Rat)+o*(b:Rat)) / (t:Rat)):=by
 obtain⟨z,e1,h1⟩:=hr
 obtain⟨y,e2,h2⟩:=ho
 refine⟨z*a+y*b,?_,?_⟩
 .have:=NX h0
  push_cast
  rw[<-e1,<-e2]
  grind
 .rw[<-ht,Nat.mul_add]
  exact Nat.add_le_add (vf a h1) (vf b h2)
structure Tr where
 p:Nat
 k:Nat
 b:Nat
 ho:Wp Rat
 h:Int
 l:Int
structure Ld where
 k:Nat
 n:Int
 ow:Wp Rat
structure Stt where
 AA:Wp Ld
 hold:Wp Rat
 nums:Wp Int
inductive AR where
 |CT (p k:Nat) (n:Int)
 |GP (a b:Nat)
 |swap (l:Nat) (g:Int) (k:Nat) (n:Int)
 |Bx (t:Int) (l:Nat) (g:Int) (k:Nat) (n:Int)
 |CW (l:Nat) (n:Int)
 |thr (l:Nat) (n:Int) (ws:Wp Int)
 |Fe (p q:Nat) (s:Rat)
noncomputable def shD(rs:Wp Rat):D:=.tup (rs.map aD)
noncomputable def Tr.d(t:Tr):D:=.tup [.int t.p,.int t.k,.int t.b,shD t.ho,.int t.h,.int t.l]
noncomputable def Ld.d(l:Ld):D:=.tup [.int l.k,.int l.n,shD l.ow]
noncomputable def AR.d:AR->D
 | .CT p k n=>.tup [.str "bring",.int p,.int k,.int n]
 | .GP a b=>.tup [.str "pool",.int a,.int b]
 | .swap l g k n=>.tup [.str "swap",.int l,.int g,.int k,.int n]
 | .Bx t l g k n=>.tup [.str "trade",.int t,.int l,.int g,.int k,.int n]
 | .CW l n=>.tup [.str "spoil",.int l,.int n]
 | .thr l n ws=>.tup [.str "throw",.int l,.int n,.tup (ws.map .int)]
 | .Fe p q s=>.tup [.str "sell",.int p,.int q,aD s]
noncomputable def HG(x:Rat)(os ss:Wp Rat):Wp Rat:=z9 (λs o=>s*(1-x)+o*x) ss os
noncomputable def Gx(p q:Nat)(s:Rat)(ss:Wp Rat):Wp Rat:=(ss.set p (ss.getD p 0-ss.getD p 0*s)).set q (ss.getD q 0+ss.getD p 0*s)
noncomputable def B9(n m:Int)(ss os:Wp Rat):Wp Rat:=z9 (λs o=>(s*n+o*m) / (n+m:Int)) ss os
noncomputable def D6(t:Tr)(ls:Wp Ld)(ws:Wp Int):Int:=(ls.map λl=>l.n*ws.getD l.k 0).sum+t.b*ws.getD t.k 0
noncomputable def JB(t:Tr)(ls:Wp Ld)(l:Nat)(n:Int)(ws:Wp Int):Rat:=((n*ws.getD ((ls[l]?.map (·.k)).getD 0) 0:Int):Rat) / (D6 t ls ws:Rat)
noncomputable def AL(ls:Wp Ld)(l:Nat):Ld:=ls.getD l ⟨0,0,[]⟩
noncomputable def less(ls:Wp Ld)(l:Nat)(n:Int):Wp Ld:=ls.set l {AL ls l with n:=(AL ls l).n-n}
noncomputable def Ub(p i:Nat):Wp Rat:=(u7 p).map λj=>if j=i then 1 else 0
noncomputable def step(t:Tr)(s:Stt):AR->Stt
 | .CT p k n=>{s with AA:=s.AA++[⟨k,n,Ub t.p p⟩]}
 | .GP a b=>{s with AA:=less (less s.AA a (AL s.AA a).n) b (AL s.AA b).n++[⟨(AL s.AA a).k,(AL s.AA a).n+(AL s.AA b).n,B9 (AL s.AA a).n (AL s.AA b).n (AL s.AA a).ow (AL s.AA b).ow⟩]}
 | .swap l g k n=>{s with AA:=less s.AA l g++[⟨k,n,(AL s.AA l).ow⟩]}
 | .Bx u l g k n=>{s with AA:=less s.AA l g++[⟨k,n,(AL s.AA l).ow⟩],nums:=s.nums++[u]}
 | .CW l n=>{s with AA:=less s.AA l n}
 | .thr l n ws=>{s with AA:=(less s.AA l n).map λx=>{x with ow:=HG (JB t s.AA l n ws) (AL s.AA l).ow x.ow},hold:=HG (JB t s.AA l n ws) (AL s.AA l).ow s.hold}
 | .Fe p q x=>{s with AA:=s.AA.map λy=>{y with ow:=Gx p q x y.ow},hold:=Gx p q x s.hold}
def IB(t:Tr):Prop:=1<=t.p/\t.p<=4/\1<=t.k/\t.k<=5/\1<=t.b/\t.b<=20
def Can(t:Tr)(s:Stt):AR->Prop
 | .CT p k n=>p<t.p/\k<t.k/\1<=n/\n<2^131
 | .GP a b=>a≠b/\a<s.AA.length/\b<s.AA.length/\0<(AL s.AA a).n/\0<(AL s.AA b).n/\(AL s.AA a).k=(AL s.AA b).k
 | .swap l g k n=>l<s.AA.length/\1<=g/\g<=(AL s.AA l).n/\k<t.k/\k≠(AL s.AA l).k/\1<=n/\n<2^131
 | .Bx u l g k n=>l<s.AA.length/\1<=g/\g<=(AL s.AA l).n/\k<t.k/\k≠(AL s.AA l).k/\1<=n/\n<2^131/\u∉s.nums/\0<=u/\u<=9
 | .CW l n=>l<s.AA.length/\1<=n/\n<=(AL s.AA l).n
 | .thr l n ws=>l<s.AA.length/\1<=n/\n<=(AL s.AA l).n/\ws.length=t.k+1/\∀w∈ws,1<=w/\w<=99
 | .Fe p q x=>p≠q/\p<t.p/\q<t.p/\0<x.num/\x.num<=x.den/\x.den<=12
structure E9(t:Tr)(k:Nat)(s:Stt):Prop where
 len:s.AA.length<=4+k
 kind:∀l∈s.AA,l.k<t.k
 pcs:∀l∈s.AA,0<=l.n/\l.n<2^(131+k)
 own:∀l∈s.AA,l.ow.length=t.p
 hold:s.hold.length=t.p
 nm:s.nums.length<=k
 gb:∃G B:Nat,0<G/\G<=B/\B<2^(30+170*k)/\(∀l∈s.AA,∀r∈l.ow,Ok G B r)/\∀r∈s.hold,Ok G B r
def E9.sz(h:E9 t k s):(∀l∈s.AA,∀r∈l.ow,Sz (30+170*k) r)/\∀r∈s.hold,Sz (30+170*k) r:=by
 obtain⟨G,B,g0,gb,b,h1,h2⟩:=h.gb
 exact⟨λl hl r hr=>(h1 l hl r hr).sz g0 (vM gb b) b,λr hr=>(h2 r hr).sz g0 (vM gb b) b⟩
def Ap(h:l<ls.length):AL ls l∈ls:=by
 unfold AL
 rw[u4,uT h]
 exact yD h
def EO(h:l<ls.length):ls[l]?=Gc (AL ls l):=by
 unfold AL
 rw[u4,uT h]
 rfl
def Ot(h:x∈less ls l n)(hl:l<ls.length):x∈ls\/x={AL ls l with n:=(AL ls l).n-n}:=by
 unfold less at h
 rcases xY h with h|h
 .exact .inl h
 .exact .inr h
def Dr:(less ls l n).length=ls.length:=by simp[less]
theorem Q0{P:Int->Prop}:∀{ys},(∀y∈ys,∃i,y=.int i/\P i)->∃ns:Wp Int,ys=ns.map D.int/\∀n∈ns,P n
 | [],_=>⟨[],rfl,λn h=>by cases h⟩
 |y::ys,h=>by
  obtain⟨i,rfl,hi⟩:=h y um
  obtain⟨ns,rfl,hn⟩:=Q0 (P:=P) (ys:=ys) λz hz=>h z (uX _ hz)
  exact⟨i::ns,rfl,λn hn'=>by
   rcases uZ.mp hn' with e|e
   .rw[e];exact hi
   .exact hn n e⟩
def O3{ns:Wp Int}(h:∀n∈ns,0<=n/\n<=8):0<=ns.sum/\ns.sum<=8*ns.length/\∀n∈ns,n<=ns.sum:=by
 induction ns with
 |nil=>simp
 |cons a l ih=>
  have h1:=h a um
  obtain⟨i1,i2,i3⟩:=ih λn hn=>h n (uX _ hn)
  rw[wx,vH]
  refine⟨by lia,by push_cast;lia,λn hn=>?_⟩
  rcases uZ.mp hn with e|e
  .lia
  .have:=i3 n e;lia
def SN (h:D0 p S)(hn:n ≤ 20):∃(ns:Wp Int)(S':Sto),BZ [] (tNm 1) BI (eOp (o2 wIx) [(Ja [(eC (.int 0)),(eC (.int 1)),(AF AG [(eV 0),(eC (.int 4))]),(AF AG [(eV 0),(eC (.int 9))])]),(AF AG [(eV 0),(eC (.int 4))])]) (Nd 0 n) [] [Gc (.ref p),none] S=Gc (ns.map D.int,S')/\Pn p S S'/\ns.length=n/\∀i ∈ ns,0 ≤ i/\i ≤ 8:=by
  obtain⟨ys,S',e,hI,l,r⟩:=Ol (gs:=[]) (t:=tNm 1) (f:=eOp (o2 wIx) [(Ja [(eC (.int 0)),(eC (.int 1)),(AF AG [(eV 0),(eC (.int 4))]),(AF AG [(eV 0),(eC (.int 9))])]),(AF AG [(eV 0),(eC (.int 4))])]) (C:=[Gc (.ref p)]) (m:=1) (I:=Pn p S) (R:=λ_ y=>∃i:Int,y = .int i/\0 ≤ i/\i ≤ 8)
    (λ_ _=>AW) (ds:=Nd 0 n) (acc:=[]) (os:=[none]) rfl (Pn.refl h) (by rw[II];simp;exact AJ (by lia)) λd _ os S0 ho I0=>by
      obtain⟨o,rfl⟩:=NC ho
      obtain⟨r1,S1,e1,a1,b1,p1⟩:=Am I0.pen (n:=4) (by decide) (by decide)
      obtain⟨r2,S2,e2,a2,b2,p2⟩:=Am p1.pen (n:=9) (by decide) (by decide)
      obtain⟨r3,S3,e3,a3,b3,p3⟩:=Am p2.pen (n:=4) (by decide) (by decide)
      obtain⟨x,ex,hx⟩:=pick (xs:=[.int 0,.int 1,.int r1,.int r2]) (r:=r3) a3 (by simpa using b3)
      refine ⟨[Gc d], x, S3, rfl, by simp, by simp [e1, e2, e3, ex], ((I0.trans p1).trans p2).trans p3, ?_⟩
      simp only [uZ, uv, ve] at hx
      rcases hx with rfl | rfl | rfl | rfl
      · exact ⟨0, rfl, by decide, by decide⟩
      · exact ⟨1, rfl, by decide, by decide⟩
      · exact ⟨r1, rfl, by lia, by lia⟩
      · exact ⟨r2, rfl, by lia, by lia⟩
  obtain⟨ns,rfl,hns⟩:=Q0 (Kb r)
  exact ⟨ns, S', by simpa using e, hI, by simpa [II] using l, hns⟩
noncomputable def Ie(ns:Wp Int):Wp Rat:=ns.map λ(n:Int)=>(n:Rat) / (ns.sum:Rat)
def Lm(h:∀n∈ns,0<=n/\n<=8)(hs:0<ns.sum):∀r∈Ie ns,Ok ns.sum.toNat ns.sum.toNat r:=by
 intro r hr
 obtain⟨n,hn,rfl⟩:=vT.mp hr
 have h1:=h n hn
 have h2:=(O3 h).2.2 n hn
 refine⟨n.toNat,?_,by lia⟩
 have e1:((ns.sum.toNat:Nat):Rat)=(ns.sum:Rat):=by
  have:((ns.sum.toNat:Nat):Int)=ns.sum:=by lia
  exact congrArg (λz:Int=>(z:Rat)) this
 have e2:((n.toNat:Nat):Rat)=(n:Rat):=by
  have:((n.toNat:Nat):Int)=n:=by lia
  exact congrArg (λz:Int=>(z:Rat)) this
 rw[e1,e2]
 have:(ns.sum:Rat)≠0:=by
  intro z
  have:=yC.mp z
  lia
 grind
theorem VN:∀{ns:Wp Int},(ns.map λ(n:Int)=>(n:Rat) / s).sum=(ns.sum:Rat) / s
 | []=>by simp;grind
 |n::ns=>by
  rw[ux,wx,wx,VN (ns:=ns)]
  push_cast
  grind
def Pb(hs:0<ns.sum):(Ie ns).sum=1:=by
 unfold Ie
 rw[VN]
 have:(ns.sum:Rat)≠0:=by
  intro z
  have:=yC.mp z
  lia
 grind
def R1(hq:S[q]?=Gc (.lst (ns.map D.int)))(hl:ns.length<=20)(hn:∀n∈ns,0<=n/\n<=8)(hs:0<ns.sum):BZ [(q,ns.map D.int)] (tNm 1) BI (AF BW [eV 1,eOp (o1 Yf) [eV 0]]) (ns.map D.int) [] [Gc (.ref q),none] S=Gc ((Ie ns).map aD,S):=by
 obtain⟨s1,s2,s3⟩:=O3 hn
 have:=comp_map (gs:=[(q,ns.map D.int)]) (t:=tNm 1) (f:=AF BW [eV 1,eOp (o1 Yf) [eV 0]]) (C:=[Gc (.ref q)]) (m:=1) (g:=λd=>match d with| .int n=>aD ((n:Rat) / (ns.sum:Rat))|d=>d) (S:=S) (λg hg=>by rw[vR.mp hg];exact AQ hq) (ds:=ns.map D.int) (acc:=[]) (os:=[none]) rfl (by simp;exact AJ (by lia)) λd hd os ho=>by
  obtain⟨o,rfl⟩:=NC ho
  obtain⟨i,hi,rfl⟩:=vT.mp hd
  have m:=Xr (S:=S) (t:=i) hs (EX (by lia) (by lia))
  exact⟨[Gc (.int i)],rfl,by simp,by simp[An hq,GR,m]⟩
 have e2:(ns.map D.int).map (λd=>match d with| .int n=>aD ((n:Rat) / (ns.sum:Rat))|d=>d)=(Ie ns).map aD:=by
  unfold Ie
  rw[wD,wD]
  rfl
 rw[e2]at this
 simpa using this
def RY(h:D0 p S){n:Nat}(h1:1<=n)(h2:n<=4):∃rs S',DO [.ref p,.int n] S=Gc (shD rs,S')/\Pn p S S'/\(rs.length=n/\rs.sum=1)/\∃G,0<G/\G<=32/\∀r∈rs,Ok G G r:=by
 obtain⟨ns,S1,e1,p1,l1,i1⟩:=SN (n:=n) h (by lia)
 obtain⟨s1,s2,s3⟩:=O3 i1
 have hq:(S1++[Cl.lst (ns.map D.int)])[S1.length]?=Gc (.lst (ns.map D.int)):=uz
 have pp:D0 p (S1++[Cl.lst (ns.map D.int)]):=p1.pen.app _
 have hlt:=p1.pen.lt
 have r1:Jc (n:Int)=true:=ET (by lia) (by lia)
 by_cases hz:ns.sum=0
 .obtain⟨r,S2,e2,a2,b2,p2⟩:=Am pp (n:=n) (by lia) (by lia)
  have hq2:S2[S1.length]?=Gc (.lst (ns.map D.int)):=p2.get hq (by lia)
  have hn':∀x∈ns.set r.toNat 1,0<=x/\x<=8:=λx hx=>by
   rcases xY hx with hx|rfl
   .exact i1 x hx
   .exact⟨by decide,by decide⟩
  have hs':0<(ns.set r.toNat 1).sum:=by
   have:=(O3 hn').2.2 1 (List.mem_set (by lia) 1)
   lia
  have hq3:(S2.set S1.length (.lst ((ns.set r.toNat 1).map D.int)))[S1.length]?=Gc (.lst ((ns.set r.toNat 1).map D.int)):=ui (Ai hq2)
  have e3:=R1 hq3 (by simp;lia) hn' hs'
  have ix:ixN ns.length r=Gc r.toNat:=R6 a2 (by lia)
  refine⟨Ie (ns.set r.toNat 1),S2.set S1.length (.lst ((ns.set r.toNat 1).map D.int)),?_,⟨?_,?_⟩,⟨by simp[Ie,l1],Pb hs'⟩,_,(show 0<(ns.set r.toNat 1).sum.toNat by lia),?_,Lm hn' hs'⟩
  .have sq3:=JE hq3
   rw[yI]at e3 sq3 hq3
   simp[DO,JP,r1,e1,An hq,GR,hz,e2,AQ hq2,ix,sq3,e3,shD]
  .have g:Bq [p] S (S1++[Cl.lst (ns.map D.int)]):=p1.same.trans .app
   refine⟨ub (g.trans p2.same).len (by simp),λm hm hmp=>?_⟩
   rw[uW (by have:=p1.same.len;lia)]
   exact(g.trans p2.same).keep m hm hmp
  .obtain⟨ds,ed,hd⟩:=p2.pen
   exact⟨ds,by rw[uW (by lia)];exact ed,hd⟩
  .have:=(O3 hn').2.1
   rw[wV]at this
   lia
 .have hz':(ns.sum==0)=false:=by simpa using hz
  have e3:=R1 hq (by lia) i1 (by lia)
  refine⟨Ie ns,S1++[Cl.lst (ns.map D.int)],?_,⟨p1.same.trans .app,pp⟩,⟨by simp[Ie,l1],Pb (by lia)⟩,_,(show 0<ns.sum.toNat by lia),by lia,Lm i1 (by lia)⟩
  have sq3:=JE hq
  simp[DO,JP,r1,e1,An hq,GR,hz',sq3,e3,shD]
def au:(2:Nat)<Ff:=EX (n:=2) (by decide) (by decide)
inductive Pcs(p j:Nat)(S:Sto):Prop
 |mk (n:Int) (S':Sto) (e:A8 [.ref p] S=Gc (.int n,S')) (g:Pn p S S') (a:1<=n) (b:n<2^j)
def Nm(h:D0 p S):Pcs p 130 S:=by
 obtain⟨r1,S1,e1,a1,b1,p1⟩:=Am h (n:=99) (by decide) (by decide)
 obtain⟨r2,S2,e2,a2,b2,p2⟩:=Am p1.pen (n:=4) (by decide) (by decide)
 obtain⟨r3,S3,e3,a3,b3,p3⟩:=Am p2.pen (n:=40) (by decide) (by decide)
 obtain⟨r4,S4,e4,a4,b4,p4⟩:=Am p3.pen (n:=999) (by decide) (by decide)
 obtain⟨r5,S5,e5,a5,b5,p5⟩:=Am p4.pen (n:=7) (by decide) (by decide)
 have pp:=(((p1.trans p2).trans p3).trans p4).trans p5
 have d2:=au
 have go:∀g:Int,1<=g->g<2^130->∃n:Int,atI [D.int (1+r2),.int (1+r3),.int (1+r4),.int g] (r5 / 2)=Gc (.int n)/\1<=n/\n<2^130:=λg g1 g2=>by
  obtain⟨x,ex,hx⟩:=pick (xs:=[D.int (1+r2),.int (1+r3),.int (1+r4),.int g]) (r:=r5 / 2) (by lia) (by simp;lia)
  simp only[uZ,uv,ve]at hx
  rcases hx with rfl|rfl|rfl|rfl
  .exact⟨_,ex,by lia,by lia⟩
  .exact⟨_,ex,by lia,by lia⟩
  .exact⟨_,ex,by lia,by lia⟩
  .exact⟨_,ex,g1,g2⟩
 first
  |(obtain⟨n,en,n1,n2⟩:=go (10^39+r1) (by lia) (by lia)
    exact⟨n,S5,by simp[A8,Hm,e1,e2,e3,e4,e5,d2]at en ⊢; simp[en],pp,n1,n2⟩)
  |(obtain⟨n,en,n1,n2⟩:=go (10^30+r1) (by lia) (by lia)
    exact⟨n,S5,by simp[A8,Hm,e1,e2,e3,e4,e5,d2]at en ⊢; simp[en],pp,n1,n2⟩)
def Mh(h:D0 p S):Pcs p 131 S:=by
 obtain⟨n,S',a,b,c,d⟩:=Nm h
 exact⟨n,S',a,b,c,Int.lt_trans d (by decide)⟩
def Hi{r:Int}(h:0<=r):∃m:Nat,r=m:=⟨r.toNat,by lia⟩
def qT(t:Tr):Prop:=0<=t.h/\t.h<=9/\0<=t.l/\t.l<=9
def Wj(h:D0 p S):∃t S',G4 [.ref p] S=Gc (Tr.d t,S')/\Pn p S S'/\IB t/\((t.ho.length=t.p/\t.ho.sum=1)/\qT t)/\∃G,0<G/\G<=32/\∀r∈t.ho,Ok G G r:=by
 obtain⟨r1,S1,e1,a1,b1,p1⟩:=Am h (n:=4) (by decide) (by decide)
 obtain⟨r2,S2,e2,a2,b2,p2⟩:=Am p1.pen (n:=5) (by decide) (by decide)
 obtain⟨r3,S3,e3,a3,b3,p3⟩:=Am p2.pen (n:=3) (by decide) (by decide)
 obtain⟨r4,S4,e4,a4,b4,p4⟩:=Am p3.pen (n:=20) (by decide) (by decide)
 obtain⟨r5,S5,e5,a5,b5,p5⟩:=Am p4.pen (n:=2) (by decide) (by decide)
 obtain⟨m1,rfl⟩:=Hi a1
 obtain⟨m2,rfl⟩:=Hi a2
 obtain⟨b,eb,hb1,hb2⟩:∃b:Nat,atI [D.int (1+r3),.int (1+r4)] r5=Gc (.int b)/\1<=b/\b<=20:=by
  obtain⟨x,ex,hx⟩:=pick (xs:=[D.int (1+r3),.int (1+r4)]) (r:=r5) a5 (by simpa using b5)
  obtain⟨m3,rfl⟩:=Hi a3
  obtain⟨m4,rfl⟩:=Hi a4
  simp only[uZ,uv,ve]at hx
  rcases hx with rfl|rfl
  .exact⟨1+m3,by rw[ex];simp,by lia,by lia⟩
  .exact⟨1+m4,by rw[ex];simp,by lia,by lia⟩
 obtain⟨rs,S6,e6,p6,l6,G,g0,g1,g2⟩:=RY p5.pen (n:=1+m1) (by lia) (by lia)
 obtain⟨r7,S7,e7,a7,b7,p7⟩:=Am p6.pen (n:=10) (by decide) (by decide)
 obtain⟨r8,S8,e8,a8,b8,p8⟩:=Am p7.pen (n:=10) (by decide) (by decide)
 rw[show((1+m1:Nat):Int)=1+(m1:Int) by lia]at e6
 refine⟨⟨1+m1,1+m2,b,rs,r7,r8⟩,S8,?_,((((((p1.trans p2).trans p3).trans p4).trans p5).trans p6).trans p7).trans p8,⟨by simp,by simp;lia,by simp,by simp;lia,hb1,hb2⟩,⟨l6,a7,by show r7<=9;lia,a8,by show r8<=9;lia⟩,G,g0,g1,g2⟩
 simp[G4,Ma,e1,e2,e3,e4,e5,eb,e6,e7,e8,Tr.d]
inductive Shr(p:Nat)(S:Sto):Prop
 |mk (x:Rat) (S':Sto) (e:FK [.ref p] S=Gc (aD x,S')) (g:Pn p S S') (a:0<x.num) (b:x.num<=x.den) (c:x.den<=12)
def XI(h:D0 p S):Shr p S:=by
 obtain⟨r1,S1,e1,a1,b1,p1⟩:=Am h (n:=12) (by decide) (by decide)
 obtain⟨r2,S2,e2,a2,b2,p2⟩:=Am p1.pen (n:=1+r1) (by lia) (by lia)
 have m:=Xr (S:=S2) (t:=1+r2) (b:=1+r1) (by lia) (EX (by lia) (by lia))
 obtain⟨m1,rfl⟩:=Hi a1
 obtain⟨m2,rfl⟩:=Hi a2
 have rp:=MW (1+(m2:Int)) (1+m1) (by lia)
 have eb:(((1+(m1:Int):Int)):Rat)=(((1+m1:Nat)):Rat):=by
  have:(1+(m1:Int))=((1+m1:Nat):Int):=by lia
  rw[this];rfl
 have en:(1+(m2:Int)).natAbs=1+m2:=by lia
 have gp:0<z8 (1+m2) (1+m1):=Nat.gcd_pos_of_pos_left _ (by lia)
 obtain⟨q,hq⟩:=Nat.gcd_dvd_left (1+m2) (1+m1)
 obtain⟨q',hq'⟩:=Nat.gcd_dvd_right (1+m2) (1+m1)
 refine⟨((1+(m2:Int):Int):Rat) / ((1+(m1:Int):Int):Rat),S2,?_,p1.trans p2,?_,?_,?_⟩
 .simp[FK,Ll,e1,e2,m]
 .rw[eb,rp.1,en]
  generalize z8 (1+m2) (1+m1)=g at*
  have:(1+(m2:Int))=((g*q:Nat):Int):=by lia
  rw[this,ABG,AAm _ (by lia)]
  have:q≠0:=λz=>by subst z;lia
  lia
 .rw[eb,rp.1,rp.2,en]
  generalize z8 (1+m2) (1+m1)=g at*
  have t1:(1+(m2:Int))=((g*q:Nat):Int):=by lia
  rw[t1,ABG,AAm _ (by lia),hq',Nat.mul_div_cancel_left _ gp]
  have:q<=q':=by
   have:g*q<=g*q':=by lia
   exact Nat.le_of_mul_le_mul_left this gp
  lia
 .rw[eb,rp.2]
  exact ub (Nat.div_le_self _ _) (by lia)
inductive Wts(p n:Nat)(S:Sto):Prop
 |mk (ws:Wp Int) (S':Sto) (e:DZ [.ref p,.int n] S=Gc (.tup (ws.map .int),S')) (g:Pn p S S') (a:ws.length=n) (b:∀w∈ws,1<=w/\w<=99)
def Ud (h:D0 p S)(hn:n ≤ 6):Wts p n S:=by
  obtain⟨ys,S',e,hI,l,r⟩:=Ol (gs:=[]) (t:=tNm 1) (f:=(eOp (o2 CM) [(eC (.int 1)),(eOp (o2 wIx) [(Ja [(AF AG [(eV 0),(eC (.int 3))]),(AF AG [(eV 0),(eC (.int 99))])]),(AF AG [(eV 0),(eC (.int 2))])])])) (C:=[Gc (.ref p)]) (m:=1) (I:=Pn p S) (R:=λ_ y=>∃i:Int,y = .int i/\1 ≤ i/\i ≤ 99)
    (λ_ _=>AW) (ds:=Nd 0 n) (acc:=[]) (os:=[none]) rfl (Pn.refl h) (by rw[II];simp;exact AJ (by lia)) λd _ os S0 ho I0=>by
      obtain⟨o,rfl⟩:=NC ho
      obtain⟨r1,S1,e1,a1,b1,p1⟩:=Am I0.pen (n:=3) (by decide) (by decide)
      obtain⟨r2,S2,e2,a2,b2,p2⟩:=Am p1.pen (n:=99) (by decide) (by decide)
      obtain⟨r3,S3,e3,a3,b3,p3⟩:=Am p2.pen (n:=2) (by decide) (by decide)
      obtain⟨x,ex,hx⟩:=pick (xs:=[.int r1,.int r2]) (r:=r3) a3 (by simpa using b3)
      simp only [uZ, uv, ve] at hx
      rcases hx with rfl | rfl
      · exact ⟨[Gc d], .int (1 + r1), S3, rfl, by simp, by simp [e1, e2, e3, ex], ((I0.trans p1).trans p2).trans p3, _, rfl, by lia, by lia⟩
      · exact ⟨[Gc d], .int (1 + r2), S3, rfl, by simp, by simp [e1, e2, e3, ex], ((I0.trans p1).trans p2).trans p3, _, rfl, by lia, by lia⟩
  obtain⟨ns,rfl,hns⟩:=Q0 (Kb r)
  have r1:Jc (n:Int)=true:=ET (by lia) (by lia)
  have e':BZ [] (tNm 1) BI (eOp (o2 CM) [(eC (.int 1)),(eOp (o2 wIx) [(Ja [(AF AG [(eV 0),(eC (.int 3))]),(AF AG [(eV 0),(eC (.int 99))])]),(AF AG [(eV 0),(eC (.int 2))])])]) (Nd 0 n) [] [Gc (.ref p),none] S=Gc (ns.map D.int,S'):=by simpa using e
  exact ⟨ns, S', by simp [DZ, Kr, r1, e'], hI, by simpa [II] using l, hns⟩
def F9(t:Tr)(ls:Wp Ld):Prop:=(∀l∈ls,l.k<t.k/\1<=l.n/\l.n<2^131/\l.ow.length=t.p/\l.ow.sum=1)/\∃G:Nat,0<G/\G<=32^ls.length/\∀l∈ls,∀r∈l.ow,Ok G G r
def F9.snoc(h:F9 t ls)(h1:l.k<t.k/\1<=l.n/\l.n<2^131/\l.ow.length=t.p/\l.ow.sum=1)(g0:0<g)(g1:g<=32)(g2:∀r∈l.ow,Ok g g r):F9 t (ls++[l]):=by
 obtain⟨ha,G,G0,G1,G2⟩:=h
 refine⟨λx hx=>?_,G*g,AAg G0 g0,?_,λx hx r hr=>?_⟩
 .rcases vE.mp hx with hx|hx
  .exact ha x hx
  .rw[vR.mp hx];exact h1
 .rw[vq,ABM,ABA]
  exact AAV G1 g1
 .rcases vE.mp hx with hx|hx
  .exact(G2 x hx r hr).up (ue _)
  .rw[vR.mp hx]at hr
   have:=(g2 r hr).up (t:=G) (B':=G*g) (by rw[yG];exact ue _)
   rwa [yG g G]at this
def F9.nil:F9 t []:=⟨λl hl=>(nomatch hl),1,by decide,by simp,λl hl=>(nomatch hl)⟩
def X9(h:D0 p S)(ht:IB t):∃ls S',Gv [.ref p,t.d] S=Gc (.tup (ls.map Ld.d),S')/\Pn p S S'/\F9 t ls/\ls.length<=4:=by
 obtain⟨t1,t2,t3,t4,t5,t6⟩:=ht
 have hlt:=h.lt
 have hq:(S++[Cl.lst []])[S.length]?=Gc (.lst []):=uz
 obtain⟨r1,S1,e1,a1,b1,p1⟩:=Am (h.app [Cl.lst []]) (n:=5) (by decide) (by decide)
 obtain⟨r2,S2,e2,a2,b2,p2⟩:=Am p1.pen (n:=3) (by decide) (by decide)
 obtain⟨n,en,hn⟩:∃n:Nat,atI [D.int 0,.int 1,.int r1] r2=Gc (.int n)/\n<=4:=by
  obtain⟨x,ex,hx⟩:=pick (xs:=[D.int 0,.int 1,.int r1]) (r:=r2) a2 (by simpa using b2)
  simp only[uZ,uv,ve]at hx
  rcases hx with rfl|rfl|rfl
  .exact⟨0,ex,by decide⟩
  .exact⟨1,ex,by decide⟩
  .exact⟨r1.toNat,by rw[ex,vh a1],by lia⟩
 have q2:S2[S.length]?=Gc (.lst []):=(p1.trans p2).get hq (by lia)
 have rn:Jc (n:Int)=true:=ET (by lia) (by lia)
 obtain⟨E',S',ef,ls,o,rfl,f1,f2,f3,f4,f5⟩:=Gm (gs:=[]) (t:=tNm 3) (b:=Bm (NH NV (eV 2) [BC [AF AG [eV 0,eOp (o2 wIx) [eV 1,eC (.int 1)]],AF A8 [eV 0],AF DO [eV 0,eOp (o2 wIx) [eV 1,eC (.int 0)]]]]))
  (I:=λds E S'=>∃(ls:Wp Ld) (o:uS D),E=[Gc (.ref p),Gc t.d,Gc (.ref S.length),o]/\S'[S.length]?=Gc (.lst (ls.map Ld.d))/\D0 p S'/\Bq [p] S S'/\F9 t ls/\ls.length+ds.length<=4)
  (λ_ _ _ _=>AW) (ds:=Nd 0 n) (E:=[Gc (.ref p),Gc t.d,Gc (.ref S.length),none]) (S:=S2)
  ⟨[],none,rfl,q2,p2.pen,Bq.app.trans (p1.trans p2).same,F9.nil,by simp[II];exact hn⟩ (by
    rintro d ds E S0 ⟨ls,o,rfl,i1,i2,i3,i4,i5⟩
    obtain⟨x1,T1,g1,c1,d1,k1⟩:=Am i2 (n:=t.k) (by lia) (by lia)
    obtain⟨x2,T2,g2,k2,c2,d2⟩:=Mh k1.pen
    obtain⟨rs,T3,g3,k3,l3,G,G0,G1,G2⟩:=RY k2.pen (n:=t.p) t1 t2
    obtain⟨m1,rfl⟩:=Hi c1
    have kk:=(k1.trans k2).trans k3
    have j1:T3[S.length]?=Gc (.lst (ls.map Ld.d)):=kk.get i1 (by lia)
    have hz:ls.length<sizeLine:=uV (show ls.length<5 by lia) (AJ (by decide))
    refine⟨[Gc (.ref p),Gc t.d,Gc (.ref S.length),Gc d],[Gc (.ref p),Gc t.d,Gc (.ref S.length),Gc d],T3.set S.length (.lst ((ls++[Ld.mk m1 x2 rs]).map Ld.d)),by simp,?_,ls++[Ld.mk m1 x2 rs],Gc d,rfl,ui (Ai j1),?_,?_,i4.snoc (l:=Ld.mk m1 x2 rs) ⟨show m1<t.k by lia,c2,d2,l3⟩ G0 G1 G2,by simp at i5 ⊢; lia⟩
    .have e3:atI [D.int t.p,.int t.k,.int t.b,shD t.ho,.int t.h,.int t.l] 1=Gc (.int t.k):=by simp
     simp[Tr.d,g1,g2,g3,AQ i1,AQ j1,hz,Ld.d]
    .obtain⟨ds',ed,hd⟩:=kk.pen
     exact⟨ds',by rw[uW (by lia)];exact ed,hd⟩
    .refine⟨ub (i3.trans kk.same).len (by simp),λm hm hmp=>?_⟩
     rw[uW (by lia)]
     exact(i3.trans kk.same).keep m hm hmp)
 refine⟨ls,S',?_,⟨f3,f2⟩,f4,by simpa using f5⟩
 simp[Gv,L5,e1,e2,en,rn,ef,An f1]
noncomputable def Bu(x:Ld):Cl:=.lst [.int x.k,.int x.n,shD x.ow]
structure SAt(S:Sto)(s l m:Nat)(as:Wp Nat)(st:Stt):Prop where
 root:S[s]?=Gc (.lst [.ref l,shD st.hold,.ref m])
 lo:S[l]?=Gc (.lst (as.map .ref))
 nu:S[m]?=Gc (.lst (st.nums.map .int))
 ld:∀(i a:Nat) (x:Ld),as[i]?=Gc a->st.AA[i]?=Gc x->S[a]?=Gc (Bu x)
 len:as.length=st.AA.length
 nd:(s::l::m::as).Nodup
theorem Zo:∀{ls:Wp Ld} {acc} {o} {S},acc.length+ls.length<=100->BZ [] (tNm 0) BI (fE (o1 O9) [eV 0]) (ls.map Ld.d) acc [o] S=Gc (acc++(List.range' S.length ls.length).map D.ref,S++ls.map Bu)
 | [],acc,o,S,h=>by rw[wG,DA AW];simp
 |x::ls,acc,o,S,h=>by
  rw[ux,FH (E1:=[Gc x.d]) AW (uV (show acc.length<101 by simp at h;lia) (AJ (by decide))) (by simp) Ds]
  have:fE (o1 O9) [eV 0] [Gc x.d] S=Gc (.ref S.length,S++[Bu x]):=by simp[Ld.d,Bu]
  rw[this,A3,Zo (by simp at h ⊢; lia)]
  simp[List.range'_succ]
def getElem?_at{α:Type}{xs:Wp α}{x:α}(h:n=xs.length):(xs++[x])[n]?=Gc x:=by subst h;exact uz
def OB{t:Tr}(hl:ls.length<=20):∃s l m as S',CF [.tup [t.d,.tup (ls.map Ld.d),x]] S=Gc (.ref s,S')/\SAt S' s l m as ⟨ls,t.ho,[]⟩/\Bq [] S S'/\(∀n∈s::l::m::as,S.length<=n):=by
 have e:=Zo (ls:=ls) (acc:=[]) (o:=none) (S:=S) (by simp;lia)
 refine⟨S.length+ls.length+2,S.length+ls.length,S.length+ls.length+1,List.range' S.length ls.length,S++ls.map Bu++[.lst ((List.range' S.length ls.length).map D.ref)]++[.lst []]++[.lst [.ref (S.length+ls.length),shD t.ho,.ref (S.length+ls.length+1)]],?_,⟨?_,?_,?_,?_,?_,?_⟩,?_,?_⟩
 .simp[CF,Ly,Tr.d,e,shD]
  lia
 .exact getElem?_at (by simp;lia)
 .rw[uU (by simp),uU (by simp)]
  exact getElem?_at (by simp)
 .rw[uU (by simp;lia)]
  exact getElem?_at (by simp;lia)
 .intro i a y ha hy
  have hi:i<ls.length:=(ua.mp hy).1
  have:a=S.length+i:=by
   rw[List.getElem?_range' hi]at ha
   simp at ha;lia
  subst this
  rw[uU (by simp;lia),uU (by simp;lia),uU (by simp;lia),vJ (by lia)]
  have hy':ls[i]?=Gc y:=hy
  simp[hy']
 .simp
 .rw[xE,xE,xE]
  refine⟨?_,?_,?_,List.nodup_range'⟩
  .simp only[uZ,zN];lia
  .simp only[uZ,zN];lia
  .simp only[zN];lia
 .rw[zH,zH,zH]
  exact .app
 .intro n hn
  simp only[uZ,zN]at hn
  lia
section
variable{S:Sto}{p:Nat}
@[simp] def sC:sqD S (shD rs)=some (rs.map aD,[]):=nr rfl
@[simp] def sY:dr S (shD rs)=.val (shD rs):=nr rfl
@[simp] def rB:asS (.val (shD rs))=some (rs.map aD):=nr rfl
@[simp] def nJ:dr (S++[.lst r]) (.ref S.length)=.own r:=An List.getElem?_concat_length
@[simp] def eR:Em (S++[.lst r]) S.length=some r:=AQ List.getElem?_concat_length
def set_same(h:S[q]?=Gc c):S.set q c=S:=by
 apply AAh
 intro i
 by_cases e:q=i
 .subst e;rw[ui (Ai h),h]
 .rw[uW e]
theorem Qb{gs:Gd}{t:Tf}{b:Ex}{I:Sto->Prop}(hg:∀S,I S->gOk gs S)(hI:∀S c,I S->I (S.set q c)):∀{ds acc} {os} {S},os.length=m->I S->S[q]?=Gc (.lst acc)->acc.length+ds.length<=1000->(∀d∈ds,∀os S acc,os.length=m->I S->S[q]?=Gc (.lst acc)->acc.length<sizeLine->∃us us',t d (C++os) S=Gc (C++us)/\b (C++us) S=Gc (.nx,C++us',S.set q (.lst (acc++[h d])))/\us'.length=m)->∃os',os'.length=m/\Lx gs t b ds (C++os) S=Gc (.nx,C++os',S.set q (.lst (acc++ds.map h)))
 | [],acc,os,S,ho,hS,hq,hz,H=>⟨os,ho,by
     rw[Jh (hg S hS)]
     have:S.set q (.lst (acc++List.map h []))=S:=by
      rw[wG,vv]
      exact set_same hq
     rw[this]⟩
 |d::ds,acc,os,S,ho,hS,hq,hz,H=>by
  have hl:=Ai hq
  obtain⟨us,us',e1,e2,hu⟩:=H d um os S acc ho hS hq (uV (show acc.length<1001 by simp at hz;lia) (ub (by decide) (show 1001<=sizeLine by decide)))
  obtain⟨os',ho',e3⟩:=Qb hg hI (ds:=ds) (acc:=acc++[h d]) (os:=us') (S:=S.set q (.lst (acc++[h d]))) hu (hI S _ hS) (ui hl) (by simp at hz ⊢; lia) λd' hd=>H d' (uX _ hd)
  refine⟨os',ho',?_⟩
  rw[EE (hg S hS),e1,A3,e2,A3,cZ,e3,List.set_set]
  simp
noncomputable def un:D->Rat
 | .tup [.int n,.int d]=>(n:Rat) / (d:Rat)
 |_=>0
def Zy r:un (aD r)=r:=DJ r
noncomputable def QP(f:Rat->Rat->Rat):D->D
 | .tup [a,b]=>aD (f (un a) (un b))
 |d=>d
theorem N5:∀{ss os},(Nu (ss.map aD) (os.map aD)).map (QP f)=(z9 f ss os).map aD
 | [],os=>by simp[Nu]
 |s::ss,[]=>by simp[Nu]
 |s::ss,o::os=>by
  have ih:=N5 (f:=f) (ss:=ss) (os:=os)
  unfold Nu at ih⊢
  simp only[ux,List.zip_cons_cons,List.zipWith_cons_cons]at ih⊢
  rw[ih]
  simp[QP,Zy]
def T9{ss os:Wp Rat}(h:d∈Nu (ss.map aD) (os.map aD)):∃s∈ss,∃o∈os,d=.tup [aD s,aD o]:=by
 unfold Nu at h
 obtain⟨⟨a,b⟩,h1,rfl⟩:=vT.mp h
 have h2:=we h1
 obtain⟨s,hs,rfl⟩:=vT.mp h2.1
 obtain⟨o,ho,rfl⟩:=vT.mp h2.2
 exact⟨s,hs,o,ho,rfl⟩
theorem Y9:aD 1=.tup [.int 1,.int 1]:=rfl
def VR(n:Int):aD (n:Rat)=.tup [.int n,.int 1]:=by
 unfold aD
 simp
def Y1{n:Int}(h:n.natAbs<2^k)(hk:1<=k):Sz k (n:Rat):=by
 unfold Sz
 have:1<2^k:=AAW (by lia)
 simp[h,this]
def Yu(hk:1<=k):Sz k (1:Rat):=by
 have:1<2^k:=AAW (by lia)
 exact⟨by simpa using this,by simpa using this⟩
def Ra{ss os:Wp Rat}(hs:∀r∈ss,Sz j r)(ho:∀r∈os,Sz j r)(hx:Sz i x)(hj:2*j+2*i<=7900)(hl:ss.length<=10):∃S',ED [shD ss,aD x,shD os] S=Gc (shD (HG x os ss),S')/\Bq [] S S':=by
 have hq:(S++[Cl.lst []])[S.length]?=Gc (.lst []):=uz
 obtain⟨os',ho',e⟩:=Qb (gs:=[]) (t:=tTp [tNm 4,tNm 5]) (b:=Bm (NH NV (eV 3) [AF BY [AF Ae [eV 4,AF De [BC [eC (.int 1),eC (.int 1)],eV 1]],AF Ae [eV 5,eV 1]]])) (C:=[Gc (shD ss),Gc (aD x),Gc (shD os),Gc (.ref S.length)]) (m:=2) (q:=S.length) (h:=QP λs o=>s*(1-x)+o*x) (I:=λ_=>AAF) (λ_ _=>AW) (λ_ _ _=>trivial)
  (ds:=Nu (ss.map aD) (os.map aD)) (acc:=[]) (os:=[none,none]) (S:=S++[Cl.lst []]) rfl trivial hq (by simp[LG];lia) (by
    intro d hd os0 S0 acc h0 _ hq0 hz
    obtain⟨o1,o2,rfl⟩:=jG h0
    obtain⟨s,hs',o,ho',rfl⟩:=T9 hd
    have l1:=ZK (S:=S0) (Yu (k:=1) (by decide)) hx (by lia)
    have s1:=(kH (Yu (k:=1) (by decide)) hx)
    have l2:=JJ (S:=S0) (hs s hs') s1 (by lia)
    have l3:=JJ (S:=S0) (ho o ho') hx (by lia)
    have l4:=Pk (S:=S0) (Nl (hs s hs') s1) (Nl (ho o ho') hx) (by lia)
    rw[Y9]at l1
    refine⟨[Gc (aD s),Gc (aD o)],[Gc (aD s),Gc (aD o)],by simp,?_,rfl⟩
    simp[l1,l2,l3,l4,AQ hq0,hz,QP,Zy])
 rw[N5]at e
 refine⟨(S++[Cl.lst []]).set S.length (.lst ((HG x os ss).map aD)),?_,?_⟩
 .have e':Lx [] (tTp [tNm 4,tNm 5]) (Bm (NH NV (eV 3) [AF BY [AF Ae [eV 4,AF De [BC [eC (.int 1),eC (.int 1)],eV 1]],AF Ae [eV 5,eV 1]]])) (Nu (ss.map aD) (os.map aD)) [Gc (shD ss),Gc (aD x),Gc (shD os),Gc (.ref S.length),none,none] (S++[Cl.lst []])=Gc (.nx,[Gc (shD ss),Gc (aD x),Gc (shD os),Gc (.ref S.length)]++os',(S++[Cl.lst []]).set S.length (.lst ((HG x os ss).map aD))):=by simpa[HG]using e
  simp[ED,Lj,e']
  rfl
 .refine⟨by simp,λn hn _=>?_⟩
  rw[uW (by lia),uU hn]
end
def getD_get{α:Type}{xs:Wp α}{d:α}(h:n<xs.length):xs[n]?=Gc (xs.getD n d):=by
 rw[u4,uT h]
 rfl
def getD_mem{α:Type}{xs:Wp α}{d:α}(h:n<xs.length):xs.getD n d∈xs:=uw (getD_get h)
def UB{ss:Wp Rat}(h:n<ss.length):atI (ss.map aD) (n:Int)=Gc (aD (ss.getD n 0)):=B2 (by rw[uo,getD_get h];rfl)
def ZE{ss:Wp Rat}(h:n<ss.length):ixN (ss.map aD).length (n:Int)=Gc n:=Lg (by simpa using h)
def UO(hs:∀r∈ss,Sz j r)(hx:Sz i x)(hj:2*j+i<=7900)(hp:p<ss.length)(hq:q<ss.length)(hpq:p≠q):∃S',FD [shD ss,(AR.Fe p q x).d] S=Gc (shD (Gx p q x ss),S')/\Bq [] S S':=by
 have sp:=hs _ (getD_mem (d:=0) hp)
 have sq:=hs _ (getD_mem (d:=0) hq)
 have l1:∀S,Ae [aD (ss.getD p 0),aD x] S=Gc (aD (ss.getD p 0*x),S):=λS=>JJ sp hx (by lia)
 have s1:=Nl sp hx
 have l2:∀S,De [aD (ss.getD p 0),aD (ss.getD p 0*x)] S=Gc (aD (ss.getD p 0-ss.getD p 0*x),S):=λS=>ZK sp s1 (by lia)
 have l3:∀S,BY [aD (ss.getD q 0),aD (ss.getD p 0*x)] S=Gc (aD (ss.getD q 0+ss.getD p 0*x),S):=λS=>Pk sq s1 (by lia)
 have a1:=UB hp
 have i1:=ZE hp
 have i2:ixN (((ss.map aD).set p (aD (ss.getD p 0-ss.getD p 0*x))).length) (q:Int)=Gc q:=Lg (by simpa using hq)
 have a2:atI ((ss.map aD).set p (aD (ss.getD p 0-ss.getD p 0*x))) (q:Int)=Gc (aD (ss.getD q 0)):=B2 (by
  rw[uW hpq,uo,getD_get hq];rfl)
 refine⟨S++[.lst ((Gx p q x ss).map aD)],?_,.app⟩
 simp only[wV,vO]at i1 i2
 have em:(Gx p q x ss).map aD=((ss.map aD).set p (aD (ss.getD p 0-ss.getD p 0*x))).set q (aD (ss.getD q 0+ss.getD p 0*x)):=by rw[Gx,yI,yI]
 unfold shD
 rw[em]
 generalize aD (ss.getD p 0-ss.getD p 0*x)=d1 at*
 generalize aD (ss.getD q 0+ss.getD p 0*x)=d2 at*
 generalize aD (ss.getD p 0*x)=d3 at*
 generalize aD (ss.getD p 0)=d4 at*
 generalize aD (ss.getD q 0)=d5 at*
 simp[FD,Nh,AR.d,a1,l1,l2,l3,i1,i2,a2]
def V9(ha:S[a]?=Gc (Bu x))(hb:S[b]?=Gc (Bu y))(hs:∀r∈x.ow,Sz j r)(ho:∀r∈y.ow,Sz j r)(hx:x.n.natAbs<2^i)(hy:y.n.natAbs<2^i)(h0:0<x.n+y.n)(h1:1<=i)(hj:2*j+4*i<=7900)(hl:x.ow.length<=10):∃S',Fv [.ref a,.ref b] S=Gc (shD (B9 x.n y.n x.ow y.ow),S')/\Bq [] S S':=by
 have la:=Ai ha
 have lb:=Ai hb
 have hq:(S++[Cl.lst []])[S.length]?=Gc (.lst []):=uz
 have ha':(S++[Cl.lst []])[a]?=Gc (Bu x):=by rw[uU la];exact ha
 have hb':(S++[Cl.lst []])[b]?=Gc (Bu y):=by rw[uU lb];exact hb
 obtain⟨os',ho',e⟩:=Qb (gs:=[]) (t:=tTp [tNm 3,tNm 4]) (b:=AN (Az 5 (AF BY [AF Ae [BC [eOp (o2 wIx) [eV 0,eC (.int 1)],eC (.int 1)],eV 3],AF Ae [BC [eOp (o2 wIx) [eV 1,eC (.int 1)],eC (.int 1)],eV 4]]))
  (Bm (NH NV (eV 2) [AF Ae [eV 5,AF BW [eC (.int 1),eOp (o2 CM) [eOp (o2 wIx) [eV 0,eC (.int 1)],eOp (o2 wIx) [eV 1,eC (.int 1)]]]]]))) (C:=[Gc (.ref a),Gc (.ref b),Gc (.ref S.length)]) (m:=3) (q:=S.length) (h:=QP λs o=>(s*x.n+o*y.n) / (x.n+y.n:Int)) (I:=λS'=>S'[a]?=Gc (Bu x)/\S'[b]?=Gc (Bu y)) (λ_ _=>AW) (λS' c h=>⟨by rw[uW (by lia)];exact h.1,by rw[uW (by lia)];exact h.2⟩)
  (ds:=Nu (x.ow.map aD) (y.ow.map aD)) (acc:=[]) (os:=[none,none,none]) (S:=S++[Cl.lst []]) rfl ⟨ha',hb'⟩ hq (by simp[LG];lia) (by
    intro d hd os0 S0 acc h0' hI hq0 hz
    obtain⟨o1,o2,o3,rfl⟩:=q8 h0'
    obtain⟨s,hs',o,ho',rfl⟩:=T9 hd
    have d1:=An hI.1
    have d2:=An hI.2
    have z1:=Y1 hx h1
    have z2:=Y1 hy h1
    have l1:=JJ (S:=S0) z1 (hs s hs') (by lia)
    have l2:=JJ (S:=S0) z2 (ho o ho') (by lia)
    have s1:=Nl z1 (hs s hs')
    have s2:=Nl z2 (ho o ho')
    have l3:=Pk (S:=S0) s1 s2 (by lia)
    have b1:=IH hx hy
    have l4:=Xr (S:=S0) (t:=1) h0 (C5 b1 (by lia))
    have s4:Sz (i+1) (((1:Int):Rat) / ((x.n+y.n:Int):Rat)):=NO h0 (show(1:Int).natAbs<2^(i+1)from AAW (by lia)) b1
    have l5:=JJ (S:=S0) (jA s1 s2) s4 (by lia)
    rw[VR]at l1 l2
    refine⟨[Gc (aD s),Gc (aD o),o3],[Gc (aD s),Gc (aD o),Gc (aD (x.n*s+y.n*o))],by simp,?_,rfl⟩
    have ev:(((x.n:Rat)*s+(y.n:Rat)*o)*(((1:Int):Rat) / ((x.n+y.n:Int):Rat)))=(s*x.n+o*y.n) / (x.n+y.n:Int):=by
     push_cast
     grind
    rw[ev]at l5
    have lf:(QP λs o=>(s*x.n+o*y.n) / (x.n+y.n:Int)) (.tup [aD s,aD o])=aD ((s*x.n+o*y.n) / (x.n+y.n:Int)):=by simp only[QP,Zy]
    rw[lf]
    generalize aD ((s*x.n+o*y.n) / (x.n+y.n:Int))=e5 at*
    generalize aD (((1:Int):Rat) / ((x.n+y.n:Int):Rat))=e4 at*
    generalize aD (x.n*s+y.n*o)=e3 at*
    simp[d1,d2,Bu,l1,l2,l3,l4,l5,AQ hq0,hz])
 rw[N5]at e
 refine⟨(S++[Cl.lst []]).set S.length (.lst ((B9 x.n y.n x.ow y.ow).map aD)),?_,?_⟩
 .have e':=e
  simp only[vV,vK]at e'
  have d1:=An ha'
  have d2:=An hb'
  change Lx _ _ _ _ _ _=Gc (_,_,List.set _ _ (Cl.lst (List.map aD (B9 x.n y.n x.ow y.ow))))at e'
  generalize B9 x.n y.n x.ow y.ow=rs at*
  simp[Fv,Kt,d1,d2,e',shD]
 .refine⟨by simp,λn hn _=>?_⟩
  rw[uW (by lia),uU hn]
theorem EN{α:Type}{gs:Gd}{t:Tf}{f:Ev}{C:En}{m:Nat}{e g:α->D}(hg:gOk gs S):∀{xs:Wp α} {acc} {os},os.length=m->acc.length+xs.length<=sizeLine->(∀x∈xs,∀os,os.length=m->∃us,us.length=m/\t (e x) (C++os) S=Gc (C++us)/\f (C++us) S=Gc (g x,S))->BZ gs t BI f (xs.map e) acc (C++os) S=Gc (acc++xs.map g,S)
 | [],acc,os,ho,hz,h=>by rw[wG,DA hg];simp
 |x::xs,acc,os,ho,hz,h=>by
  obtain⟨us,hu,e1,e2⟩:=h x um os ho
  rw[ux,FH hg (by simp at hz;lia) e1 Ds,e2,A3]
  rw[EN hg hu (by simp at hz ⊢; lia) λx' hx=>h x' (uX _ hx)]
  simp
theorem Ea{α:Type}{gs:Gd}{t:Tf}{c f:Ev}{C:En}{m:Nat}{e g:α->D}{b:α->va}{S:Sto}(hg:gOk gs S):∀{xs:Wp α} {acc} {os},os.length=m->acc.length+xs.length<=sizeLine->(∀x∈xs,∀os,os.length=m->∃us,us.length=m/\t (e x) (C++os) S=Gc (C++us)/\c (C++us) S=Gc (.bl (b x),S)/\f (C++us) S=Gc (g x,S))->BZ gs t c f (xs.map e) acc (C++os) S=Gc (acc++(xs.filter b).map g,S)
 | [],acc,os,ho,hz,h=>by rw[wG,DA hg];simp
 |x::xs,acc,os,ho,hz,h=>by
  obtain⟨us,hu,e1,e2,e3⟩:=h x um os ho
  cases hb:b x with
  |true=>
   rw[hb]at e2
   rw[ux,FH hg (by simp at hz;lia) e1 e2,e3,A3,Ea hg hu (by simp at hz ⊢; lia) λd' hd=>h d' (uX _ hd)]
   simp[hb]
  |false=>
   rw[hb]at e2
   rw[ux,Ir hg (by simp at hz;lia) e1 e2,Ea hg hu (by simp at hz ⊢; lia) λd' hd=>h d' (uX _ hd)]
   simp[hb]
def RG{as:Wp Nat}{ls:Wp Ld}(h:as.length=ls.length):as.map D.ref=(as.zip ls).map λz=>D.ref z.1:=by
 have:as=(as.zip ls).map Prod.fst:=(List.map_fst_zip (by lia)).symm
 conv=>lhs;rw[this]
 rw[wD];rfl
def Ui{β:Type}{as:Wp Nat}(h:as.length=ls.length)(g:Ld->β):ls.map g=(as.zip ls).map λz=>g z.2:=by
 have:ls=(as.zip ls).map Prod.snd:=(List.map_snd_zip (by lia)).symm
 conv=>lhs;rw[this]
 rw[wD];rfl
section
variable{st:Stt}
def SAt.qX(h:SAt S s l m as st)(hz:z∈as.zip st.AA):S[z.1]?=Gc (Bu z.2):=by
 obtain⟨i,hi⟩:=xW.mp hz
 have:=yi.mp hi
 exact h.ld i z.1 z.2 this.1 this.2
def SAt.at(h:SAt S s l m as st)(hi:i<st.AA.length):∃a,as[i]?=Gc a/\S[a]?=Gc (Bu (AL st.AA i))/\atI (as.map D.ref) (i:Int)=Gc (.ref a):=by
 have h1:i<as.length:=by rw[h.len];exact hi
 refine⟨as[i],uT h1,h.ld i _ _ (uT h1) (EO hi),B2 (by rw[uo,uT h1];rfl)⟩
def SAt.guard(h:SAt S s l m as st):gOk [(l,as.map D.ref)] S:=by
 intro g hg
 simp only[uZ,uv,ve]at hg
 subst hg
 exact AQ h.lo
end
theorem U9(hM:0<=M):∀{xs:Wp Int},(∀x∈xs,0<=x/\x<=M)->0<=xs.sum/\xs.sum<=xs.length*M
 | [],_=>by simp
 |x::xs,h=>by
  have h1:=h x um
  have h2:=U9 hM λy hy=>h y (uX _ hy)
  simp only[wx,vH]
  refine⟨by lia,?_⟩
  have:((xs.length+1:Nat):Int)*M=xs.length*M+M:=by push_cast;grind
  lia
theorem NT:∀{xs:Wp Int} {y},(∀x∈xs,0<=x)->y∈xs->y<=xs.sum
 |x::xs,y,h,hy=>by
  have h1:=h x um
  have h2:0<=xs.sum:=by
   clear hy
   induction xs with
   |nil=>simp
   |cons z zs ih=>
    have:=h z (by simp)
    have:=ih λw hw=>h w (by simp at hw ⊢; rcases hw with hw|hw<;>simp[hw])
    simp only[wx];lia
  simp only[wx]
  rcases uZ.mp hy with e|e
  .lia
  .have:=NT (λz hz=>h z (uX _ hz)) e
   lia
section
variable{k:Nat}{st:Stt}{ws:Wp Int}
def La(hw:∀w∈ws,1<=w/\w<=99)(hi:i<ws.length):1<=ws.getD i 0/\ws.getD i 0<=99:=hw _ (getD_mem hi)
def RV(hi:i<ws.length):atI (ws.map D.int) (i:Int)=Gc (.int (ws.getD i 0)):=B2 (by rw[uo,getD_get hi];rfl)
def Oj(hi:ws.length=k+1):atI (ws.map D.int) (-1:Int)=Gc (.int (ws.getD k 0)):=by
 have ix:ixN (ws.map D.int).length (-1)=Gc k:=by
  rw[vO,hi]
  unfold ixN
  simp
  lia
 unfold atI
 rw[ix]
 show(ws.map D.int)[k]?=_
 rw[uo,getD_get (d:=(0:Int)) (by lia)]
 rfl
def J4(ht:IB t)(h:E9 t k st)(hk:k<=24)(hl:ws.length=t.k+1)(hw:∀w∈ws,1<=w/\w<=99):0<D6 t st.AA ws/\D6 t st.AA ws<2^(145+k):=by
 obtain⟨t1,t2,t3,t4,t5,t6⟩:=ht
 have hP:(0:Int)<=2^(131+k):=Int.le_of_lt (Int.pow_pos (by decide))
 have hs:=U9 (M:=2^(131+k)*99) (by lia) (xs:=st.AA.map λl=>l.n*ws.getD l.k 0) (by
  intro x hx
  obtain⟨y,hy,rfl⟩:=vT.mp hx
  have h1:=h.pcs y hy
  have h2:=La hw (i:=y.k) (by have:=h.kind y hy;lia)
  refine⟨Int.mul_nonneg h1.1 (by lia),Int.mul_le_mul (by lia) h2.2 (by lia) hP⟩)
 have hb:=La hw (i:=t.k) (by lia)
 have hlen:=h.len
 rw[vO]at hs
 have h3:(st.AA.length:Int)*(2^(131+k)*99)<=30*(2^(131+k)*99):=zX (by lia) (by lia)
 have h4:(1:Int)<=t.b*ws.getD t.k 0:=by
  have:0<(t.b:Int)*ws.getD t.k 0:=vz (by lia) (by lia)
  lia
 have h5:t.b*ws.getD t.k 0<=20*99:=Int.mul_le_mul (by lia) hb.2 (by lia) (by decide)
 have h6:(2:Int)^(145+k)=2^(131+k)*16384:=by rw[show 145+k=(131+k)+14 by lia,Int.pow_add];rfl
 have h7:(1:Int)<=2^(131+k):=by have:(0:Int)<2^(131+k):=Int.pow_pos (by decide);lia
 have h7':(2:Int)^11<=2^(131+k):=by
  have:(2^11:Nat)<=2^(131+k):=vN (by decide) (by lia)
  exact_mod_cast this
 unfold D6
 rw[h6]
 generalize (2:Int)^(131+k)=P at*
 lia
def Ux(ht:IB t)(h:E9 t k st)(hl:ws.length=t.k+1)(hw:∀w∈ws,1<=w/\w<=99)(hi:l<st.AA.length)(h1:1<=n)(h2:n<=(AL st.AA l).n):0<n*ws.getD (AL st.AA l).k 0/\n*ws.getD (AL st.AA l).k 0<D6 t st.AA ws:=by
 obtain⟨t1,t2,t3,t4,t5,t6⟩:=ht
 have hw1:=La hw (i:=(AL st.AA l).k) (by have:=h.kind _ (Ap hi);lia)
 have hb:=La hw (i:=t.k) (by lia)
 have h4:(1:Int)<=t.b*ws.getD t.k 0:=by
  have:0<(t.b:Int)*ws.getD t.k 0:=vz (by lia) (by lia)
  lia
 have h5:=NT (xs:=st.AA.map λl=>l.n*ws.getD l.k 0) (y:=(AL st.AA l).n*ws.getD (AL st.AA l).k 0) (by
  intro x hx
  obtain⟨y,hy,rfl⟩:=vT.mp hx
  have h1:=h.pcs y hy
  have h2:=La hw (i:=y.k) (by have:=h.kind y hy;lia)
  exact Int.mul_nonneg h1.1 (by lia)) (vT.mpr ⟨_,Ap hi,rfl⟩)
 have h6:n*ws.getD (AL st.AA l).k 0<=(AL st.AA l).n*ws.getD (AL st.AA l).k 0:=zX h2 (by lia)
 refine⟨vz (by lia) (by lia),?_⟩
 unfold D6
 lia
def LO(hi:l<st.AA.length):JB t st.AA l n ws=((n*ws.getD (AL st.AA l).k 0:Int):Rat) / (D6 t st.AA ws:Rat):=by
 unfold JB
 rw[EO hi]
 rfl
def F8{x:Int}(h0:0<=x)(h1:x<2^j):x.natAbs<2^j:=by
 have:((x.natAbs:Nat):Int)<((2^j:Nat):Int):=by
  rw[Int.natAbs_of_nonneg h0];push_cast;exact h1
 exact_mod_cast this
def Vb(ht:IB t)(h:E9 t k st)(hk:k<=24)(hl:ws.length=t.k+1)(hw:∀w∈ws,1<=w/\w<=99)(hi:l<st.AA.length)(h1:1<=n)(h2:n<=(AL st.AA l).n):Sz (145+k) (JB t st.AA l n ws):=by
 have a:=J4 ht h (by lia) hl hw
 have b:=Ux ht h hl hw hi h1 h2
 rw[LO hi]
 exact NO a.1 (F8 (by lia) (by lia)) (F8 (by lia) a.2)
def aC(hS:SAt S s r m as st)(ht:IB t)(h:E9 t k st)(hk:k<=20)(hl:ws.length=t.k+1)(hw:∀w∈ws,1<=w/\w<=99)(hi:l<st.AA.length)(h1:1<=n)(h2:n<=(AL st.AA l).n):IK [t.d,.ref r,(AR.thr l n ws).d] S=Gc (aD (JB t st.AA l n ws),S):=by
 have a:=J4 ht h (by lia) hl hw
 obtain⟨x,x1,x2,x3⟩:=hS.at hi
 have hlen:=h.len
 have e:=EN (gs:=[(r,as.map D.ref)]) (t:=tTp [tNm 1,tNm 2,tNm 3]) (f:=eOp (o2 B5) [eV 2,eOp (o2 wIx) [eV 0,eV 1]]) (C:=[Gc (.tup (ws.map D.int))]) (m:=3) (e:=λz:Nat×Ld=>D.ref z.1) (g:=λz=>D.int (z.2.n*ws.getD z.2.k 0)) hS.guard (xs:=as.zip st.AA) (acc:=[]) (os:=[none,none,none]) rfl (ub (show _<=50 by simp;lia) (AJ (by decide))) (by
  intro z hz os ho
  obtain⟨q1,q2,q3,rfl⟩:=q8 ho
  have c1:=hS.qX hz
  have hm:z.2∈st.AA:=(we (a:=z.1) (b:=z.2) hz).2
  have hk:=h.kind _ hm
  have w1:=RV (ws:=ws) (i:=z.2.k) (by lia)
  have w2:=La hw (i:=z.2.k) (by lia)
  have m1:Dj z.2.n (ws.getD z.2.k 0)=true:=mulR (by lia) (by lia)
  generalize ws.getD z.2.k 0=wz at*
  refine⟨[Gc (.int z.2.k),Gc (.int z.2.n),Gc (shD z.2.ow)],rfl,?_,?_⟩
  .simp[AQ c1,Bu]
  .simp[w1,m1])
 rw[<-RG hS.len,<-Ui hS.len (λx=>D.int (x.n*ws.getD x.k 0))]at e
 have e':=e
 simp only[vV,vK]at e'
 rw[LO hi]
 have es:LD (st.AA.map λx=>D.int (x.n*ws.getD x.k 0))=Gc (st.AA.map λx=>x.n*ws.getD x.k 0):=by
  have:=GR (st.AA.map λx=>x.n*ws.getD x.k 0)
  rwa [wD]at this
 have w1:=RV (ws:=ws) (i:=(AL st.AA l).k) (by have:=h.kind _ (Ap hi);lia)
 have w3:=La hw (i:=(AL st.AA l).k) (by have:=h.kind _ (Ap hi);lia)
 have w2:=Oj hl
 have w4:=La hw (i:=t.k) (by lia)
 have m1:Dj n (ws.getD (AL st.AA l).k 0)=true:=mulR (by lia) (by lia)
 have m2:Dj (t.b:Int) (ws.getD t.k 0)=true:=mulR (by lia) (by lia)
 have l1:=Xr (S:=S) (t:=n*ws.getD (AL st.AA l).k 0) a.1 (C5 (F8 (by lia) a.2) (by lia))
 have e2:D6 t st.AA ws=(st.AA.map λx=>x.n*ws.getD x.k 0).sum+t.b*ws.getD t.k 0:=rfl
 rw[e2]at l1⊢
 generalize aD (((n*ws.getD (AL st.AA l).k 0:Int):Rat) / (((st.AA.map λx=>x.n*ws.getD x.k 0).sum+t.b*ws.getD t.k 0:Int):Rat))=R at*
 generalize (st.AA.map λx=>x.n*ws.getD x.k 0)=es' at*
 generalize (st.AA.map λx=>D.int (x.n*ws.getD x.k 0))=es2 at*
 generalize ws.getD (AL st.AA l).k 0=wa at*
 generalize ws.getD t.k 0=wb at*
 have dx:=An x2
 have dl:=An hS.lo
 simp[IK,Ng,AR.d,Tr.d,JE hS.lo,e',es,w2,m2,dl,x3,dx,Bu,w1,m1,l1]
def Vm(ht:IB t)(h:E9 t k st)(hk:k<=24)(hl:ws.length=t.k+1)(hw:∀w∈ws,1<=w/\w<=99)(hi:l<st.AA.length)(h1:1<=n)(h2:n<=(AL st.AA l).n){os ss:Wp Rat}(ho:∀r∈os,Ok G B r)(hs:∀r∈ss,Ok G B r):∀r∈HG (JB t st.AA l n ws) os ss,Ok (G*(D6 t st.AA ws).toNat) (B*(D6 t st.AA ws).toNat) r:=by
 have a:=J4 ht h (by lia) hl hw
 have b:=Ux ht h hl hw hi h1 h2
 intro r hr
 unfold HG at hr
 rw[xW]at hr
 obtain⟨i,hi'⟩:=hr
 rw[zk]at hi'
 obtain⟨x,y,hx,hy,rfl⟩:=hi'
 rw[LO hi]
 generalize n*ws.getD (AL st.AA l).k 0=c at*
 generalize D6 t st.AA ws=W at*
 have:=Ok.mix (a:=(W-c).toNat) (b:=c.toNat) (t:=W.toNat) (hs x (uw hx)) (ho y (uw hy)) (by lia) (by lia)
 have e1:(((W-c).toNat:Nat):Rat)=(W:Rat)-(c:Rat):=by
  have:(((W-c).toNat:Nat):Int)=W-c:=vh (by lia)
  have:((((W-c).toNat:Nat):Int):Rat)=((W-c:Int):Rat):=by rw[this]
  push_cast at this
  exact this
 have e2:((c.toNat:Nat):Rat)=(c:Rat):=by
  have:((c.toNat:Nat):Int)=c:=vh (by lia)
  have:(((c.toNat:Nat):Int):Rat)=(c:Rat):=by rw[this]
  exact this
 have e3:((W.toNat:Nat):Rat)=(W:Rat):=by
  have:((W.toNat:Nat):Int)=W:=vh (by lia)
  have:(((W.toNat:Nat):Int):Rat)=(W:Rat):=by rw[this]
  exact this
 rw[e1,e2,e3]at this
 have ne:(W:Rat)≠0:=by
  intro z
  have:=yC.mp z
  lia
 have ev:(x*((W:Rat)-(c:Rat))+y*(c:Rat)) / (W:Rat)=x*(1-(c:Rat) / (W:Rat))+y*((c:Rat) / (W:Rat)):=by grind
 rw[ev]at this
 exact this
end
def cJ(h:yQ x=true)(g:yQ y=true):Ou (.str x) (.str y)=true:=by
 unfold Ou
 show(yQ x && yQ y && _)=true
 rw[h,g]
 rfl
def bh(c:Char):c.toNat<1114112:=by
 have h:c.toNat.isValidChar:=c.valid
 rcases h with h|h
 .exact Nat.lt_trans h (by decide)
 .exact h.2
def Od:yQ (u9 x)=true:=by
 unfold yQ u9
 simp
 intro c hc
 rw[cpsOfBytes_string]at hc
 obtain⟨ch,_,rfl⟩:=vT.mp hc
 exact bh ch
theorem P6:∀{a b:Wp Char},a.map Char.toNat=b.map Char.toNat->a=b
 | [],[],_=>rfl
 |x::a,y::b,h=>by
  rw[ux,ux]at h
  injection h with h1 h2
  rw[Char.toNat_inj.mp h1,P6 h2]
 | [],_::_,h=>nomatch h
 |_::_,[],h=>nomatch h
def cL(h:u9 x=u9 y):x=y:=by
 rw[ABB,ABB]at h
 injection h with h
 exact String.toList_inj.mp (P6 (by simpa using h))
@[simp] def uJ(x y:String):Ou (.str (Str.ofString x)) (.str (Str.ofString y))=true:=cJ Od Od
@[simp] def uO(x y:String):deq (.str (Str.ofString x)) (.str (Str.ofString y))=decide (x=y):=by
  show(u9 x==u9 y)=_
  rw[wg,wJ,vW]
  exact⟨cL,λz=>by rw[z]⟩
@[simp] def ZU:wIn false (.val (.str "bring")) (.val (.tup [.str "swap",.str "trade"]))=some (.val (.bl false)):=nr rfl
@[simp] def XD:wIn false (.val (.str "bring")) (.val (.tup [.str "spoil",.str "throw"]))=some (.val (.bl false)):=nr rfl
@[simp] def qy:wIn false (.val (.str "pool")) (.val BS)=some (.val (.bl true)):=nr rfl
@[simp] def bq:wIn false (.val (.str "swap")) (.val (.tup [.str "swap",.str "trade"]))=some (.val (.bl true)):=nr rfl
@[simp] def qj:wIn false (.val (.str "swap")) (.val BS)=some (.val (.bl true)):=nr rfl
@[simp] def Zk:wIn false (.val (.str "trade")) (.val (.tup [.str "swap",.str "trade"]))=some (.val (.bl true)):=nr rfl
@[simp] def nQ:wIn false (.val (.str "trade")) (.val BS)=some (.val (.bl true)):=nr rfl
@[simp] def ZA:wIn false (.val (.str "spoil")) (.val (.tup [.str "swap",.str "trade"]))=some (.val (.bl false)):=nr rfl
@[simp] def Xq:wIn false (.val (.str "spoil")) (.val (.tup [.str "spoil",.str "throw"]))=some (.val (.bl true)):=nr rfl
@[simp] def pD:wIn false (.val (.str "spoil")) (.val BS)=some (.val (.bl false)):=nr rfl
@[simp] def ZV:wIn false (.val (.str "throw")) (.val (.tup [.str "swap",.str "trade"]))=some (.val (.bl false)):=nr rfl
@[simp] def Xp:wIn false (.val (.str "throw")) (.val (.tup [.str "spoil",.str "throw"]))=some (.val (.bl true)):=nr rfl
@[simp] def pb:wIn false (.val (.str "throw")) (.val BS)=some (.val (.bl false)):=nr rfl
@[simp] def aE:wIn false (.val (.str "sell")) (.val (.tup [.str "swap",.str "trade"]))=some (.val (.bl false)):=nr rfl
@[simp] def Yv:wIn false (.val (.str "sell")) (.val (.tup [.str "spoil",.str "throw"]))=some (.val (.bl false)):=nr rfl
@[simp] def qv:wIn false (.val (.str "sell")) (.val BS)=some (.val (.bl false)):=nr rfl
@[simp] def iB:dr S BS=.val BS:=nr rfl
section
variable{a b c d e f:D}
@[simp] def lr:IJ [a,b,c,d,e] (some (-4)) none=[b,c,d,e]:=nr rfl
@[simp] def mQ:IJ [a,b,c,d,e,f] (some (-4)) none=[c,d,e,f]:=nr rfl
@[simp] def ng:IJ [a,b,c,d] (some 1) none=[b,c,d]:=nr rfl
@[simp] def kg:IJ [a,b,c,d,e] (some 1) (some 2)=[b]:=nr rfl
@[simp] def ko:IJ [a,b,c,d,e,f] (some 1) (some 2)=[b]:=nr rfl
@[simp] def lD:lu S ds [.tup zs]=if ds.length+zs.length<=sizeLine then some (.non,ds++zs)else none:=nr rfl
end
theorem SAt.same(h:SAt S s l m as st)(g:Bq A S S')(hA:∀n∈A,n∉s::l::m::as):SAt S' s l m as st where
 root:=g.get h.root λz=>hA _ z (by simp)
 lo:=g.get h.lo λz=>hA _ z (by simp)
 nu:=g.get h.nu λz=>hA _ z (by simp)
 ld:=λi a x ha hx=>g.get (h.ld i a x ha hx) λz=>hA _ z (by simp[uw ha])
 len:=h.len
 nd:=h.nd
def SAt.Ue(h:SAt S s l m as st)(g:Bq [] S S'):SAt S' s l m as st:=h.same g λ_ z=>(nomatch z)
def SAt.ne(h:SAt S s l m as st):s≠l/\s≠m/\l≠m/\s∉as/\l∉as/\m∉as/\as.Nodup:=by
 have:=h.nd
 simp only[xE,uZ,AAl]at this
 obtain⟨⟨a,b,c⟩,⟨d,e⟩,f,g⟩:=this
 exact⟨a,b,d,c,e,f,g⟩
def SAt.Qc(h:SAt S s l m as st)(ha:as[i]?=Gc a):SAt (S.set a (Bu y)) s l m as {st with AA:=st.AA.set i y}:=by
 obtain⟨n1,n2,n3,n4,n5,n6,n7⟩:=h.ne
 have ma:=uw ha
 have q1:a≠s:=λe=>n4 (e▸ma)
 have q2:a≠l:=λe=>n5 (e▸ma)
 have q3:a≠m:=λe=>n6 (e▸ma)
 have hi:i<as.length:=(ua.mp ha).1
 have hi':i<st.AA.length:=by rw[<-h.len];exact hi
 refine⟨by rw[uW q1];exact h.root,by rw[uW q2];exact h.lo,by rw[uW q3];exact h.nu,?_,by simp[h.len],h.nd⟩
 intro j b x hb hx
 by_cases e:i=j
 .subst e
  rw[ha]at hb
  cases hb
  have hx':(st.AA.set i y)[i]?=Gc x:=hx
  rw[ui hi']at hx'
  cases hx'
  have hl:a<S.length:=Ai (h.ld i a _ ha (uT hi'))
  exact ui hl
 .have hx':(st.AA.set i y)[j]?=Gc x:=hx
  rw[uW e]at hx'
  have:a≠b:=by
   intro z
   subst z
   exact e ((yV hi n7).mp (ha.trans hb.symm))
  rw[uW this]
  exact h.ld j b x hb hx'
def SAt.lts(h:SAt S s l m as st):∀n∈s::l::m::as,n<S.length:=by
 intro n hn
 simp only[uZ]at hn
 rcases hn with rfl|rfl|rfl|hn
 .exact Ai h.root
 .exact Ai h.lo
 .exact Ai h.nu
 .obtain⟨i,hi⟩:=xW.mp hn
  have:i<st.AA.length:=by rw[<-h.len];exact(ua.mp hi).1
  exact Ai (h.ld i n _ hi (uT this))
def SAt.app(h:SAt S s l m as st) y:SAt ((S++[Bu y]).set l (.lst (as.map D.ref++[.ref S.length]))) s l m (as++[S.length]) {st with AA:=st.AA++[y]}:=by
 obtain⟨n1,n2,n3,n4,n5,n6,n7⟩:=h.ne
 have lt:=h.lts
 have ls:=lt s (by simp);have ll:=lt l (by simp);have lm:=lt m (by simp)
 have la:∀a∈as,a<S.length:=λa ha=>lt a (by simp[ha])
 refine⟨?_,?_,?_,?_,by simp[h.len],?_⟩
 .rw[uW (vi n1),uU ls];exact h.root
 .rw[ui (by simp;lia)];simp
 .rw[uW n3,uU lm];exact h.nu
 .intro i a x ha hx
  by_cases e:i<as.length
  .rw[uU e]at ha
   have hx':(st.AA++[y])[i]?=Gc x:=hx
   rw[uU (by rw[<-h.len];exact e)]at hx'
   have ma:=uw ha
   rw[uW (show l≠a by rintro rfl;exact n5 ma),uU (la a ma)]
   exact h.ld i a x ha hx'
  .have hx':(st.AA++[y])[i]?=Gc x:=hx
   have:i=as.length:=by
    have:=(ua.mp ha).1
    simp at this;lia
   subst this
   rw[uz]at ha
   cases ha
   rw[h.len,uz]at hx'
   cases hx'
   rw[uW (by lia),uz]
 .have:(s::l::m::(as++[S.length]))=(s::l::m::as)++[S.length]:=by simp
  rw[this,yW]
  refine⟨h.nd,by simp,?_⟩
  intro a ha b hb e
  simp only[uZ,uv,ve]at hb
  have:=lt a ha
  lia
def SAt.hold(h:SAt S s l m as st) rs:SAt (S.set s (.lst [.ref l,shD rs,.ref m])) s l m as {st with hold:=rs}:=by
 obtain⟨n1,n2,n3,n4,n5,n6,n7⟩:=h.ne
 refine⟨ui (h.lts s (by simp)),by rw[uW n1];exact h.lo,by rw[uW n2];exact h.nu,?_,h.len,h.nd⟩
 intro i a x ha hx
 rw[uW (show s≠a by rintro rfl;exact n4 (uw ha))]
 exact h.ld i a x ha hx
def SAt.nums(h:SAt S s l m as st) us:SAt (S.set m (.lst (us.map D.int))) s l m as {st with nums:=us}:=by
 obtain⟨n1,n2,n3,n4,n5,n6,n7⟩:=h.ne
 refine⟨by rw[uW (vi n2)];exact h.root,by rw[uW (vi n3)];exact h.lo,ui (h.lts m (by simp)),?_,h.len,h.nd⟩
 intro i a x ha hx
 rw[uW (show m≠a by rintro rfl;exact n6 (uw ha))]
 exact h.ld i a x ha hx
def O6{C:En}(h:SAt S s l m as st)(hi:C.length=i8)(hb:∀S' a x,x∈st.AA->S'[a]?=Gc (Bu x)->∃S2,body (C++[Gc (.ref a)]) S'=Gc (.nx,C++[Gc (.ref a)],S2.set a (Bu (f x)))/\Bq [] S' S2):∃o S',Lx [(l,as.map D.ref)] (tNm i8) body (as.map D.ref) (C++[o0]) S=Gc (.nx,C++[o],S')/\SAt S' s l m as {st with AA:=st.AA.map f}/\Bq as S S':=by
 obtain⟨E',S',e,i,o,i1,i2,rfl,i3,i4⟩:=Gm (gs:=[(l,as.map D.ref)]) (t:=tNm i8) (b:=body)
  (I:=λds E S'=>∃(i:Nat) (o:uS D),ds=(as.drop i).map D.ref/\i<=as.length/\E=C++[o]/\SAt S' s l m as {st with AA:=(st.AA.take i).map f++st.AA.drop i}/\Bq as S S')
  (λds E S' hI=>by obtain⟨i,o,_,_,_,h1,_⟩:=hI;exact h1.guard) (ds:=as.map D.ref) (E:=C++[o0]) (S:=S)
  ⟨0,o0,by simp,wM _,rfl,by simpa using h,.refl⟩ (by
    rintro d ds E S1 ⟨i,o,i1,i2,rfl,i3,i4⟩
    have hlt:i<as.length:=by
     rcases xp i as.length with w|w
     .exact w
     .rw[v5 w]at i1;cases i1
    rw[vQ hlt,ux]at i1
    injection i1 with e1 e2
    subst e1 e2
    have hl2:i<st.AA.length:=by rw[<-h.len];exact hlt
    have ha:=uT hlt
    have hx:((st.AA.take i).map f++st.AA.drop i)[i]?=Gc st.AA[i]:=by
     rw[vJ (by simp;lia)]
     simp[zu (y8 hl2)]
    obtain⟨S2,e3,g3⟩:=hb S1 as[i] st.AA[i] (yD hl2) (i3.ld i _ _ ha hx)
    have k:=(i3.Ue g3).Qc (y:=f st.AA[i]) ha
    refine⟨C++[Gc (.ref as[i])],C++[Gc (.ref as[i])],S2.set as[i] (Bu (f st.AA[i])),?_,e3,i+1,Gc (.ref as[i]),rfl,hlt,rfl,?_,?_⟩
    .rw[bC]
     congr 1
     subst hi
     rw[ABO _ _ (ue _)]
     simp
    .have:((st.AA.take i).map f++st.AA.drop i).set i (f st.AA[i])=(st.AA.take (i+1)).map f++st.AA.drop (i+1):=by
      rw[ABO _ _ (by simp;lia)]
      have e0:i-((st.AA.take i).map f).length=0:=by simp;lia
      rw[e0,vQ hl2,List.set_cons_zero,List.take_succ_eq_append_getElem hl2,wW]
      simp
     rw[<-this]
     exact k
    .exact(i4.trans (g3.mono λ_ z=>(nomatch z))).trans (.set (yD hlt)))
 refine⟨o,S',e,?_,i4⟩
 have hz:i=as.length:=by
  have:=congrArg yZ i1
  simp at this
  lia
 have:(st.AA.take i).map f++st.AA.drop i=st.AA.map f:=by
  rw[hz,h.len];simp
 rw[this]at i3
 exact i3
section
variable{st:Stt}
def b9(hi:i<st.AA.length)(h:∀x∈st.AA,∀r∈x.ow,Sz j r):∀x∈less st.AA i n,∀r∈x.ow,Sz j r:=by
 intro x hx
 rcases Ot hx hi with h1|h1
 .exact h x h1
 .rw[h1];exact h (AL st.AA i) (Ap hi)
def UQ(hi:i<st.AA.length)(h:∀x∈st.AA,x.ow.length=j):∀x∈less st.AA i n,x.ow.length=j:=by
 intro x hx
 rcases Ot hx hi with h1|h1
 .exact h x h1
 .rw[h1];exact h (AL st.AA i) (Ap hi)
def YM(hS:SAt S s l m as st)(ht:IB t)(h:E9 t k st)(hk:k<=20)(hc:Can t st (.thr i n ws)):∃S',E8 [t.d,.ref s,(AR.thr i n ws).d] S=Gc (.non,S')/\SAt S' s l m as (step t st (.thr i n ws))/\Bq (s::l::m::as) S S':=by
 obtain⟨hi,h1,h2,hl,hw⟩:=hc
 have cO:=aC hS ht h (by lia) hl hw hi h1 h2
 have cz:=Vb ht h (by lia) hl hw hi h1 h2
 have sz:=h.sz
 obtain⟨a,a1,a2,a3⟩:=hS.at hi
 have hS1:=hS.Qc (y:=⟨(AL st.AA i).k,(AL st.AA i).n-n,(AL st.AA i).ow⟩) a1
 have o1:=sz.1 _ (Ap hi)
 have tp:=ht.2.1
 have hdef:step t st (.thr i n ws)={st with AA:=(less st.AA i n).map λx=>{x with ow:=HG (JB t st.AA i n ws) (AL st.AA i).ow x.ow},hold:=HG (JB t st.AA i n ws) (AL st.AA i).ow st.hold}:=rfl
 rw[hdef]
 generalize hX:JB t st.AA i n ws=X at*
 obtain⟨o,S2,f1,f2,f3⟩:=O6 (f:=λx=>{x with ow:=HG X (AL st.AA i).ow x.ow}) (body:=Mt (AF ED [eOp (o2 wIx) [eV 8,eC (.int 2)],eV 6,eV 7]) (eV 8) (eC (.int 2))) (C:=[Gc t.d,Gc (.ref s),Gc (AR.thr i n ws).d,Gc (.ref l),Gc (shD st.hold),Gc (.ref m),Gc (aD X),Gc (shD (AL st.AA i).ow)]) (i8:=8) (o0:=none) hS1 rfl (by
  intro S' b x hx hb
  obtain⟨S2,e2,g2⟩:=Ra (S:=S') (x:=X) (ss:=x.ow) (os:=(AL st.AA i).ow) (j:=30+170*k) (i:=145+k) (b9 (n:=n) hi sz.1 x hx) o1 cz (by lia) (by rw[UQ (n:=n) hi h.own x hx];lia)
  have hb2:=g2.get hb (by simp)
  refine⟨S2,?_,g2⟩
  simp[An hb,Bu,e2,AQ hb2])
 obtain⟨S3,e3,g3⟩:=Ra (S:=S2) (x:=X) (ss:=st.hold) (os:=(AL st.AA i).ow) (j:=30+170*k) (i:=145+k) sz.2 o1 cz (by lia) (by rw[h.hold];lia)
 have f4:=(f2.Ue g3)
 have rt:=f4.root
 refine⟨S3.set s (.lst [.ref l,shD (HG X (AL st.AA i).ow st.hold),.ref m]),?_,f4.hold _,?_⟩
 .have f1':=f1
  simp only[vV,vK]at f1'
  have rt':Em S3 s=Gc [.ref l,shD st.hold,.ref m]:=AQ rt
  have r0:=AQ hS.root
  have lo:=An hS.lo
  have xx:=An a2
  have c2:=AQ a2
  have sq1:=JE hS1.lo
  simp only[Bu]at f1' sq1 c2 xx
  simp only[AR.d]at f1' cO⊢
  simp[E8,KR,r0,cO,lo,a3,xx,c2,sq1,f1',e3,rt']
 .have q1:Bq (s::l::m::as) S (S.set a (Bu ⟨(AL st.AA i).k,(AL st.AA i).n-n,(AL st.AA i).ow⟩)):=.set (by simp[uw a1])
  exact((q1.trans (f3.mono λn hn=>by simp[hn])).trans (g3.mono λ_ z=>(nomatch z))).trans (.set (by simp))
def Wa(hS:SAt S s l m as st)(ht:IB t)(h:E9 t k st)(hk:k<=20)(hc:Can t st (.Fe p q x)):∃S',E8 [t.d,.ref s,(AR.Fe p q x).d] S=Gc (.non,S')/\SAt S' s l m as (step t st (.Fe p q x))/\Bq (s::l::m::as) S S':=by
 obtain⟨hpq,hp,hq,x1,x2,x3⟩:=hc
 have sz:=h.sz
 have hx:Sz 4 x:=by
  refine⟨?_,by lia⟩
  show x.num.natAbs<16
  lia
 have hdef:step t st (.Fe p q x)={st with AA:=st.AA.map λy=>{y with ow:=Gx p q x y.ow},hold:=Gx p q x st.hold}:=rfl
 rw[hdef]
 obtain⟨o,S2,f1,f2,f3⟩:=O6 (f:=λy=>{y with ow:=Gx p q x y.ow}) (body:=Mt (AF FD [eOp (o2 wIx) [eV 8,eC (.int 2)],eV 2]) (eV 8) (eC (.int 2))) (C:=[Gc t.d,Gc (.ref s),Gc (AR.Fe p q x).d,Gc (.ref l),Gc (shD st.hold),Gc (.ref m),none,none]) (i8:=8) (o0:=none) hS rfl (by
  intro S' b y hy hb
  obtain⟨S2,e2,g2⟩:=UO (S:=S') (p:=p) (q:=q) (x:=x) (ss:=y.ow) (j:=30+170*k) (i:=4) (sz.1 y hy) hx (by lia) (by rw[h.own y hy];exact hp) (by rw[h.own y hy];exact hq) hpq
  have hb2:=g2.get hb (by simp)
  refine⟨S2,?_,g2⟩
  simp[An hb,Bu,e2,AQ hb2])
 obtain⟨S3,e3,g3⟩:=UO (S:=S2) (p:=p) (q:=q) (x:=x) (ss:=st.hold) (j:=30+170*k) (i:=4) sz.2 hx (by lia) (by rw[h.hold];exact hp) (by rw[h.hold];exact hq) hpq
 have f4:=(f2.Ue g3)
 have rt:=f4.root
 refine⟨S3.set s (.lst [.ref l,shD (Gx p q x st.hold),.ref m]),?_,f4.hold _,?_⟩
 .have f1':=f1
  simp only[vV,vK]at f1'
  have rt':Em S3 s=Gc [.ref l,shD st.hold,.ref m]:=AQ rt
  have r0:=AQ hS.root
  have sq1:=JE hS.lo
  simp only[AR.d]at f1' e3⊢
  simp[E8,KR,r0,sq1,f1',e3,rt']
 .exact((f3.mono λn hn=>by simp[hn]).trans (g3.mono λ_ z=>(nomatch z))).trans (.set (by simp))
end
theorem Qg:less ls l n=ls.set l ⟨(AL ls l).k,(AL ls l).n-n,(AL ls l).ow⟩:=rfl
def Rv{P p:Nat}{cond:Int}{C:En}(hP:P<=50)(hf:∀(i:Nat),f [Gc dd,Gc (.int i)] S=Gc (aD (if i=p then 1 else 0),S)):BZ [] (tNm 1) BI f (Nd 0 P) [] [Gc dd,none] S=Gc ((Ub P p).map aD,S):=by
 have:=EN (gs:=[]) (t:=tNm 1) (f:=f) (C:=[Gc dd]) (m:=1) (e:=λi:Nat=>D.int (0+(i:Int))) (g:=λi=>aD (if i=p then 1 else 0)) (S:=S) AW (xs:=u7 P) (acc:=[]) (os:=[none]) rfl (ub (show _<=50 by simp;lia) (AJ (by decide))) (by
  intro i _ os ho
  obtain⟨o,rfl⟩:=NC ho
  refine⟨[Gc (.int i)],rfl,by simp,hf i⟩)
 simp only[vV,vK]at this
 rw[Ub,wD]
 exact this
inductive DoB(t:Tr)(S:Sto)(s l m:Nat)(as:Wp Nat)(st:Stt)(d:AR):Prop
 |mk (S':Sto) (as':Wp Nat) (e:Bf [t.d,.ref s,d.d] S=Gc (.non,S')) (h:SAt S' s l m as' (step t st d)) (g:Bq (s::l::m::as) S S') (f:∀n∈as',n∈as\/S.length<=n)
def Xi(hS:SAt S s l m as st)(ht:IB t)(h:E9 t k st)(hk:k<=20)(hc:Can t st (.CT p kd n)):DoB t S s l m as st (.CT p kd n):=by
 have tp:=ht.2.1
 have e:=Rv (S:=S) (P:=t.p) (p:=p) (cond:=0) (C:=[]) (dd:=(AR.CT p kd n).d) (f:=BC [eOp (o1 Wl) [eOp (o2 wEq) [eV 1,eOp (o2 wIx) [eV 0,eC (.int 1)]]],eC (.int 1)]) (by lia) (by
  intro i
  by_cases hi:i=p
  .subst hi;simp[AR.d];rfl
  .have:((i:Int)==(p:Int))=false:=by simp;lia
   simp[AR.d,this,hi];rfl)
 have rn:Jc (t.p:Int)=true:=ET (by lia) (by lia)
 have hz:as.length<sizeLine:=uV (show as.length<50 by rw[hS.len];have:=h.len;lia) (AJ (by decide))
 refine⟨_,_,?_,hS.app ⟨kd,n,Ub t.p p⟩,?_,?_⟩
 .have r0:=AQ hS.root
  have c0:=AQ hS.lo
  have c1:Em (S++[Bu ⟨kd,n,Ub t.p p⟩]) l=Gc (as.map D.ref):=AQ (by rw[uU (Ai hS.lo)];exact hS.lo)
  simp only[Bu]at c1⊢
  simp only[AR.d]at e⊢
  simp[Bf,Fi,r0,Tr.d,rn,e,c0,shD]at c1⊢
  simp[c1,hz]
 .exact Bq.app.trans (.set (by simp))
 .intro n hn
  rcases vE.mp hn with w|w
  .exact .inl w
  .simp at w;exact .inr (by lia)
def XJ(hS:SAt S s l m as st)(ht:IB t)(h:E9 t k st)(hk:k<=20)(hc:Can t st (.CW i n)):DoB t S s l m as st (.CW i n):=by
 obtain⟨hi,h1,h2⟩:=hc
 obtain⟨a,a1,a2,a3⟩:=hS.at hi
 refine⟨_,as,?_,hS.Qc (y:=⟨(AL st.AA i).k,(AL st.AA i).n-n,(AL st.AA i).ow⟩) a1,.set (by simp[uw a1]),λn hn=>.inl hn⟩
 have r0:=AQ hS.root
 have lo:=An hS.lo
 have xx:=An a2
 have c2:=AQ a2
 simp only[Bu]at c2 xx⊢
 simp[Bf,Fi,AR.d,r0,lo,a3,xx,c2]
def iT(hS:SAt S s l m as st)(ht:IB t)(h:E9 t k st)(hk:k<=20)(hc:Can t st (.thr i n ws)):DoB t S s l m as st (.thr i n ws):=by
 obtain⟨S',e,g1,g2⟩:=YM hS ht h hk hc
 refine⟨S',as,?_,g1,g2,λn hn=>.inl hn⟩
 have r0:=AQ hS.root
 simp only[AR.d]at e⊢
 simp[Bf,Fi,r0,e]
def d9(hS:SAt S s l m as st)(ht:IB t)(h:E9 t k st)(hk:k<=20)(hc:Can t st (.Fe p q x)):DoB t S s l m as st (.Fe p q x):=by
 obtain⟨S',e,g1,g2⟩:=Wa hS ht h hk hc
 refine⟨S',as,?_,g1,g2,λn hn=>.inl hn⟩
 have r0:=AQ hS.root
 simp only[AR.d]at e⊢
 simp[Bf,Fi,r0,e]
def aq(hS:SAt S s l m as st)(ht:IB t)(h:E9 t k st)(hk:k<=20)(hc:Can t st (.swap i g kd n)):DoB t S s l m as st (.swap i g kd n):=by
 obtain⟨hi,h1,h2,h3,h4,h5,h6⟩:=hc
 obtain⟨a,a1,a2,a3⟩:=hS.at hi
 have hS1:=hS.Qc (y:=⟨(AL st.AA i).k,(AL st.AA i).n-g,(AL st.AA i).ow⟩) a1
 have hS2:=hS1.app ⟨kd,n,(AL st.AA i).ow⟩
 have hz:as.length<sizeLine:=uV (show as.length<50 by rw[hS.len];have:=h.len;lia) (AJ (by decide))
 have hz2:st.nums.length<=sizeLine:=ub (show _<=50 by have:=h.nm;lia) (AJ (by decide))
 refine⟨_,_,?_,hS2,?_,?_⟩
 .have r0:=AQ hS.root
  have lo:=An hS.lo
  have xx:=An a2
  have c2:=AQ a2
  have lo1:=An hS1.lo
  have co1:=AQ hS1.lo
  have x1:=An (ui (a:=Bu ⟨(AL st.AA i).k,(AL st.AA i).n-g,(AL st.AA i).ow⟩) (Ai a2))
  have c4:Em ((S.set a (Bu ⟨(AL st.AA i).k,(AL st.AA i).n-g,(AL st.AA i).ow⟩))++[Bu ⟨kd,n,(AL st.AA i).ow⟩]) l=Gc (as.map D.ref):=AQ (by rw[uU (Ai hS1.lo)];exact hS1.lo)
  have nu:=hS2.nu
  have c5:=AQ nu
  have st5:∀{T:Sto},T[m]?=Gc (.lst (st.nums.map D.int))->T.set m (.lst (st.nums.map D.int))=T:=λh=>set_same h
  have st6:=st5 nu
  simp only[Bu]at c2 xx lo1 co1 x1 c4 c5 st6⊢
  have hz':(as.map D.ref).length<sizeLine:=by simpa using hz
  generalize (as.map D.ref)=refs at*
  simp[Bf,Fi,AR.d,r0,lo,a3,xx,c2,lo1,x1,co1]at c4 c5 st6⊢
  simp[c4,hz',c5,hz2,st6]
 .exact((Bq.set (by simp[uw a1])).trans .app).trans (.set (by simp))
 .intro n hn
  rcases vE.mp hn with w|w
  .exact .inl w
  .simp at w;exact .inr (by lia)
def Xm(hS:SAt S s l m as st)(ht:IB t)(h:E9 t k st)(hk:k<=20)(hc:Can t st (.Bx u i g kd n)):DoB t S s l m as st (.Bx u i g kd n):=by
 obtain⟨hi,h1,h2,h3,h4,h5,h6,h7,h8⟩:=hc
 obtain⟨a,a1,a2,a3⟩:=hS.at hi
 have hS1:=hS.Qc (y:=⟨(AL st.AA i).k,(AL st.AA i).n-g,(AL st.AA i).ow⟩) a1
 have hS2:=hS1.app ⟨kd,n,(AL st.AA i).ow⟩
 have hz:as.length<sizeLine:=uV (show as.length<50 by rw[hS.len];have:=h.len;lia) (AJ (by decide))
 have hz2:st.nums.length+1<=sizeLine:=ub (show _<=50 by have:=h.nm;lia) (AJ (by decide))
 refine⟨_,_,?_,hS2.nums (st.nums++[u]),?_,?_⟩
 .have r0:=AQ hS.root
  have lo:=An hS.lo
  have xx:=An a2
  have c2:=AQ a2
  have lo1:=An hS1.lo
  have co1:=AQ hS1.lo
  have x1:=An (ui (a:=Bu ⟨(AL st.AA i).k,(AL st.AA i).n-g,(AL st.AA i).ow⟩) (Ai a2))
  have c4:Em ((S.set a (Bu ⟨(AL st.AA i).k,(AL st.AA i).n-g,(AL st.AA i).ow⟩))++[Bu ⟨kd,n,(AL st.AA i).ow⟩]) l=Gc (as.map D.ref):=AQ (by rw[uU (Ai hS1.lo)];exact hS1.lo)
  have nu:=hS2.nu
  have c5:=AQ nu
  simp only[Bu]at c2 xx lo1 co1 x1 c4 c5⊢
  have hz':(as.map D.ref).length<sizeLine:=by simpa using hz
  generalize (as.map D.ref)=refs at*
  simp[Bf,Fi,AR.d,r0,lo,a3,xx,c2,lo1,x1,co1]at c4 c5⊢
  simp[c4,hz',c5,hz2]
 .exact(((Bq.set (by simp[uw a1])).trans .app).trans (.set (by simp))).trans (.set (by simp))
 .intro n hn
  rcases vE.mp hn with w|w
  .exact .inl w
  .simp at w;exact .inr (by lia)
def bI(hS:SAt S s l m as st)(ht:IB t)(h:E9 t k st)(hk:k<=20)(hc:Can t st (.GP i j)):DoB t S s l m as st (.GP i j):=by
 obtain⟨hij,hi,hj,h1,h2,h3⟩:=hc
 obtain⟨a,a1,a2,a3⟩:=hS.at hi
 obtain⟨b,b1,b2,b3⟩:=hS.at hj
 have sz:=h.sz
 have pi:=h.pcs _ (Ap hi)
 have pj:=h.pcs _ (Ap hj)
 obtain⟨S1,e1,g1⟩:=V9 (S:=S) (x:=AL st.AA i) (y:=AL st.AA j) (j:=30+170*k) (i:=131+k) a2 b2 (sz.1 _ (Ap hi)) (sz.1 _ (Ap hj)) (F8 pi.1 pi.2) (F8 pj.1 pj.2) (by lia) (by lia) (by lia) (by rw[h.own _ (Ap hi)];have:=ht.2.1;lia)
 have hS1:=hS.Ue g1
 have hab:a≠b:=by
  rintro rfl
  exact hij ((yV (ua.mp a1).1 hS.ne.2.2.2.2.2.2).mp (a1.trans b1.symm))
 have hS2:=hS1.app ⟨(AL st.AA i).k,(AL st.AA i).n+(AL st.AA j).n,B9 (AL st.AA i).n (AL st.AA j).n (AL st.AA i).ow (AL st.AA j).ow⟩
 have ai:i<as.length:=(ua.mp a1).1
 have bj:j<as.length:=(ua.mp b1).1
 have a1':(as++[S1.length])[i]?=Gc a:=by rw[uU ai];exact a1
 have b1':(as++[S1.length])[j]?=Gc b:=by rw[uU bj];exact b1
 have hS3:=hS2.Qc (y:=⟨(AL st.AA i).k,0,(AL st.AA i).ow⟩) a1'
 have hS4:=hS3.Qc (y:=⟨(AL st.AA j).k,0,(AL st.AA j).ow⟩) b1'
 have hz:as.length<sizeLine:=uV (show as.length<50 by rw[hS.len];have:=h.len;lia) (AJ (by decide))
 have est:step t st (.GP i j)={st with AA:=((st.AA++[Ld.mk (AL st.AA i).k ((AL st.AA i).n+(AL st.AA j).n) (B9 (AL st.AA i).n (AL st.AA j).n (AL st.AA i).ow (AL st.AA j).ow)]).set i ⟨(AL st.AA i).k,0,(AL st.AA i).ow⟩).set j ⟨(AL st.AA j).k,0,(AL st.AA j).ow⟩}:=by
  have e0:AL (less st.AA i (AL st.AA i).n) j=AL st.AA j:=by
   unfold AL less
   rw[u4,uW hij,<-u4]
  have e1:less st.AA i (AL st.AA i).n=st.AA.set i ⟨(AL st.AA i).k,0,(AL st.AA i).ow⟩:=by
   unfold less
   rw[Int.sub_self]
  have e2:less (less st.AA i (AL st.AA i).n) j (AL st.AA j).n=(st.AA.set i ⟨(AL st.AA i).k,0,(AL st.AA i).ow⟩).set j ⟨(AL st.AA j).k,0,(AL st.AA j).ow⟩:=by
   rw[Qg (ls:=less st.AA i (AL st.AA i).n),e0,Int.sub_self,e1]
  show{st with AA:=less (less st.AA i (AL st.AA i).n) j (AL st.AA j).n++_}=_
  rw[e2,ABe _ _ hi,ABe _ _ (by simpa using hj)]
 refine⟨_,_,?_,est▸hS4,?_,?_⟩
 .have r0:=AQ hS.root
  have lo:=An hS.lo
  have c0:=AQ hS.lo
  have xa:=An a2
  have xb:=An b2
  have c1:=AQ hS1.lo
  have c4:Em (S1++[Bu ⟨(AL st.AA i).k,(AL st.AA i).n+(AL st.AA j).n,B9 (AL st.AA i).n (AL st.AA j).n (AL st.AA i).ow (AL st.AA j).ow⟩]) l=Gc (as.map D.ref):=AQ (by rw[uU (Ai hS1.lo)];exact hS1.lo)
  have c5:=AQ (hS2.ld i a (AL st.AA i) a1' (by show(st.AA++_)[i]?=_;rw[uU hi];exact EO hi))
  have c6:=AQ (hS3.ld j b (AL st.AA j) b1' (by show((st.AA++_).set i _)[j]?=_;rw[uW hij,uU hj];exact EO hj))
  simp only[Bu]at xa xb c4 c5 c6⊢
  have hz':(as.map D.ref).length<sizeLine:=by simpa using hz
  generalize (as.map D.ref)=refs at*
  generalize B9 (AL st.AA i).n (AL st.AA j).n (AL st.AA i).ow (AL st.AA j).ow=pr at*
  simp[Bf,Fi,AR.d,r0,lo,a3,b3,xa,xb,c0,e1]at c4 c5 c6⊢
  simp[c4,hz',c5,c6]
 .exact(((g1.mono λ_ z=>(nomatch z)).trans .app).trans (.set (by simp))).trans ((Bq.set (by simp[uw a1])).trans (.set (by simp[uw b1])))
 .intro n hn
  rcases vE.mp hn with w|w
  .exact .inl w
  .simp at w;subst w;exact .inr g1.len
def gU(hS:SAt S s l m as st)(ht:IB t)(h:E9 t k st)(hk:k<=20)(hc:Can t st d):DoB t S s l m as st d:=by
 cases d with
 |CT=>exact Xi hS ht h hk hc
 |GP=>exact bI hS ht h hk hc
 |swap=>exact aq hS ht h hk hc
 |Bx=>exact Xm hS ht h hk hc
 |CW=>exact XJ hS ht h hk hc
 |thr=>exact iT hS ht h hk hc
 |Fe=>exact d9 hS ht h hk hc
section
variable{st:Stt}
def MA(h:a<=b):2^a<=2^b:=vN (by decide) h
def ML(h:a<=b):(2:Int)^a<=2^b:=by
 have:=MA h
 exact_mod_cast this
def Hl{c:Int}(h:0<=c):((c.toNat:Nat):Rat)=(c:Rat):=by
 have:((c.toNat:Nat):Int)=c:=vh h
 have:(((c.toNat:Nat):Int):Rat)=(c:Rat):=by rw[this]
 exact this
def Vj(hB:B<2^(30+170*k))(hT:T<2^j)(hj:j<=170):B*T<2^(30+170*(k+1)):=by
 have:=Df hB hT
 exact uV this (MA (by lia))
def kM(h:G<=B):∀r∈Ub P p,Ok G B r:=by
 intro r hr
 obtain⟨i,_,rfl⟩:=vT.mp hr
 split
 .exact Ok.one h
 .exact Ok.zero
def UL{ss os:Wp Rat}(hn:0<n)(hm:0<m)(hs:∀r∈ss,Ok G B r)(ho:∀r∈os,Ok G B r):∀r∈B9 n m ss os,Ok (G*(n+m).toNat) (B*(n+m).toNat) r:=by
 intro r hr
 unfold B9 at hr
 rw[xW]at hr
 obtain⟨i,hi'⟩:=hr
 rw[zk]at hi'
 obtain⟨x,y,hx,hy,rfl⟩:=hi'
 have:=Ok.mix (a:=n.toNat) (b:=m.toNat) (t:=(n+m).toNat) (hs x (uw hx)) (ho y (uw hy)) (by lia) (by lia)
 rwa [Hl (by lia),Hl (by lia),Hl (by lia)]at this
def V3(hp:p<ss.length)(hq:q<ss.length)(x1:0<x.num)(x2:x.num<=x.den)(hs:∀r∈ss,Ok G B r):∀r∈Gx p q x ss,Ok (G*x.den) (2*B*x.den) r:=by
 have dp:=x.den_pos
 have hsp:=hs _ (getD_mem (d:=0) hp)
 have hsq:=hs _ (getD_mem (d:=0) hq)
 have xs:=DJ x
 have ex:(x.num:Rat)=((x.num.toNat:Nat):Rat):=(Hl (by lia)).symm
 have nz:=Hy x
 intro r hr
 unfold Gx at hr
 rcases xY hr with hr|hr
 .rcases xY hr with hr|hr
  .exact(hs r hr).up (by rw[AAn];lia)
  .rw[hr]
   obtain⟨z,e,hz⟩:=Ok.mix (a:=x.den-x.num.toNat) (b:=x.num.toNat) (t:=x.den) hsp (Ok.zero (G:=G) (B:=B)) (by lia) dp
   refine⟨z,?_,ub hz (by rw[AAn];lia)⟩
   rw[<-e]
   have e2:((x.den-x.num.toNat:Nat):Rat)=(x.den:Rat)-(x.num:Rat):=by
    have:(((x.den-x.num.toNat:Nat):Int):Rat)=((x.den-x.num:Int):Rat):=by
     congr 1;lia
    push_cast at this
    exact this
   rw[e2]
   generalize ss.getD p 0=sp at*
   congr 1
   grind
 .rw[hr]
  obtain⟨z,e1,hz⟩:=hsp
  obtain⟨y,e2,hy⟩:=hsq
  refine⟨y*x.den+z*x.num.toNat,?_,?_⟩
  .generalize ss.getD p 0=sp at*
   generalize ss.getD q 0=sq at*
   push_cast
   rw[<-ex,<-e1,<-e2]
   grind
  .have h1:y*x.den<=B*x.den:=vf _ hy
   have h2:z*x.num.toNat<=B*x.den:=AAV hz (by lia)
   rw[AAn];lia
def JF{f:Rat->Rat->Rat}(h:a.length=n)(g:b.length=n):(z9 f a b).length=n:=by rw[List.length_zipWith,h,g];lia
def IS{P:Ld->Prop}(hi:i<st.AA.length)(h:∀x∈st.AA,P x)(g:P ⟨(AL st.AA i).k,(AL st.AA i).n-n,(AL st.AA i).ow⟩):∀x∈less st.AA i n,P x:=by
 intro x hx
 rcases Ot hx hi with h1|h1
 .exact h x h1
 .rw[h1];exact g
def N7{P:Ld->Prop}(h:∀x∈ls,P x)(g:P y):∀x∈ls++[y],P x:=by
 intro x hx
 rcases vE.mp hx with w|w
 .exact h x w
 .simp at w;rw[w];exact g
structure LOk(t:Tr)(k G B:Nat)(x:Ld):Prop where
 kd:x.k<t.k
 n0:0<=x.n
 n1:x.n<2^(131+k)
 own:x.ow.length=t.p
 ok:∀r∈x.ow,Ok G B r
def LOk.up(h:LOk t k G B x)(hT:B*T<=B'):LOk t (k+1) (G*T) B' x:=⟨h.kd,h.n0,AAX h.n1 (ML (by lia)),h.own,λr hr=>(h.ok r hr).up hT⟩
def LOk.up1(h:LOk t k G B x):LOk t (k+1) G B x:=⟨h.kd,h.n0,AAX h.n1 (ML (by lia)),h.own,h.ok⟩
def LOk.less(h:LOk t k G B x)(h0:0<=n)(h1:n<=x.n):LOk t k G B ⟨x.k,x.n-n,x.ow⟩:=⟨h.kd,show 0<=x.n-n by lia,show x.n-n<_ by have:=h.n1;lia,h.own,h.ok⟩
def E9.of(h1:st.AA.length<=4+k)(h2:∀x∈st.AA,LOk t k G B x)(h3:st.hold.length=t.p)(h4:st.nums.length<=k)(g0:0<G)(g1:G<=B)(g2:B<2^(30+170*k))(h5:∀r∈st.hold,Ok G B r):E9 t k st:=⟨h1,λx hx=>(h2 x hx).kd,λx hx=>⟨(h2 x hx).n0,(h2 x hx).n1⟩,λx hx=>(h2 x hx).own,h3,h4,G,B,g0,g1,g2,λx hx=>(h2 x hx).ok,h5⟩
def kf{n:Int}(h:n<2^131):n<2^(131+k):=AAX h (ML (by lia))
def Rl(ht:IB t)(h:E9 t k st)(hk:k<=20)(hc:Can t st d):E9 t (k+1) (step t st d):=by
 obtain⟨G,B,g0,g1,g2,hl,hh⟩:=h.gb
 have L:∀x∈st.AA,LOk t k G B x:=λx hx=>⟨h.kind x hx,(h.pcs x hx).1,(h.pcs x hx).2,h.own x hx,hl x hx⟩
 have g2':B<2^(30+170*(k+1)):=uV g2 (MA (by lia))
 have hlen:=h.len
 have hnm:=h.nm
 cases d with
 |CT p kd n=>
  obtain⟨h1,h2,h3,h4⟩:=hc
  refine E9.of (G:=G) (B:=B) (by simp[step];lia) (N7 (λx hx=>(L x hx).up1) ⟨h2,by show 0<=n;lia,kf h4,by simp[Ub],kM g1⟩) h.hold (xC hnm) g0 g1 g2' hh
 |GP i j=>
  obtain⟨hij,hi,hj,h1,h2,h3⟩:=hc
  have li:=L _ (Ap hi)
  have lj:=L _ (Ap hj)
  have tl:((AL st.AA i).n+(AL st.AA j).n).toNat<2^(132+k):=by
   have a:=li.n1;have b:=lj.n1
   have e:(2:Int)^(132+k)=2^(131+k)*2:=by rw[show 132+k=(131+k)+1 by lia,Int.pow_succ]
   have:(((AL st.AA i).n+(AL st.AA j).n).toNat:Int)<((2^(132+k):Nat):Int):=by
    rw[vh (by lia)]
    push_cast
    rw[e];lia
   exact_mod_cast this
  have t0:0<((AL st.AA i).n+(AL st.AA j).n).toNat:=by lia
  refine E9.of (G:=G*((AL st.AA i).n+(AL st.AA j).n).toNat) (B:=B*((AL st.AA i).n+(AL st.AA j).n).toNat) (by simp[step,Dr];lia) (N7 ?_ ⟨li.kd,by show 0<=(AL st.AA i).n+(AL st.AA j).n;lia,?_,?_,UL h1 h2 li.ok lj.ok⟩) h.hold (xC hnm) (AAg g0 t0) (vf _ g1) (Vj g2 tl (by lia)) (λr hr=>(hh r hr).up (ue _))
  .have e0:AL (less st.AA i (AL st.AA i).n) j=AL st.AA j:=by
    unfold AL less
    rw[u4,uW hij,<-u4]
   have A:=IS (P:=LOk t (k+1) (G*((AL st.AA i).n+(AL st.AA j).n).toNat) (B*((AL st.AA i).n+(AL st.AA j).n).toNat)) (n:=(AL st.AA i).n) hi (λx hx=>(L x hx).up (ue _)) ((li.up (ue _)).less (by lia) (Int.le_refl _))
   have A2:=IS (st:={st with AA:=less st.AA i (AL st.AA i).n}) (i:=j) (n:=(AL st.AA j).n) (by simpa[Dr]using hj) A (by
    show LOk _ _ _ _ ⟨(AL (less st.AA i (AL st.AA i).n) j).k,(AL (less st.AA i (AL st.AA i).n) j).n-_,(AL (less st.AA i (AL st.AA i).n) j).ow⟩
    rw[e0]
    exact(lj.up (ue _)).less (by lia) (Int.le_refl _))
   exact A2
  .show(AL st.AA i).n+(AL st.AA j).n<2^(131+(k+1))
   have a:=li.n1;have b:=lj.n1
   rw[show 131+(k+1)=(131+k)+1 by lia,Int.pow_succ];lia
  .exact JF li.own lj.own
 |swap i g kd n=>
  obtain⟨hi,h1,h2,h3,h4,h5,h6⟩:=hc
  have li:=L _ (Ap hi)
  refine E9.of (G:=G) (B:=B) (by simp[step,Dr];lia) (N7 (IS hi (λx hx=>(L x hx).up1) (li.up1.less (by lia) h2)) ⟨h3,by show 0<=n;lia,kf h6,li.own,li.ok⟩) h.hold (xC hnm) g0 g1 g2' hh
 |Bx u i g kd n=>
  obtain⟨hi,h1,h2,h3,h4,h5,h6,h7⟩:=hc
  have li:=L _ (Ap hi)
  refine E9.of (G:=G) (B:=B) (by simp[step,Dr];lia) (N7 (IS hi (λx hx=>(L x hx).up1) (li.up1.less (by lia) h2)) ⟨h3,by show 0<=n;lia,kf h6,li.own,li.ok⟩) h.hold (by simp[step];lia) g0 g1 g2' hh
 |CW i n=>
  obtain⟨hi,h1,h2⟩:=hc
  have li:=L _ (Ap hi)
  refine E9.of (G:=G) (B:=B) (by simp[step,Dr];lia) (IS hi (λx hx=>(L x hx).up1) (li.up1.less (by lia) h2)) h.hold (xC hnm) g0 g1 g2' hh
 |thr i n ws=>
  obtain⟨hi,h1,h2,h3,h4⟩:=hc
  have li:=L _ (Ap hi)
  have W:=J4 ht h (by lia) h3 h4
  have wl:(D6 t st.AA ws).toNat<2^(145+k):=by
   have:((D6 t st.AA ws).toNat:Int)<((2^(145+k):Nat):Int):=by
    rw[vh (by lia)];push_cast;exact W.2
   exact_mod_cast this
  have bo:=λ{ss:Wp Rat} (hs:∀r∈ss,Ok G B r)=>Vm ht h (by lia) h3 h4 hi h1 h2 li.ok hs
  refine E9.of (G:=G*(D6 t st.AA ws).toNat) (B:=B*(D6 t st.AA ws).toNat) (by simp[step,Dr];lia) ?_ (JF h.hold li.own) (xC hnm) (AAg g0 (by lia)) (vf _ g1) (Vj g2 wl (by lia)) (bo hh)
  intro x hx
  obtain⟨y,hy,rfl⟩:=vT.mp hx
  have ly:=IS (P:=LOk t k G B) hi L (li.less (n:=n) (by lia) h2) y hy
  exact⟨ly.kd,ly.n0,ly.up1.n1,JF ly.own li.own,bo ly.ok⟩
 |Fe p q x=>
  obtain⟨h1,h2,h3,h4,h5,h6⟩:=hc
  have dp:=x.den_pos
  refine E9.of (G:=G*x.den) (B:=2*B*x.den) (by simp[step];lia) ?_ (by simp[step,Gx,h.hold]) (xC hnm) (AAg g0 dp) (vf _ (by lia)) ?_ (V3 (by rw[h.hold];exact h2) (by rw[h.hold];exact h3) h4 h5 hh)
  .intro y hy
   obtain⟨z,hz,rfl⟩:=vT.mp hy
   have lz:=L z hz
   exact⟨lz.kd,lz.n0,lz.up1.n1,by simp[Gx,lz.own],V3 (by rw[lz.own];exact h2) (by rw[lz.own];exact h3) h4 h5 lz.ok⟩
  .have:=Vj (B:=B) (T:=2*x.den) (j:=5) g2 (by lia) (by lia)
   rw[show 2*B*x.den=B*(2*x.den) by rw[<-AAn,yG 2 B]]
   exact this
end
theorem Fg{α:Type}{f:α->D}:∀{xs:Wp α},(∀x∈xs,(f x).lay=true)->D.Ov (xs.map f)=true
 | [],_=>rfl
 |x::xs,h=>by
  show((f x).lay && D.Ov (xs.map f))=true
  rw[h x um,Fg λy hy=>h y (uX _ hy)]
  rfl
def XY(h:D.Ov ds=true):Ou (.lst ds) (.lst [])=true:=by
 unfold Ou
 show(D.Ov ds && true && _)=true
 rw[h]
 simp only[Bool.true_and,vW]
 exact ub (Nat.min_le_right _ _) (by decide)
noncomputable def GN(is:Wp Nat):Wp D:=is.map λ(i:Nat)=>D.int i
def Ls:Ou (.lst (GN is)) (.lst [])=true:=XY (Fg λ_ _=>rfl)
theorem Xv:deq (.lst (d::ds)) (.lst [])=false:=rfl
theorem cR:deq (.lst []) (.lst [])=true:=rfl
def Ny:deq (.lst (GN is)) (.lst [])=is.isEmpty:=by
 cases is with
 |nil=>exact cR
 |cons i is=>exact Xv
def L6:Mr 0 ds=(u7 ds.length).map λ(i:Nat)=>D.tup [.int i,ds.getD i .non]:=by
 apply AAh
 intro i
 rw[Js,uo]
 by_cases h:i<ds.length
 .rw[uT h,yl h]
  simp[uT h]
 .rw[ABP (by lia),ABP (by simp;lia)]
  rfl
def Jg:(GN is).length=is.length:=by simp[GN]
def Lp(h0:0<=r)(h1:r<is.length):∃i∈is,atI (GN is) r=Gc (.int (i:Nat)):=by
 have h2:r.toNat<is.length:=by lia
 refine⟨is[r.toNat],yD h2,?_⟩
 have:=Zj (xs:=GN is) h0 (by rw[Jg];exact h1)
 rw[this]
 simp[GN]
def Wi{x K:Int}(h0:0<=x)(h1:x<2*K):x % K=if x<K then x else x-K:=by
 split
 .exact Int.emod_eq_of_lt h0 (by assumption)
 .have:x % K=(x-K) % K:=by rw[Int.sub_emod_right]
  rw[this]
  exact Int.emod_eq_of_lt (by lia) (by lia)
noncomputable def B8(st:Stt):Wp Nat:=(u7 st.AA.length).filter λi=>decide (0<(AL st.AA i).n)
def cX(hS:SAt S s l m as st)(hl:st.AA.length<=50):BZ [(l,as.map D.ref)] (tTp [tNm 0,tNm 1]) (eOp (o2 wGt) [eOp (o2 wIx) [eV 1,eC (.int 1)],eC (.int 0)]) (eV 0) (Mr 0 (as.map D.ref)) [] [none,none] S=Gc (GN (B8 st),S):=by
 have:=Ea (gs:=[(l,as.map D.ref)]) (t:=tTp [tNm 0,tNm 1]) (c:=eOp (o2 wGt) [eOp (o2 wIx) [eV 1,eC (.int 1)],eC (.int 0)]) (f:=eV 0) (C:=[]) (m:=2) (e:=λi:Nat=>D.tup [.int i,(as.map D.ref).getD i .non]) (g:=λi:Nat=>D.int i) (b:=λi=>decide (0<(AL st.AA i).n)) (S:=S) hS.guard (xs:=u7 st.AA.length) (acc:=[]) (os:=[none,none]) rfl (ub (show _<=50 by simp;lia) (AJ (by decide))) (by
  intro i hi os ho
  obtain⟨o1,o2,rfl⟩:=jG ho
  obtain⟨a,a1,a2,a3⟩:=hS.at (AAG.mp hi)
  have e:(as.map D.ref).getD i .non=.ref a:=by simp[a1]
  rw[e]
  refine⟨[Gc (.int i),Gc (.ref a)],rfl,by simp,?_,by simp⟩
  simp[An a2,Bu])
 rw[L6,vO,hS.len]
 exact this
def LI(h:i∈B8 st):i<st.AA.length/\0<(AL st.AA i).n:=by
 unfold B8 at h
 rw[yK]at h
 exact⟨AAG.mp h.1,by simpa using h.2⟩
noncomputable def Er(st:Stt)(j:Nat):Wp Nat:=(B8 st).filter λi=> !(i==j) && ((AL st.AA i).k==(AL st.AA j).k)
def OA:(B8 st).length<=st.AA.length:=by
 unfold B8
 exact ub (yR _ _) (by simp)
def YB{a b:Nat}:((a:Int)==(b:Int))=(a==b):=by
 by_cases h:a=b
 .subst h;simp
 .have:((a:Int)==(b:Int))=false:=by simp;lia
  rw[this];simp[h]
def ay(hS:SAt S s l m as st)(hl:st.AA.length<=50)(hj:j∈B8 st):BZ [] (tNm 2) (D7 (eOp (o2 wNe) [eV 2,eV 1]) (eOp (o2 wEq) [eOp (o2 wIx) [eOp (o2 wIx) [eV 0,eV 2],eC (.int 0)],eOp (o2 wIx) [eOp (o2 wIx) [eV 0,eV 1],eC (.int 0)]])) (eV 2) (GN (B8 st)) [] [Gc (.ref l),Gc (.int j),none] S=Gc (GN (Er st j),S):=by
 have fl:=OA (st:=st)
 exact Ea (gs:=[]) (t:=tNm 2) (f:=eV 2) (C:=[Gc (.ref l),Gc (.int j)]) (m:=1) (e:=λi:Nat=>D.int i) (g:=λi:Nat=>D.int i) (b:=λi=> !(i==j) && ((AL st.AA i).k==(AL st.AA j).k)) (S:=S) AW (xs:=B8 st) (acc:=[]) (os:=[none]) rfl (ub (show _<=50 by simp;lia) (AJ (by decide))) (by
  intro i hi os ho
  obtain⟨o1,rfl⟩:=NC ho
  obtain⟨a,a1,a2,a3⟩:=hS.at (LI hi).1
  obtain⟨b,b1,b2,b3⟩:=hS.at (LI hj).1
  refine⟨[Gc (.int i)],rfl,by simp,?_,by simp⟩
  by_cases e:i=j
  .subst e
   simp
  .have e':((i:Int)==(j:Int))=false:=by simp;lia
   have e2:(i==j)=false:=by simp[e]
   simp[e',e2,An hS.lo,a3,b3,An a2,An b2,Bu,YB])
def XO(h:i∈Er st j):i∈B8 st/\i≠j/\(AL st.AA i).k=(AL st.AA j).k:=by
 unfold Er at h
 rw[yK]at h
 simp at h
 exact⟨h.1,h.2.1,h.2.2⟩
noncomputable def FO(st:Stt):Wp Nat:=(u7 10).filter λi=> !(st.nums.any λu=>u==(i:Int))
def Om{us:Wp Int}:inD (.int i) (us.map D.int)=us.any λu=>u==i:=by
 unfold inD
 rw[List.any_map]
 rfl
@[simp] def mq:wIn b w (.own r)=if(IA (fz w) && r.all IA)=true then some (.val (.bl (if b then !inD (fz w) r else inD (fz w) r)))else none:=nr rfl
@[simp] def qB:wIn b w (.val (.lst r))=if(IA (fz w) && r.all IA)=true then some (.val (.bl (if b then !inD (fz w) r else inD (fz w) r)))else none:=nr rfl
def Md{us:Wp Int}:(us.map D.int).all IA=true:=by
 rw[List.all_map,List.all_eq_true]
 intro x _;rfl
@[simp] def qU:IA (.int i)=true:=nr rfl
def Zv(hS:SAt S s l m as st):BZ [] (tNm 1) (eOp (o2 (wIn true)) [eV 1,eV 0]) (eV 1) (Nd 0 10) [] [Gc (.ref m),none] S=Gc (GN (FO st),S):=by
 exact Ea (gs:=[]) (t:=tNm 1) (f:=eV 1) (C:=[Gc (.ref m)]) (m:=1) (e:=λi:Nat=>D.int (0+(i:Int))) (g:=λi:Nat=>D.int i) (b:=λi=> !(st.nums.any λu=>u==(i:Int))) (S:=S) AW (xs:=u7 10) (acc:=[]) (os:=[none]) rfl (ub (show _<=50 by simp) (AJ (by decide))) (by
  intro i hi os ho
  obtain⟨o1,rfl⟩:=NC ho
  refine⟨[Gc (.int i)],rfl,by simp,?_,by simp⟩
  have nu:=An hS.nu
  have fi:=Md (us:=st.nums)
  have ii:=Om (us:=st.nums) (i:=(i:Int))
  generalize st.nums.map D.int=ud at*
  generalize (st.nums.any λu=>u==(i:Int))=bb at*
  simp[nu,fi,ii])
def X4(h:i∈FO st):(i:Int)∉st.nums/\i<=9:=by
 unfold FO at h
 rw[yK]at h
 have h1:=AAG.mp h.1
 refine⟨?_,by lia⟩
 intro z
 have h2:=h.2
 have:(st.nums.any λu=>u==(i:Int))=true:=List.any_eq_true.mpr ⟨_,z,by simp⟩
 rw[this]at h2
 cases h2
def Xd:(FO st).length<=10:=by
 unfold FO
 exact ub (yR _ _) (by simp)
def Wz:(Er st j).length<=st.AA.length:=by
 unfold Er
 exact ub (yR _ _) OA
section
variable{S:Sto}{p s l m:Nat}{as:Wp Nat}{st:Stt}{t:Tr}{k:Nat}
def WV:=AN (xIf (D7 (eOp (o2 wEq) [eV 7,eC (.int 7)]) (eOp (o2 wNe) [eV 12,Ja []])) (AZ (BC [eC (.str "trade"),eOp (o2 wIx) [eV 12,AF AG [eV 0,eOp (o1 Eu) [eV 12]]],eV 8,eV 9,eV 11,AF A8 [eV 0]])) BO) (AZ (BC [eC (.str "swap"),eV 8,eV 9,eV 11,AF A8 [eV 0]]))
def VB:=AN (xIf (eOp (o2 wEq) [eV 7,eC (.int 8)]) (AZ (BC [eC (.str "spoil"),eV 8,eV 9])) BO) (AN (xIf (D7 (eOp (o2 wEq) [eV 7,eC (.int 9)]) (eOp (o2 wGt) [eOp (o2 wIx) [eV 1,eC (.int 0)],eC (.int 1)])) (AN (Az 13 (AF AG [eV 0,eOp (o2 wIx) [eV 1,eC (.int 0)]])) (AZ (BC [eC (.str "sell"),eV 13,eOp (o2 Ox) [eOp (o2 CM) [eOp (o2 CM) [eV 13,eC (.int 1)],AF AG [eV 0,eOp (o2 QL) [eOp (o2 wIx) [eV 1,eC (.int 0)],eC (.int 1)]]],eOp (o2 wIx) [eV 1,eC (.int 0)]],AF FK [eV 0]]))) BO) (AZ (BC [eC (.str "throw"),eV 8,eV 9,AF DZ [eV 0,eOp (o2 CM) [eOp (o2 wIx) [eV 1,eC (.int 1)],eC (.int 1)]]])))
def PU:Ex:=(AN (xIf (D7 (eOp (o2 wLt) [eV 7,eC (.int 8)]) (eOp (o2 wGt) [eOp (o2 wIx) [eV 1,eC (.int 1)],eC (.int 1)])) (AN (Az 11 (eOp (o2 Ox) [eOp (o2 CM) [eOp (o2 CM) [eOp (o2 wIx) [eOp (o2 wIx) [eV 3,eV 8],eC (.int 0)],eC (.int 1)],AF AG [eV 0,eOp (o2 QL) [eOp (o2 wIx) [eV 1,eC (.int 1)],eC (.int 1)]]],eOp (o2 wIx) [eV 1,eC (.int 1)]])) (AN (Az 12 (Be [5] 1 (Ow [eC (.int 10)]) (tNm 1) (eOp (o2 (wIn true)) [eV 1,eV 0]) (eV 1)))
    WV)) BO) VB)
def WA:=xIf (eOp (o2 wLt) [eV 7,eC (.int 5)]) (AN (Az 10 (Be [3,8] 1 (F1 (eV 6)) (tNm 2) (D7 (eOp (o2 wNe) [eV 2,eV 1]) (eOp (o2 wEq) [eOp (o2 wIx) [eOp (o2 wIx) [eV 0,eV 2],eC (.int 0)],eOp (o2 wIx) [eOp (o2 wIx) [eV 0,eV 1],eC (.int 0)]])) (eV 2))) (xIf (eOp (o2 wNe) [eV 10,Ja []]) (AZ (BC [eC (.str "pool"),eV 8,eOp (o2 wIx) [eV 10,AF AG [eV 0,eOp (o1 Eu) [eV 10]]]])) BO)) BO
def Sm:AR->Prop
 | .Bx _ _ g _ n=>g<=2000/\n<2^130
 |_=>AAF
def Yp:=AN (xIf (eOr (eOp (o2 wLt) [eV 7,eC (.int 2)]) (eOp (o2 wEq) [eV 6,Ja []])) (AZ (BC [eC (.str "bring"),AF AG [eV 0,eOp (o2 wIx) [eV 1,eC (.int 0)]],AF AG [eV 0,eOp (o2 wIx) [eV 1,eC (.int 1)]],AF A8 [eV 0]])) BO) (AN (Az 8 (eOp (o2 wIx) [eV 6,AF AG [eV 0,eOp (o1 Eu) [eV 6]]])) (AN (Az 9 (eOp (o2 CM) [eC (.int 1),AF AG [eV 0,eOp (o2 lI) [eOp (o2 wIx) [eOp (o2 wIx) [eV 3,eV 8],eC (.int 1)],eC (.int 2000)]]])) (AN WA PU)))
theorem Yn:Ni=(AN (IP (tTp [tNm 3,tNm 4,tNm 5]) (eV 2)) (AN (Az 6 (Be [] 2 (eA (eV 3)) (tTp [tNm 0,tNm 1]) (eOp (o2 wGt) [eOp (o2 wIx) [eV 1,eC (.int 1)],eC (.int 0)]) (eV 0))) (AN (Az 7 (AF AG [eV 0,eC (.int 12)])) Yp))):=rfl
def XF(hp:D0 p S)(hS:SAt S s l m as st)(hps:p∉s::l::m::as)(ht:IB t)(h:E9 t k st)(hk:k<=20):∃d S',DX [.ref p,t.d,.ref s] S=Gc (AR.d d,S')/\Pn p S S'/\Can t st d/\Sm d:=by
 obtain⟨t1,t2,t3,t4,t5,t6⟩:=ht
 have hlen:=h.len
 have st':∀{S':Sto},Pn p S S'->SAt S' s l m as st:=λg=>hS.same g.same (by simpa using hps)
 have r0:=AQ hS.root
 have cf:=cX hS (by lia)
 have fl:=OA (st:=st)
 have sq:=JE hS.lo
 obtain⟨way,S1,e1,a1,b1,p1⟩:=Am hp (n:=12) (by decide) (by decide)
 have okF:=Ls (is:=B8 st)
 have dqF:=Ny (is:=B8 st)
 have pr0:DX [.ref p,t.d,.ref s] S=(Yp [Gc (.ref p),Gc t.d,Gc (.ref s),Gc (.ref l),Gc (shD st.hold),Gc (.ref m),Gc (.lst (GN (B8 st))),Gc (.int way),none,none,none,none,none,none] S1).map λr=>(flD r.1,r.2.2):=by
  simp[DX,Yn,r0,sq,cf,e1]
 by_cases hb:way<2\/(B8 st).isEmpty=true
 .obtain⟨x2,S2,e2,a2,b2,p2⟩:=Am p1.pen (n:=t.p) (by lia) (by lia)
  obtain⟨x3,S3,e3,a3,b3,p3⟩:=Am p2.pen (n:=t.k) (by lia) (by lia)
  obtain⟨x4,S4,e4,p4,a4,b4⟩:=Mh p3.pen
  obtain⟨x2,rfl⟩:=Hi a2
  obtain⟨x3,rfl⟩:=Hi a3
  refine⟨.CT x2 x3 x4,S4,?_,((p1.trans p2).trans p3).trans p4,⟨by lia,by lia,a4,b4⟩,trivial⟩
  rw[pr0]
  have ho:∀(x y:Ex),xIf (eOr (eOp (o2 wLt) [eV 7,eC (.int 2)]) (eOp (o2 wEq) [eV 6,Ja []])) x y [Gc (.ref p),Gc t.d,Gc (.ref s),Gc (.ref l),Gc (shD st.hold),Gc (.ref m),Gc (.lst (GN (B8 st))),Gc (.int way),none,none,none,none,none,none] S1=x [Gc (.ref p),Gc t.d,Gc (.ref s),Gc (.ref l),Gc (shD st.hold),Gc (.ref m),Gc (.lst (GN (B8 st))),Gc (.int way),none,none,none,none,none,none] S1:=by
   intro x y
   by_cases hw:way<2
   .simp[hw]
   .simp[hw,okF,dqF,hb.resolve_left hw]
  simp[Yp,-T8,ho]
  simp[Tr.d,e2,e3,e4,AR.d]
 .have hw2:¬way<2:=λz=>hb (.inl z)
  have hf:(B8 st).isEmpty=false:=by
   cases z:(B8 st).isEmpty with
   |true=>exact absurd (.inr z) hb
   |false=>rfl
  have hfl:0<(B8 st).length:=by
   cases z:B8 st with
   |nil=>rw[z]at hf;cases hf
   |cons a b=>simp
  obtain⟨rl,S2,e2,a2,b2,p2⟩:=Am p1.pen (n:=(B8 st).length) (by lia) (by lia)
  obtain⟨i,mi,ei⟩:=Lp a2 b2
  have fi:=LI mi
  have hS1:=st' p1
  have hS2:=st' (p1.trans p2)
  obtain⟨a,x1,x2,x3⟩:=hS2.at fi.1
  have n1:=fi.2
  obtain⟨rs,S3,e3,a3,b3,p3⟩:=Am p2.pen (n:=if 2000<(AL st.AA i).n then 2000 else(AL st.AA i).n) (by split<;>lia) (by split<;>lia)
  have hsome:1<=1+rs/\1+rs<=(AL st.AA i).n:=by split at b3<;>lia
  have p23:=(p1.trans p2).trans p3
  have hS3:=st' p23
  have lo2:=An hS2.lo
  have lo3:=An hS3.lo
  have x2':=An x2
  have x4:S3[a]?=Gc (Bu (AL st.AA i)):=hS3.ld i a _ x1 (EO fi.1)
  have x4':=An x4
  have kd:=h.kind _ (Ap fi.1)
  have nl:=Jg (is:=B8 st)
  have cs:=ay hS3 (by lia) mi
  have okS:=Ls (is:=Er st i)
  have dqS:=Ny (is:=Er st i)
  have sl:=Wz (st:=st) (j:=i)
  have nls:=Jg (is:=Er st i)
  have pre:DX [.ref p,t.d,.ref s] S=((WA [Gc (.ref p),Gc t.d,Gc (.ref s),Gc (.ref l),Gc (shD st.hold),Gc (.ref m),Gc (.lst (GN (B8 st))),Gc (.int way),Gc (.int i),Gc (.int (1+rs)),none,none,none,none] S3).bind (aW PU)).map λr=>(flD r.1,r.2.2):=by
   rw[pr0]
   simp[Yp,hw2,okF,dqF,hf,nl,e2,ei,lo2,x3,x2',e3]
  have tail:∀o10,(way<5->(Er st i).isEmpty=true)->∃d S',(PU [Gc (.ref p),Gc t.d,Gc (.ref s),Gc (.ref l),Gc (shD st.hold),Gc (.ref m),Gc (.lst (GN (B8 st))),Gc (.int way),Gc (.int i),Gc (.int (1+rs)),o10,none,none,none] S3).map (λr=>(flD r.1,r.2.2))=Gc (AR.d d,S')/\Pn p S S'/\Can t st d/\Sm d:=by
   intro o10 _
   generalize hE:([Gc (.ref p),Gc t.d,Gc (.ref s),Gc (.ref l),Gc (shD st.hold),Gc (.ref m),Gc (.lst (GN (B8 st))),Gc (.int way),Gc (.int i),Gc (.int (1+rs)),o10,none,none,none]:En)=E
   clear pre cs okS dqS
   by_cases hsw:way<8/\1<t.k
   .obtain⟨hw8,hk1⟩:=hsw
    have hk1':(1:Int)<t.k:=by lia
    obtain⟨rk,S4,e4,a4,b4,p4⟩:=Am p3.pen (n:=(t.k:Int)-1) (by lia) (by lia)
    have hS4:=st' (p23.trans p4)
    have hmod:=Wi (x:=((AL st.AA i).k:Int)+1+rk) (K:=t.k) (by lia) (by lia)
    obtain⟨kd2,ekd⟩:∃q:Nat,((AL st.AA i).k+1+rk) % (t.k:Int)=(q:Int):=⟨_,(vh (xh _ (by lia))).symm⟩
    have hkd:kd2<t.k/\kd2≠(AL st.AA i).k:=by
     rw[ekd]at hmod
     split at hmod<;>lia
    have kp:0<t.k:=by lia
    have cl:=Zv hS4
    have okL:=Ls (is:=FO st)
    have dqL:=Ny (is:=FO st)
    have ll:=Xd (st:=st)
    have nll:=Jg (is:=FO st)
    have rt:Jc 10=true:=ET (by decide) (by decide)
    have mid:PU E S3=(WV [Gc (.ref p),Gc t.d,Gc (.ref s),Gc (.ref l),Gc (shD st.hold),Gc (.ref m),Gc (.lst (GN (B8 st))),Gc (.int way),Gc (.int i),Gc (.int (1+rs)),o10,Gc (.int kd2),Gc (.lst (GN (FO st))),none] S4).bind (aW VB):=by
     subst hE
     simp[PU,Tr.d,x3,hw8,hk1',lo3,x4',e4,kp,ekd,rt,cl]
    rw[mid]
    clear mid hE
    by_cases htr:way=7/\(FO st).isEmpty=false
    .obtain⟨hw7,hle⟩:=htr
     have hll:0<(FO st).length:=by
      cases z:FO st with
      |nil=>rw[z]at hle;cases hle
      |cons a b=>simp
     obtain⟨ru,S5,e5,a5,b5,p5⟩:=Am p4.pen (n:=(FO st).length) (by lia) (by lia)
     obtain⟨u,mu,eu⟩:=Lp a5 b5
     obtain⟨x6,S6,e6,p6,a6,b6⟩:=Nm p5.pen
     have fu:=X4 mu
     refine⟨.Bx u i (1+rs) kd2 x6,S6,?_,((p23.trans p4).trans p5).trans p6,⟨fi.1,hsome.1,hsome.2,hkd.1,hkd.2,a6,Int.lt_trans b6 (by decide),fu.1,by lia,by lia⟩,by split at b3<;>lia,b6⟩
     subst hw7
     simp[WV,okL,dqL,hle,nll,e5,eu,e6,AR.d]
    .obtain⟨x6,S6,e6,p6,a6,b6⟩:=Mh p4.pen
     refine⟨.swap i (1+rs) kd2 x6,S6,?_,(p23.trans p4).trans p6,⟨fi.1,hsome.1,hsome.2,hkd.1,hkd.2,a6,b6⟩,trivial⟩
     by_cases h7:way=7
     .subst h7
      have hle:(FO st).isEmpty=true:=by
       cases z:(FO st).isEmpty with
       |true=>rfl
       |false=>exact absurd ⟨rfl,z⟩ htr
      simp[WV,okL,dqL,hle,e6,AR.d]
     .have h7':(way==7)=false:=by simpa using h7
      simp[WV,h7',e6,AR.d]
   .have sw:PU E S3=VB E S3:=by
     subst hE
     by_cases w8:way<8
     .have hk1:¬(1:Int)<t.k:=by lia
      simp[PU,Tr.d,w8,hk1]
     .simp[PU,w8]
    rw[sw]
    clear sw
    by_cases h8:way=8
    .subst h8
     refine⟨.CW i (1+rs),S3,?_,p23,⟨fi.1,hsome.1,hsome.2⟩,trivial⟩
     subst hE
     rfl
    .have h8':(way==8)=false:=by simpa using h8
     by_cases h9:way=9/\1<t.p
     .obtain⟨h9,hP⟩:=h9
      subst h9
      have hP':(1:Int)<t.p:=by lia
      obtain⟨rp,S4,e4,a4,b4,p4⟩:=Am p3.pen (n:=t.p) (by lia) (by lia)
      obtain⟨rq,S5,e5,a5,b5,p5⟩:=Am p4.pen (n:=(t.p:Int)-1) (by lia) (by lia)
      obtain⟨sh,S6,e6,p6,a6,b6,c6⟩:=XI p5.pen
      have hmod:=Wi (x:=rp+1+rq) (K:=t.p) (by lia) (by lia)
      obtain⟨q,eq⟩:∃q:Nat,(rp+1+rq) % (t.p:Int)=(q:Int):=⟨_,(vh (xh _ (by lia))).symm⟩
      obtain⟨rp,rfl⟩:=Hi a4
      have hq:q<t.p/\q≠rp:=by
       rw[eq]at hmod
       split at hmod<;>lia
      have pp:0<t.p:=by lia
      refine⟨.Fe rp q sh,S6,?_,((p23.trans p4).trans p5).trans p6,⟨λz=>hq.2 z.symm,by lia,hq.1,a6,b6,c6⟩,trivial⟩
      subst hE
      simp[VB,Tr.d,hP',e4,e5,pp,eq,e6,AR.d]
     .have s9:∀(x y:Ex) (T:Sto),xIf (D7 (eOp (o2 wEq) [eV 7,eC (.int 9)]) (eOp (o2 wGt) [eOp (o2 wIx) [eV 1,eC (.int 0)],eC (.int 1)])) x y E T=y E T:=by
       intro x y T
       subst hE
       by_cases z:way=9
       .have hP:¬(1:Int)<t.p:=by have:¬1<t.p:=λw=>h9 ⟨z,w⟩;lia
        subst z
        simp[Tr.d,hP]
       .have z':(way==9)=false:=by simpa using z
        simp[z']
      obtain⟨ws,S4,e4,p4,a4,b4⟩:=Ud p3.pen (n:=t.k+1) (by lia)
      have e4':DZ [.ref p,.int ((t.k:Int)+1)] S3=Gc (.tup (ws.map .int),S4):=e4
      refine⟨.thr i (1+rs) ws,S4,?_,p23.trans p4,⟨fi.1,hsome.1,hsome.2,a4,b4⟩,trivial⟩
      have s8:∀(x y:Ex) (T:Sto),xIf (eOp (o2 wEq) [eV 7,eC (.int 8)]) x y E T=y E T:=by
       intro x y T
       subst hE
       simp[h8']
      simp[VB,-T8,s8,s9]
      subst hE
      simp[Tr.d,e4',AR.d]
  by_cases hpool:way<5/\(Er st i).isEmpty=false
  .obtain⟨hw5,hse⟩:=hpool
   have hsl:0<(Er st i).length:=by
    cases z:Er st i with
    |nil=>rw[z]at hse;cases hse
    |cons a b=>simp
   obtain⟨rj,S4,e4,a4,b4,p4⟩:=Am p3.pen (n:=(Er st i).length) (by lia) (by lia)
   obtain⟨j,mj,ej⟩:=Lp a4 b4
   have fj:=XO mj
   have fj':=LI fj.1
   refine⟨.GP i j,S4,?_,p23.trans p4,⟨λz=>fj.2.1 z.symm,fi.1,fj'.1,n1,fj'.2,fj.2.2.symm⟩,trivial⟩
   rw[pre]
   simp[WA,hw5,cs,okS,dqS,hse,nls,e4,ej,AR.d]
  .by_cases w5:way<5
   .have hse:(Er st i).isEmpty=true:=by
     cases z:(Er st i).isEmpty with
     |true=>rfl
     |false=>exact absurd ⟨w5,z⟩ hpool
    obtain⟨d,S',e,pn,hc⟩:=tail (Gc (.lst (GN (Er st i)))) (λ_=>hse)
    refine⟨d,S',?_,pn,hc⟩
    rw[pre,<-e]
    simp[WA,w5,cs,okS,dqS,hse]
   .obtain⟨d,S',e,pn,hc⟩:=tail none (λz=>absurd z w5)
    refine⟨d,S',?_,pn,hc⟩
    rw[pre,<-e]
    simp[WA,w5]
def cj(hp:D0 p S)(hS:SAt S s l m as st)(hps:p∉s::l::m::as)(ht:IB t)(h:E9 t k st)(hk:k<=20):∃d S',DX [.ref p,t.d,.ref s] S=Gc (AR.d d,S')/\Pn p S S'/\Can t st d:=by
 obtain⟨d,S',a,b,c,_⟩:=XF hp hS hps ht h hk
 exact⟨d,S',a,b,c⟩
end
noncomputable def runs(t:Tr)(st:Stt)(ds:Wp AR):Stt:=ds.foldl (step t) st
def MD(t:Tr):Stt->Wp AR->Prop
 |_,[]=>AAF
 |st,d::ds=>Can t st d/\MD t (step t st d) ds
theorem KW:∀{ds} {st:Stt},MD t st ds->Can t (runs t st ds) d->MD t st (ds++[d])
 | [],st,_,h=>⟨h,trivial⟩
 |x::ds,st,h,g=>⟨h.1,KW h.2 g⟩
def LV(h:MD t st ds)(g:ds[i]?=Gc d):Can t (runs t st (ds.take i)) d:=by
 induction ds generalizing st i with
 |nil=>simp at g
 |cons x ds ih=>
  cases i with
  |zero=>simp at g;subst g;exact h.1
  |succ i=>simp at g;exact ih h.2 g
def U7:runs t st (ds++[d])=step t (runs t st ds) d:=by simp[runs]
def Jn{ds:Wp AR}(h:ds[i]?=Gc d):runs t st (ds.take (i+1))=step t (runs t st (ds.take i)) d:=by
 rw[ABW,h]
 exact U7
theorem Of(ht:IB t):∀{ds} {st:Stt} {k},E9 t k st->MD t st ds->k+ds.length<=21->E9 t (k+ds.length) (runs t st ds)
 | [],st,k,h,_,_=>h
 |d::ds,st,k,h,g,hl=>by
  have:=Of ht (ds:=ds) (Rl ht h (by simp at hl;lia) g.1) g.2 (by simp at hl;lia)
  rw[show k+(d::ds).length=k+1+ds.length by simp;lia]
  exact this
theorem Ki:∀{ds} {st:Stt} {i},MD t st ds->MD t st (ds.take i)
 | [],st,i,h=>by simp;exact trivial
 |d::ds,st,0,h=>trivial
 |d::ds,st,i+1,h=>⟨h.1,Ki h.2⟩
noncomputable def st0(t:Tr)(ls:Wp Ld):Stt:=⟨ls,t.ho,[]⟩
structure CL(t:Tr)(ls:Wp Ld)(ds:Wp AR):Prop where
 tr:IB t
 inv:E9 t 0 (st0 t ls)
 good:MD t (st0 t ls) ds
 len:ds.length<=20
def CL.at(h:CL t ls ds) i:E9 t (ds.take i).length (runs t (st0 t ls) (ds.take i)):=by
 have:=Of h.tr (ds:=ds.take i) h.inv (Ki h.good) (by have:=h.len;simp;lia)
 rwa [Nat.zero_add]at this
noncomputable def AK(t:Tr)(ls:Wp Ld)(ds:Wp AR):D:=.tup [t.d,.tup (ls.map Ld.d),.tup (ds.map AR.d)]
def Wg(h:F9 t ls)(hl:ls.length<=4)(h1:t.ho.length=t.p)(g0:0<g)(g1:g<=32)(g2:∀r∈t.ho,Ok g g r):E9 t 0 (st0 t ls):=by
 obtain⟨ha,G,G0,G1,G2⟩:=h
 have hG:G<=32^4:=ub G1 (vN (by decide) hl)
 have hB:G*g<2^30:=by
  have:=AAV hG g1
  lia
 refine E9.of (G:=G*g) (B:=G*g) (by simpa[st0]using hl) ?_ h1 (ue _) (AAg G0 g0) (ue _) hB ?_
 .intro x hx
  have:=ha x hx
  exact⟨this.1,by lia,kf this.2.2.1,this.2.2.2.1,λr hr=>(G2 x hx r hr).up (ue _)⟩
 .intro r hr
  have:=(g2 r hr).up (t:=G) (B':=G*g) (by rw[yG];exact ue _)
  rwa [yG g G]at this
noncomputable def Pl:AR->va
 | .thr .. =>true
 |_=>false
def X8 d(E:En)(h:E=[Gc d.d]):eOp (o2 wEq) [eOp (o2 wIx) [eV 0,eC (.int 0)],eC (.str "throw")] E S=Gc (.bl (Pl d),S):=by
 subst h
 cases d<;>simp[AR.d,Pl]
noncomputable def stD(st:Stt):D:=.tup [.lst (st.AA.map Ld.d),shD st.hold]
def de(hS:SAt S s l m as st)(hl:st.AA.length<=50):BZ [(l,as.map D.ref)] (tNm 0) BI (eOp (o1 B7) [eV 0]) (as.map D.ref) [] [none] S=Gc (st.AA.map Ld.d,S):=by
 have e:=EN (gs:=[(l,as.map D.ref)]) (t:=tNm 0) (f:=eOp (o1 B7) [eV 0]) (C:=[]) (m:=1) (e:=λz:Nat×Ld=>D.ref z.1) (g:=λz=>Ld.d z.2) hS.guard (xs:=as.zip st.AA) (acc:=[]) (os:=[none]) rfl (ub (show _<=50 by simp;lia) (AJ (by decide))) (by
  intro z hz os ho
  obtain⟨q1,rfl⟩:=NC ho
  refine⟨[Gc (.ref z.1)],rfl,by simp,?_⟩
  simp[An (hS.qX hz),Ld.d])
 rw[<-RG hS.len,<-Ui hS.len Ld.d]at e
 exact e
theorem Qv:D.tup (rs.map aD)=shD rs:=rfl
def UG:=BC [Be [] 1 (F1 (eOp (o2 wIx) [eV 1,eC (.int 0)])) (tNm 0) BI (eOp (o1 B7) [eV 0]),eOp (o1 B7) [eOp (o2 wIx) [eV 1,eC (.int 1)]]]
def Rh(hS:SAt S s l m as st)(hl:st.AA.length<=50)(hE:at? E 1=Gc (.ref s)):UG E S=Gc (stD st,S):=by
 have r:=An hS.root
 have sq:=JE hS.lo
 have e:=de hS hl
 simp[UG,hE,r,sq,e,Qv,stD]
def TQ(h:CL t ls ds):∃q S',Eh [AK t ls ds] S=Gc (.ref q,S')/\S'[q]?=Gc (.lst ((u7 (ds.length+1)).map λj=>stD (runs t (st0 t ls) (ds.take j))))/\Bq [] S S':=by
 have hl0:=h.inv.len
 have hl1:ls.length<=4:=hl0
 obtain⟨s,l,m,as,S1,e1,hS,sm,hn⟩:=OB (S:=S) (t:=t) (ls:=ls) (x:=.tup (ds.map AR.d)) (by lia)
 have hS:SAt S1 s l m as (st0 t ls):=hS
 have lt:=hS.lts
 have hS1:SAt (S1++[Cl.lst [stD (st0 t ls)]]) s l m as (st0 t ls):=hS.Ue .app
 have hq:(S1++[Cl.lst [stD (st0 t ls)]])[S1.length]?=Gc (.lst [stD (st0 t ls)]):=uz
 have qn:S1.length∉s::l::m::as:=λz=>by have:=lt _ z;lia
 have sn0:=λ{E:En} (hE:at? E 1=Gc (.ref s))=>Rh (E:=E) hS (show ls.length<=50 by lia) hE
 have lSq:=sm.len
 generalize hQ:S1.length=q at*
 obtain⟨E',S',ef,i,as',o,f1,f2,rfl,f3,f4,f5,f6,f7⟩:=Gm (gs:=[]) (t:=tNm 3) (b:=AN (Bm (AF Bf [eOp (o2 wIx) [eV 0,eC (.int 0)],eV 1,eV 3]))
  (Bm (NH NV (eV 2) [UG])))
  (I:=λrs E S'=>∃(i:Nat) (as':Wp Nat) (o:uS D),rs=(ds.drop i).map AR.d/\i<=ds.length/\E=[Gc (AK t ls ds),Gc (.ref s),Gc (.ref q),o]/\S'[q]?=Gc (.lst ((u7 (i+1)).map λj=>stD (runs t (st0 t ls) (ds.take j))))/\SAt S' s l m as' (runs t (st0 t ls) (ds.take i))/\q∉s::l::m::as'/\(∀n∈s::l::m::as',S.length<=n)/\Bq [] S S')
  (λ_ _ _ _=>AW) (ds:=ds.map AR.d) (E:=[Gc (AK t ls ds),Gc (.ref s),Gc (.ref q),none]) (S:=S1++[Cl.lst [stD (st0 t ls)]])
  ⟨0,as,none,by simp,wM _,rfl,by rw[hq];rfl,hS1,qn,hn,sm.trans .app⟩ (by
    rintro dd rs E T ⟨i,as',o,i1,i2,rfl,i3,i4,i5,i6,i7⟩
    have hlt:i<ds.length:=by
     rcases xp i ds.length with w|w
     .exact w
     .rw[v5 w]at i1;cases i1
    rw[vQ hlt,ux]at i1
    injection i1 with z1 z2
    subst z1 z2
    have inv:=h.at i
    have il:(ds.take i).length<=20:=by have:=h.len;simp;lia
    have can:=LV h.good (uT hlt)
    obtain⟨T2,as2,k1,k2,k3,k4⟩:=gU i4 h.tr inv il can
    have q2:=k3.get i3 i5
    rw[<-Jn (uT hlt)]at k2
    have inv2:=(h.at (i+1)).len
    have il2:(ds.take (i+1)).length<=20:=by have:=h.len;simp;lia
    have sn:=Rh (E:=[Gc (AK t ls ds),Gc (.ref s),Gc (.ref q),Gc ds[i].d]) k2 (by lia) rfl
    have kk:=AQ q2
    have q5:q∉s::l::m::as2:=by
     intro z
     simp only[uZ]at z i5
     rcases z with z|z|z|z
     .exact i5 (.inl z)
     .exact i5 (.inr (.inl z))
     .exact i5 (.inr (.inr (.inl z)))
     .rcases k4 _ z with w|w
      .exact i5 (.inr (.inr (.inr w)))
      .have:=Ai i3;lia
    have q6:∀n∈s::l::m::as2,S.length<=n:=by
     intro n hz
     simp only[uZ]at hz i6
     rcases hz with z|z|z|z
     .exact i6 n (.inl z)
     .exact i6 n (.inr (.inl z))
     .exact i6 n (.inr (.inr (.inl z)))
     .rcases k4 _ z with w|w
      .exact i6 n (.inr (.inr (.inr w)))
      .exact ub i7.len w
    have q7:Bq [] S T2:=Bq.new (A:=[]) i7 k3 i6
    refine⟨_,[Gc (AK t ls ds),Gc (.ref s),Gc (.ref q),Gc ds[i].d],T2.set q (.lst ((u7 (i+1+1)).map λj=>stD (runs t (st0 t ls) (ds.take j)))),by simp;rfl,?_,i+1,as2,Gc ds[i].d,rfl,hlt,rfl,ui (Ai q2),k2.same (A:=[q]) (.set (by simp)) (by simpa using q5),q5,q6,Bq.new (A:=[]) (B:=[q]) q7 (.set (by simp)) (by intro n hn';simp at hn';lia)⟩
    have hz:((u7 (i+1)).map λj=>stD (runs t (st0 t ls) (ds.take j))).length<sizeLine:=uV (show _<50 by have:=h.len;simp;lia) (AJ (by decide))
    have hfin:((u7 (i+1+1)).map λj=>stD (runs t (st0 t ls) (ds.take j)))=((u7 (i+1)).map λj=>stD (runs t (st0 t ls) (ds.take j)))++[stD (runs t (st0 t ls) (ds.take (i+1)))]:=by
     rw[List.range_succ,wW];rfl
    rw[hfin]
    generalize ((u7 (i+1)).map λj=>stD (runs t (st0 t ls) (ds.take j)))=DD at*
    generalize stD (runs t (st0 t ls) (ds.take (i+1)))=d2 at*
    simp only[AK]at sn⊢
    simp[k1,kk,sn,hz])
 have hz:i=ds.length:=by
  have:=congrArg yZ f1
  simp at this
  lia
 subst hz
 refine⟨q,S',?_,f3,f7⟩
 have eb:K1=(AN (Az 1 (AF CF [eV 0]))
  (AN (Az 2 (JZ [UG]))
  (AN (M8 (F1 (eOp (o2 wIx) [eV 0,eC (.int 2)])) (tNm 3) (AN (Bm (AF Bf [eOp (o2 wIx) [eV 0,eC (.int 0)],eV 1,eV 3]))
  (Bm (NH NV (eV 2) [UG]))))
  (AZ (eV 2))))):=rfl
 have s1:=sn0 (E:=[Gc (AK t ls ds),Gc (.ref s),none,none]) rfl
 unfold Eh
 rw[eb]
 simp only[AK]at s1 ef⊢
 simp[e1,s1,hQ,ef]
def Qz(h:n<=m):HT.sIx m d (Gc (n:Int))=n:=by
 unfold HT.sIx
 have:¬((n:Int)<0):=by lia
 simp[this]
 lia
def Jx{ds:Wp α}(h:n<=ds.length):IJ ds none (Gc (n:Int))=ds.take n:=by
 unfold IJ
 rw[Qz h]
 simp[HT.sIx]
def X7{ds:Wp α}(h:n<=ds.length):IJ ds (Gc (n:Int)) none=ds.drop n:=by
 unfold IJ
 rw[Qz h]
 simp[HT.sIx]
 exact zJ (by simp)
noncomputable def hD(x:Ld):D:=.tup [.int x.k,.int x.n]
noncomputable def Au(ls:Wp Ld):D:=.lst (ls.map hD)
noncomputable def KC(ls:Wp Ld):D:=.lst (ls.map λx=>shD x.ow)
section
variable{ls:Wp Ld}{i j:Nat}{n:Int}
@[simp] def og:dr S (Au ls)=.val (Au ls):=nr rfl
@[simp] def qE:dr S (KC ls)=.val (KC ls):=nr rfl
@[simp] def lF:asS (.val (Au ls))=some (ls.map hD):=nr rfl
@[simp] def kY:asS (.val (KC ls))=some (ls.map λx=>shD x.ow):=nr rfl
def Hh(hi:i<ls.length):atI (ls.map hD) (i:Int)=Gc (hD (AL ls i)):=B2 (by rw[uo,EO hi];rfl)
def Lc(hi:i<ls.length):atI (ls.map λx=>shD x.ow) (i:Int)=Gc (shD (AL ls i).ow):=B2 (by rw[uo,EO hi];rfl)
@[simp] def sg:dr S (hD x)=.val (.tup [.int x.k,.int x.n]):=nr rfl
@[simp] def qF:tTp ts (hD x) E S=tMs ts [.int x.k,.int x.n] E S:=nr rfl
def XW:wSl lo hi (.val (Au ls))=Gc (.own (IJ (ls.map hD) lo hi)):=nr rfl
def FA(hi:i<ls.length)(hl:ls.length<=60):BM [Au ls,.int i,.int n] S=Gc (Au (less ls i n),S):=by
 have c1:=Jx (ds:=ls.map hD) (n:=i) (by simp;lia)
 have c2:IJ (ls.map hD) (Gc ((i:Int)+1)) none=(ls.map hD).drop (i+1):=by
  have:=X7 (ds:=ls.map hD) (n:=i+1) (by simp;lia)
  simpa using this
 have ef:Au (less ls i n)=.lst ((ls.map hD).take i++[.tup [.int (AL ls i).k,.int ((AL ls i).n-n)]]++(ls.map hD).drop (i+1)):=by
  rw[Qg,Au,yI,List.set_eq_take_append_cons_drop,vD (by simpa using hi)]
  simp[hD]
 have z1:(List.take i (ls.map hD)).length+1<=sizeLine:=ub (show _<=100 by simp;lia) (AJ (by decide))
 have z2:(List.take i (ls.map hD)++[D.tup [.int (AL ls i).k,.int ((AL ls i).n-n)]]).length+(List.drop (i+1) (ls.map hD)).length<=sizeLine:=ub (show _<=100 by simp;lia) (AJ (by decide))
 rw[ef]
 have ah:=Hh hi
 have ws:=λ{lo hi:uS Int}=>XW (ls:=ls) (lo:=lo) (hi:=hi)
 generalize List.take i (ls.map hD)=A at*
 generalize List.drop (i+1) (ls.map hD)=B at*
 simp only[vq,vH,xg]at z2
 simp[BM,HB,ah,ws,c1,c2,z1,z2]
end
section
variable{S:Sto}{st:Stt}{t:Tr}{k:Nat}
@[simp] def Ed:CM (.val (Au ls)) (.val (.lst r))=if(ls.map hD).length+r.length<=sizeLine then some (.own (ls.map hD++r))else none:=nr rfl
def LQ:D.lst (ls.map hD++[.tup [.int y.k,.int y.n]])=Au (ls++[y]):=by simp[Au,hD]
def MH(h:E9 t k st)(hk:k<=21)(hc:Can t st d):Ad [Au st.AA,d.d] S=Gc (Au (step t st d).AA,S):=by
 have hlen:=h.len
 have hz:(st.AA.map hD).length+1<=sizeLine:=ub (show _<=100 by simp;lia) (AJ (by decide))
 have hz2:∀{i:Nat} {n:Int},((less st.AA i n).map hD).length+1<=sizeLine:=λ{i n}=>ub (show _<=100 by simp[Dr];lia) (AJ (by decide))
 cases d with
 |CT p kd n=>
  have e:=LQ (ls:=st.AA) (y:=⟨kd,n,Ub t.p p⟩)
  show _=Gc (Au (st.AA++[⟨kd,n,Ub t.p p⟩]),S)
  rw[<-e]
  have wA:=Ed (ls:=st.AA) (r:=[.tup [.int kd,.int n]])
  rw[vD (by simpa using hz)]at wA
  simp[Ad,BF,AR.d,-Ed,wA]
 |GP i j=>
  obtain⟨hij,hi,hj,h1,h2,h3⟩:=hc
  have e0:AL (less st.AA i (AL st.AA i).n) j=AL st.AA j:=by
   unfold AL less
   rw[u4,uW hij,<-u4]
  have w1:=FA (S:=S) (n:=(AL st.AA i).n) hi (by lia)
  have w2:=FA (S:=S) (ls:=less st.AA i (AL st.AA i).n) (i:=j) (n:=(AL st.AA j).n) (by rw[Dr];exact hj) (by rw[Dr];lia)
  have z3:((less (less st.AA i (AL st.AA i).n) j (AL st.AA j).n).map hD).length+1<=sizeLine:=ub (show _<=100 by simp[Dr];lia) (AJ (by decide))
  have e:=LQ (ls:=less (less st.AA i (AL st.AA i).n) j (AL st.AA j).n) (y:=⟨(AL st.AA i).k,(AL st.AA i).n+(AL st.AA j).n,B9 (AL st.AA i).n (AL st.AA j).n (AL st.AA i).ow (AL st.AA j).ow⟩)
  show _=Gc (Au (less (less st.AA i (AL st.AA i).n) j (AL st.AA j).n++[_]),S)
  rw[<-e]
  have a1:=Hh hi
  have a2:=Hh hj
  have wA:=Ed (ls:=less (less st.AA i (AL st.AA i).n) j (AL st.AA j).n) (r:=[.tup [.int (AL st.AA i).k,.int ((AL st.AA i).n+(AL st.AA j).n)]])
  rw[vD (by simpa using z3)]at wA
  generalize (less (less st.AA i (AL st.AA i).n) j (AL st.AA j).n).map hD=A at*
  simp[Ad,BF,AR.d,a1,a2,w1,w2,-Ed,wA]
 |swap i g kd n=>
  obtain⟨hi,h1,h2,h3,h4,h5,h6⟩:=hc
  have w1:=FA (S:=S) (n:=g) hi (by lia)
  have e:=LQ (ls:=less st.AA i g) (y:=⟨kd,n,(AL st.AA i).ow⟩)
  show _=Gc (Au (less st.AA i g++[⟨kd,n,(AL st.AA i).ow⟩]),S)
  rw[<-e]
  have wA:=Ed (ls:=less st.AA i g) (r:=[.tup [.int kd,.int n]])
  rw[vD (by simpa using hz2)]at wA
  simp[Ad,BF,AR.d,w1,-Ed,wA]
 |Bx u i g kd n=>
  obtain⟨hi,h1,h2,h3,h4,h5,h6,h7⟩:=hc
  have w1:=FA (S:=S) (n:=g) hi (by lia)
  have e:=LQ (ls:=less st.AA i g) (y:=⟨kd,n,(AL st.AA i).ow⟩)
  show _=Gc (Au (less st.AA i g++[⟨kd,n,(AL st.AA i).ow⟩]),S)
  rw[<-e]
  have wA:=Ed (ls:=less st.AA i g) (r:=[.tup [.int kd,.int n]])
  rw[vD (by simpa using hz2)]at wA
  simp[Ad,BF,AR.d,w1,-Ed,wA]
 |CW i n=>
  obtain⟨hi,h1,h2⟩:=hc
  have w1:=FA (S:=S) (n:=n) hi (by lia)
  show _=Gc (Au (less st.AA i n),S)
  simp[Ad,BF,AR.d,w1]
 |thr i n ws=>
  obtain⟨hi,h1,h2,h3,h4⟩:=hc
  have w1:=FA (S:=S) (n:=n) hi (by lia)
  have e:Au (step t st (.thr i n ws)).AA=Au (less st.AA i n):=by
   show D.lst (((less st.AA i n).map _).map hD)=_
   rw[wD];rfl
  rw[e]
  simp[Ad,BF,AR.d,w1]
 |Fe p q x=>
  have e:Au (step t st (.Fe p q x)).AA=Au st.AA:=by
   show D.lst ((st.AA.map _).map hD)=_
   rw[wD];rfl
  rw[e]
  simp[Ad,BF,AR.d]
noncomputable def G5:AR->uS Int
 | .Bx u .. =>Gc u
 |_=>none
def PH:∀{ds},(runs t (st0 t ls) ds).nums=ds.filterMap G5:=by
 intro ds
 have:∀(ds:Wp AR) (st:Stt),(runs t st ds).nums=st.nums++ds.filterMap G5:=by
  intro ds
  induction ds with
  |nil=>intro st;simp[runs]
  |cons d ds ih=>
   intro st
   show(runs t (step t st d) ds).nums=_
   rw[ih]
   cases d<;>simp[step,G5,vd]
 rw[this];rfl
theorem LA:∀{ds:Wp AR} {acc} {o},acc.length+ds.length<=100->BZ [] (tNm 0) (eOp (o2 wEq) [eOp (o2 wIx) [eV 0,eC (.int 0)],eC (.str "trade")]) (eOp (o2 wIx) [eV 0,eC (.int 1)]) (ds.map AR.d) acc [o] S=Gc (acc++(ds.filterMap G5).map D.int,S)
 | [],acc,o,h=>by rw[wG,DA AW];simp
 |d::ds,acc,o,h=>by
  have hz:acc.length<sizeLine:=uV (show acc.length<101 by simp at h;lia) (AJ (by decide))
  have ht:tNm 0 d.d [o] S=Gc [Gc d.d]:=by simp
  rw[ux]
  cases d with
  |Bx u i g kd n=>
   rw[FH AW hz ht (S1:=S) (by simp[AR.d])]
   have:eOp (o2 wIx) [eV 0,eC (.int 1)] [Gc (AR.Bx u i g kd n).d] S=Gc (.int u,S):=by simp[AR.d]
   rw[this,A3,LA (by simp at h ⊢; lia)]
   simp[G5,vd]
  |CT=>rw[Ir AW hz ht (S1:=S) (by simp[AR.d]),LA (by simp at h ⊢; lia)];simp[G5,vd]
  |GP=>rw[Ir AW hz ht (S1:=S) (by simp[AR.d]),LA (by simp at h ⊢; lia)];simp[G5,vd]
  |swap=>rw[Ir AW hz ht (S1:=S) (by simp[AR.d]),LA (by simp at h ⊢; lia)];simp[G5,vd]
  |CW=>rw[Ir AW hz ht (S1:=S) (by simp[AR.d]),LA (by simp at h ⊢; lia)];simp[G5,vd]
  |thr=>rw[Ir AW hz ht (S1:=S) (by simp[AR.d]),LA (by simp at h ⊢; lia)];simp[G5,vd]
  |Fe=>rw[Ir AW hz ht (S1:=S) (by simp[AR.d]),LA (by simp at h ⊢; lia)];simp[G5,vd]
end
theorem Yr{gs:Gd}{t:Tf}{I:Wp D->En->Sto->Prop}{R:D->Sto->Prop}(hg:∀ds E S,I ds E S->gOk gs S):∀{ds} {E} {S},I ds E S->(∀d ds E S,I (d::ds) E S->∃E1,t d E S=Gc E1/\((∃E2 S2,b E1 S=Gc (.nx,E2,S2)/\I ds E2 S2)\/∃w E2 S2,b E1 S=Gc (.ret w,E2,S2)/\R w S2))->(∃E' S',Lx gs t b ds E S=Gc (.nx,E',S')/\I [] E' S')\/∃w E' S',Lx gs t b ds E S=Gc (.ret w,E',S')/\R w S'
 | [],E,S,hI,h=>.inl ⟨E,S,Jh (hg _ _ _ hI),hI⟩
 |d::ds,E,S,hI,h=>by
  obtain⟨E1,e1,⟨E2,S2,e2,I2⟩|⟨w,E2,S2,e2,r⟩⟩:=h d ds E S hI
  .rcases Yr hg I2 h with⟨E',S',e3,I3⟩|⟨w,E',S',e3,r⟩
   .exact .inl ⟨E',S',by rw[EE (hg _ _ _ hI),e1];simp[e2,e3],I3⟩
   .exact .inr ⟨w,E',S',by rw[EE (hg _ _ _ hI),e1];simp[e2,e3],r⟩
  .exact .inr ⟨w,E2,S2,by rw[EE (hg _ _ _ hI),e1];simp[e2],r⟩
def Wf(t:Tr):AR->Prop
 | .CT p k n=>p<t.p/\k<t.k/\1<=n/\n<2^131
 | .GP a b=>a≠b
 | .swap _ g k n=>1<=g/\k<t.k/\1<=n/\n<2^131
 | .Bx u _ g k n=>1<=g/\k<t.k/\1<=n/\n<2^131/\0<=u/\u<=9
 | .CW _ n=>1<=n
 | .thr _ n ws=>1<=n/\ws.length=t.k+1/\∀w∈ws,1<=w/\w<=99
 | .Fe p q x=>p≠q/\p<t.p/\q<t.p/\0<x.num/\x.num<=x.den/\x.den<=12
noncomputable def thB(st:Stt)(l:Nat)(n:Int):va:=decide (l<st.AA.length) && decide (n<=(AL st.AA l).n)
noncomputable def swB(st:Stt)(l:Nat)(g:Int)(k:Nat):va:=thB st l g && !((AL st.AA l).k==k)
noncomputable def G7(st:Stt):AR->va
 | .CT .. =>true
 | .GP a b=>thB st a 1 && (thB st b 1 && ((AL st.AA a).k==(AL st.AA b).k))
 | .swap l g k _=>swB st l g k
 | .Bx u l g k _=> !(st.nums.any λx=>x==u) && swB st l g k
 | .CW l n=>thB st l n
 | .thr l n _=>thB st l n
 | .Fe .. =>true
section
variable{st:Stt}
def jf{us:Wp Int}:(us.any λx=>x==u)=false↔u∉us:=by
 rw[List.any_eq_false]
 constructor
 .intro h z
  exact h u z (by simp)
 .intro h x hx z
  have:x=u:=by simpa using z
  exact h (this▸hx)
def Yy(hw:Wf t d)(h:G7 st d=true):Can t st d:=by
 cases d with
 |CT p k n=>exact hw
 |GP a b=>
  simp only[G7,thB,uc,vW,wJ]at h
  obtain⟨⟨h1,h2⟩,⟨h3,h4⟩,h5⟩:=h
  exact⟨hw,h1,h3,by lia,by lia,h5⟩
 |swap l g k n=>
  simp only[G7,swB,thB,uc,vW,xo,vc,ne_eq]at h
  obtain⟨w1,w2,w3,w4⟩:=hw
  exact⟨h.1.1,w1,h.1.2,w2,λz=>h.2 z.symm,w3,w4⟩
 |Bx u l g k n=>
  simp only[G7,swB,thB,uc,vW,xo,vc,ne_eq]at h
  obtain⟨w1,w2,w3,w4,w5,w6⟩:=hw
  exact⟨h.2.1.1,w1,h.2.1.2,w2,λz=>h.2.2 z.symm,w3,w4,jf.mp h.1,w5,w6⟩
 |CW l n=>
  simp only[G7,thB,uc,vW]at h
  exact⟨h.1,hw,h.2⟩
 |thr l n ws=>
  simp only[G7,thB,uc,vW]at h
  exact⟨h.1,hw.1,h.2,hw.2⟩
 |Fe p q x=>exact hw
def VS(h:Can t st d):Wf t d/\G7 st d=true:=by
 cases d with
 |CT p k n=>exact⟨h,rfl⟩
 |GP a b=>
  obtain⟨h1,h2,h3,h4,h5,h6⟩:=h
  refine⟨h1,?_⟩
  simp only[G7,thB,uc,vW,wJ]
  exact⟨⟨h2,by lia⟩,⟨h3,by lia⟩,h6⟩
 |swap l g k n=>
  obtain⟨h1,h2,h3,h4,h5,h6,h7⟩:=h
  refine⟨⟨h2,h4,h6,h7⟩,?_⟩
  simp only[G7,swB,thB,uc,vW,xo,vc,ne_eq]
  exact⟨⟨h1,h3⟩,λz=>h5 z.symm⟩
 |Bx u l g k n=>
  obtain⟨h1,h2,h3,h4,h5,h6,h7,h8,h9,h10⟩:=h
  refine⟨⟨h2,h4,h6,h7,h9,h10⟩,?_⟩
  simp only[G7,swB,thB,uc,vW,xo,vc,ne_eq]
  exact⟨jf.mpr h8,⟨h1,h3⟩,λz=>h5 z.symm⟩
 |CW l n=>
  obtain⟨h1,h2,h3⟩:=h
  refine⟨h2,?_⟩
  simp only[G7,thB,uc,vW]
  exact⟨h1,h3⟩
 |thr l n ws=>
  obtain⟨h1,h2,h3,h4⟩:=h
  refine⟨⟨h2,h4⟩,?_⟩
  simp only[G7,thB,uc,vW]
  exact⟨h1,h3⟩
 |Fe p q x=>exact⟨h,rfl⟩
def OC(h:l<st.AA.length):atI (st.AA.map hD) (l:Int)=Gc (hD (AL st.AA l)):=B2 (by rw[uo,EO h];rfl)
def Mf{l:Nat}:BU [Au st.AA,.int l,.int n] S=Gc (.bl (thB st l n),S):=by
 by_cases h:l<st.AA.length
 .have a:=OC h
  have h':(l:Int)<(st.AA.length:Int):=by lia
  have e:thB st l n=decide (n<=(AL st.AA l).n):=by simp[thB,h]
  rw[e]
  simp[BU,GA,Au,h',a,hD]
 .have h':¬(l:Int)<(st.AA.length:Int):=by lia
  have e:thB st l n=false:=by simp[thB,h]
  rw[e]
  simp[BU,GA,Au,h']
def MO(h:thB st l n=true):l<st.AA.length:=by
 simp only[thB,uc,vW]at h
 exact h.1
def KP{a b:Nat}:((a:Int)==(b:Int))=(a==b):=by
 rw[wg,wJ,wJ]
 exact Int.ofNat_inj
def R7{l k:Nat}:Dg [Au st.AA,.int l,.int g,.int k] S=Gc (.bl (swB st l g k),S):=by
 have e:=Mf (S:=S) (st:=st) (l:=l) (n:=g)
 unfold swB
 cases h:thB st l g with
 |false=>
  rw[h]at e
  generalize Au st.AA=HD at*
  simp[Dg,HY,e]
 |true=>
  rw[h]at e
  have a:=OC (MO h)
  simp only[Au]at e⊢
  have nb:=KP (a:=(AL st.AA l).k) (b:=k)
  generalize st.AA.map hD=HL at*
  simp[Dg,HY,e,a,hD,nb]
def Xk{a b:Nat}:DU [Au st.AA,.int a,.int b] S=Gc (.bl (thB st a 1 && (thB st b 1 && ((AL st.AA a).k==(AL st.AA b).k))),S):=by
 have e1:=Mf (S:=S) (st:=st) (l:=a) (n:=1)
 have e2:=Mf (S:=S) (st:=st) (l:=b) (n:=1)
 cases h:thB st a 1 with
 |false=>
  rw[h]at e1
  generalize Au st.AA=HD at*
  simp[DU,Fw,e1]
 |true=>
  rw[h]at e1
  cases h2:thB st b 1 with
  |false=>
   rw[h2]at e2
   generalize Au st.AA=HD at*
   simp[DU,Fw,e1,e2]
  |true=>
   rw[h2]at e2
   have a1:=OC (MO h)
   have a2:=OC (MO h2)
   have nb:=KP (a:=(AL st.AA a).k) (b:=(AL st.AA b).k)
   simp only[Au]at e1 e2⊢
   generalize st.AA.map hD=HL at*
   simp[DU,Fw,e1,e2,a1,a2,hD,nb]
def jS{ds:Wp AR}(hd:ds.length<=50)(hn:st.nums=ds.filterMap G5):Bc [Au st.AA,.tup (ds.map AR.d),d.d] S=Gc (.bl (G7 st d),S):=by
 cases d with
 |CT p kd n=>simp[Bc,DR,AR.d,G7]
 |GP i j=>
  have e:=Xk (S:=S) (st:=st) (a:=i) (b:=j)
  simp[Bc,DR,AR.d,e,G7]
 |swap i g kd n=>
  have e:=R7 (S:=S) (st:=st) (l:=i) (g:=g) (k:=kd)
  simp[Bc,DR,AR.d,e,G7]
 |Bx u i g kd n=>
  have e:=R7 (S:=S) (st:=st) (l:=i) (g:=g) (k:=kd)
  have tc:=LA (S:=S) (ds:=ds) (acc:=[]) (o:=none) (by simp;lia)
  rw[<-hn]at tc
  have fi:=Md (us:=st.nums)
  have ii:=Om (us:=st.nums) (i:=u)
  have cb:G7 st (.Bx u i g kd n)=(!(st.nums.any λx=>x==u) && swB st i g kd):=rfl
  rw[cb]
  generalize st.nums.map D.int=ud at*
  generalize (st.nums.any λx=>x==u)=q at*
  rw[vK]at tc
  cases q<;>simp[Bc,DR,AR.d,tc,fi,ii,e]
 |CW i n=>
  have e:=Mf (S:=S) (st:=st) (l:=i) (n:=n)
  simp[Bc,DR,AR.d,e,G7]
 |thr i n ws=>
  have e:=Mf (S:=S) (st:=st) (l:=i) (n:=n)
  simp[Bc,DR,AR.d,e,G7]
 |Fe p q x=>simp[Bc,DR,AR.d,G7]
end
section
variable{S:Sto}{st:Stt}
def Xb{ss os:Wp Rat}:Nu (ss.map aD) (os.map aD)=(ss.zip os).map λz=>D.tup [aD z.1,aD z.2]:=by
 unfold Nu
 rw[List.zip_map,wD]
 rfl
noncomputable def bM(w m:Int)(ss os:Wp Rat):Wp Rat:=z9 (λs o=>(s*w+o*m) / (w+m)) ss os
def FX{ss os:Wp Rat}(hs:∀r∈ss,Sz j r)(ho:∀r∈os,Sz j r)(hw:w.natAbs<2^n)(hm:m.natAbs<2^n)(h:0<w+m)(hj:2*j+n+1<=7990)(hl:ss.length<=50):CK [shD ss,.int w,shD os,.int m] S=Gc (shD (bM w m ss os),S):=by
 have e:=EN (gs:=[]) (t:=tTp [tNm 2,tNm 3]) (f:=AF HN [eV 2,eV 0,eV 3,eV 1]) (C:=[Gc (.int w),Gc (.int m)]) (m:=2) (e:=λz:Rat×Rat=>D.tup [aD z.1,aD z.2]) (g:=λz=>aD ((z.1*w+z.2*m) / (w+m))) (S:=S) AW (xs:=ss.zip os) (acc:=[]) (os:=[none,none]) rfl (ub (show _<=50 by simp;lia) (AJ (by decide))) (by
  intro z hz os' ho'
  obtain⟨q1,q2,rfl⟩:=jG ho'
  have hm2:=we (a:=z.1) (b:=z.2) hz
  have l:=kG (S:=S) (hs _ hm2.1) (ho _ hm2.2) hw hm h (by lia)
  refine⟨[Gc (aD z.1),Gc (aD z.2)],rfl,by simp,?_⟩
  simp[l])
 rw[<-Xb]at e
 have em:(ss.zip os).map (λz=>aD ((z.1*w+z.2*m) / (w+m)))=(bM w m ss os).map aD:=by
  unfold bM
  rw[<-List.map_uncurry_zip_eq_zipWith,wD]
  rfl
 rw[em]at e
 simp only[vV,vK]at e
 simp[CK,G6,e,Qv]
def OL{P p:Nat}(hP:P<=50):ES [.int P,.int p] S=Gc (shD (Ub P p),S):=by
 have e:=Rv (S:=S) (P:=P) (p:=p) (cond:=0) (C:=[]) (dd:=.int p) (f:=eIf (eOp (o2 wEq) [eV 1,eV 0]) (eC OW) (eC Dt)) hP (by
  intro i
  by_cases hi:i=p
  .subst hi;simp;rfl
  .have:((i:Int)==(p:Int))=false:=by simp;lia
   simp[this,hi];rfl)
 have rn:Jc (P:Int)=true:=ET (by lia) (by lia)
 simp[ES,Ih,rn,e,Qv]
def Lq{ss os:Wp Rat}:bM n m ss os=B9 n m ss os:=by
 unfold bM B9
 congr 1
 funext s o
 push_cast
 rfl
def QT{ss os:Wp Rat}:B9 n m ss os=B9 m n os ss:=by
 unfold B9
 rw[List.zipWith_comm]
 congr 1
 funext o s
 push_cast
 grind
@[simp] def U8:Mz [a,b]=if a<=b then [a,b]else [b,a]:=by
  unfold Mz
  simp[List.mergeSort,ACD,List.merge]
@[simp] def cW:Oh (.val (.lst [.int a,.int b]))=some (.own ((if a<=b then [a,b]else [b,a]).map D.int)):=by
  have:Oh (.val (.lst [.int a,.int b]))=Gc (.own ((Mz [a,b]).map D.int)):=rfl
  rw[this,U8]
@[simp] def kx{a b c d e:D}:atI [a,b,c,d,e] (-4)=some b:=nr rfl
@[simp] def lx{a b c d e f:D}:atI [a,b,c,d,e,f] (-4)=some c:=nr rfl
def Vd(ht:IB t)(h:E9 t k st)(hk:k<=21)(hc:Can t st (.GP i j)):A4 [Au st.AA,KC st.AA,(AR.GP i j).d] S=Gc (shD (B9 (AL st.AA i).n (AL st.AA j).n (AL st.AA i).ow (AL st.AA j).ow),S):=by
 obtain⟨hij,hi,hj,h1,h2,h3⟩:=hc
 have sz:=h.sz
 have pi:=h.pcs _ (Ap hi)
 have pj:=h.pcs _ (Ap hj)
 have ti:=h.own _ (Ap hi)
 have tj:=h.own _ (Ap hj)
 have zi:=sz.1 _ (Ap hi)
 have zj:=sz.1 _ (Ap hj)
 have hp:t.p<=10:=by have:=ht.2.1;lia
 .by_cases hle:i<=j
  .have hle':(i:Int)<=j:=by lia
   have e:=FX (S:=S) (j:=30+170*k) (n:=131+k) zi zj (F8 pi.1 pi.2) (F8 pj.1 pj.2) (by lia) (by lia) (by lia)
   rw[Lq]at e
   have a1:=Hh hi
   have a2:=Hh hj
   have b1:=Lc hi
   have b2:=Lc hj
   have mf:Bh [(AR.GP i j).d] S=Gc (.lst [.int i,.int j],S):=by
    simp[Bh,Dk,AR.d,hle,hle']
   simp only[AR.d]at mf⊢
   simp[A4,Cc,mf,a1,a2,b1,b2,e]
  .have hle':¬(i:Int)<=j:=by lia
   have e:=FX (S:=S) (j:=30+170*k) (n:=131+k) zj zi (F8 pj.1 pj.2) (F8 pi.1 pi.2) (by lia) (by lia) (by lia)
   rw[Lq,QT]at e
   have a1:=Hh hi
   have a2:=Hh hj
   have b1:=Lc hi
   have b2:=Lc hj
   have mf:Bh [(AR.GP i j).d] S=Gc (.lst [.int j,.int i],S):=by
    simp[Bh,Dk,AR.d,hle,hle']
   simp only[AR.d]at mf⊢
   simp[A4,Cc,mf,a1,a2,b1,b2,e]
def Va(hi:i<st.AA.length):A4 [Au st.AA,KC st.AA,(AR.swap i g kd n).d] S=Gc (shD (AL st.AA i).ow,S):=by
 have b1:=Lc hi
 simp[A4,Cc,Bh,Dk,AR.d,b1]
def Th(hi:i<st.AA.length):A4 [Au st.AA,KC st.AA,(AR.Bx u i g kd n).d] S=Gc (shD (AL st.AA i).ow,S):=by
 have b1:=Lc hi
 simp[A4,Cc,Bh,Dk,AR.d,b1]
def Xc(h:E9 t k st)(hk:k<=21)(hl:ws.length=t.k+1)(hw:∀w∈ws,1<=w/\w<=99):DF [t.d,Au st.AA,.tup (ws.map D.int)] S=Gc (.int (D6 t st.AA ws),S):=by
 have hlen:=h.len
 have e:=EN (gs:=[]) (t:=tTp [tNm 1,tNm 2]) (f:=eOp (o2 B5) [eV 2,eOp (o2 wIx) [eV 0,eV 1]]) (C:=[Gc (.tup (ws.map D.int))]) (m:=2) (e:=hD) (g:=λx=>D.int (x.n*ws.getD x.k 0)) (S:=S) AW (xs:=st.AA) (acc:=[]) (os:=[none,none]) rfl (ub (show _<=50 by simp;lia) (AJ (by decide))) (by
  intro x hx os ho
  obtain⟨q1,q2,rfl⟩:=jG ho
  have hkk:=h.kind _ hx
  have w1:=RV (ws:=ws) (i:=x.k) (by lia)
  have w2:=La hw (i:=x.k) (by lia)
  have m1:Dj x.n (ws.getD x.k 0)=true:=mulR (by lia) (by lia)
  generalize ws.getD x.k 0=wz at*
  refine⟨[Gc (.int x.k),Gc (.int x.n)],rfl,by simp,?_⟩
  simp[w1,m1])
 simp only[vV,vK]at e
 have es:LD (st.AA.map λx=>D.int (x.n*ws.getD x.k 0))=Gc (st.AA.map λx=>x.n*ws.getD x.k 0):=by
  have:=GR (st.AA.map λx=>x.n*ws.getD x.k 0)
  rwa [wD]at this
 have w2:=Oj hl
 have w4:=La hw (i:=t.k) (by lia)
 have m2:Dj (t.b:Int) (ws.getD t.k 0)=true:=mulR (by lia) (by lia)
 have e2:D6 t st.AA ws=(st.AA.map λx=>x.n*ws.getD x.k 0).sum+t.b*ws.getD t.k 0:=rfl
 rw[e2]
 have sq:sqD S (Au st.AA)=Gc (st.AA.map hD,[]):=rfl
 generalize (st.AA.map λx=>x.n*ws.getD x.k 0)=es' at*
 generalize (st.AA.map λx=>D.int (x.n*ws.getD x.k 0))=es2 at*
 generalize ws.getD t.k 0=wb at*
 simp[DF,G9,Tr.d,sq,e,es,w2,m2]
def cU(ht:IB t)(h:E9 t k st)(hk:k<=21)(hc:Can t st (.thr i n ws)):Dl [t.d,Au st.AA,(AR.thr i n ws).d] S=Gc (aD (JB t st.AA i n ws),S):=by
 obtain⟨hi,h1,h2,hl,hw⟩:=hc
 have a:=J4 ht h (by lia) hl hw
 have w1:=RV (ws:=ws) (i:=(AL st.AA i).k) (by have:=h.kind _ (Ap hi);lia)
 have w3:=La hw (i:=(AL st.AA i).k) (by have:=h.kind _ (Ap hi);lia)
 have m1:Dj n (ws.getD (AL st.AA i).k 0)=true:=mulR (by lia) (by lia)
 have l1:=US (S:=S) (t:=n*ws.getD (AL st.AA i).k 0) a.1 (C5 (F8 (by lia) a.2) (by lia))
 have wo:=Xc (S:=S) h hk hl hw
 have ah:=Hh hi
 rw[LO hi]
 generalize aD (((n*ws.getD (AL st.AA i).k 0:Int):Rat) / (D6 t st.AA ws:Rat))=R at*
 generalize ws.getD (AL st.AA i).k 0=wa at*
 simp[Dl,Ha,AR.d,ah,w1,m1,wo,l1]
def WN{ss os:Wp Rat}:bM ((X.den:Int)-X.num) X.num ss os=HG X os ss:=by
 unfold bM HG
 congr 1
 funext s o
 have h1:=DJ X
 have h2:=Hy X
 push_cast
 have e:((X.den:Rat)-(X.num:Rat)+(X.num:Rat))=(X.den:Rat):=by grind
 rw[e]
 grind
def V7(ht:IB t)(h:E9 t k st)(hk:k<=21)(hc:Can t st (.thr i n ws))(hs:∀r∈ss,Sz (30+170*k) r)(hl:ss.length<=50):Cy [t.d,Au st.AA,KC st.AA,(AR.thr i n ws).d,shD ss] S=Gc (shD (HG (JB t st.AA i n ws) (AL st.AA i).ow ss),S):=by
 have pt:=cU (S:=S) ht h hk hc
 obtain⟨hi,h1,h2,hl',hw⟩:=hc
 have cz:=Vb ht h (by lia) hl' hw hi h1 h2
 have b1:=Lc hi
 generalize JB t st.AA i n ws=X at*
 have d0:=den_pos X
 have c2:=cz.2
 have e:=FX (S:=S) (w:=(X.den:Int)-X.num) (m:=X.num) (j:=30+170*k) (n:=146+k) hs (h.sz.1 _ (Ap hi)) (by
  have c1:=cz.1
  have:2^(146+k)=2^(145+k)*2:=by rw[show 146+k=(145+k)+1 by lia,ABA]
  generalize 2^(145+k)=P at*
  lia) (cy cz.1 (by lia)) (by lia) (by lia) hl
 rw[WN]at e
 generalize HG X (AL st.AA i).ow ss=rs at*
 simp only[aD,AR.d]at pt⊢
 simp[Cy,GK,pt,b1,e]
def UJ(hs:∀r∈ss,Sz j r)(hx:Sz i x)(hj:2*j+i<=7900)(hp:p<ss.length)(hq:q<ss.length)(hpq:p≠q):∃S',Dq [(AR.Fe p q x).d,shD ss] S=Gc (shD (Gx p q x ss),S')/\Bq [] S S':=by
 have sp:=hs _ (getD_mem (d:=0) hp)
 have sq:=hs _ (getD_mem (d:=0) hq)
 have l1:∀S,FN [aD (ss.getD p 0),aD x] S=Gc (aD (ss.getD p 0*x),S):=λS=>ZX sp hx (by lia)
 have s1:=Nl sp hx
 have l2:∀S,Jr [aD (ss.getD p 0),aD (ss.getD p 0*x)] S=Gc (aD (ss.getD p 0-ss.getD p 0*x),S):=λS=>pM sp s1 (by lia)
 have l3:∀S,Ez [aD (ss.getD q 0),aD (ss.getD p 0*x)] S=Gc (aD (ss.getD q 0+ss.getD p 0*x),S):=λS=>dm sq s1 (by lia)
 have a1:=UB hp
 have a2:=UB hq
 have i1:=ZE hp
 have i2:ixN (((ss.map aD).set p (aD (ss.getD p 0-ss.getD p 0*x))).length) (q:Int)=Gc q:=Lg (by simpa using hq)
 refine⟨S++[.lst ((Gx p q x ss).map aD)],?_,.app⟩
 simp only[wV,vO]at i1 i2
 have em:(Gx p q x ss).map aD=((ss.map aD).set p (aD (ss.getD p 0-ss.getD p 0*x))).set q (aD (ss.getD q 0+ss.getD p 0*x)):=by rw[Gx,yI,yI]
 unfold shD
 rw[em]
 generalize aD (ss.getD p 0-ss.getD p 0*x)=d1 at*
 generalize aD (ss.getD q 0+ss.getD p 0*x)=d2 at*
 generalize aD (ss.getD p 0*x)=d3 at*
 generalize aD (ss.getD p 0)=d4 at*
 generalize aD (ss.getD q 0)=d5 at*
 simp[Dq,Hu,AR.d,a1,a2,l1,l2,l3,i1,i2]
end
theorem Pu{α:Type}{gs:Gd}{t:Tf}{f:Ev}{C:En}{m:Nat}{e g:α->D}(hg:∀S,gOk gs S):∀{xs:Wp α} {acc} {os} {S},os.length=m->acc.length+xs.length<=sizeLine->(∀x∈xs,∀os S,os.length=m->∃us S',us.length=m/\t (e x) (C++os) S=Gc (C++us)/\f (C++us) S=Gc (g x,S')/\Bq [] S S')->∃S',BZ gs t BI f (xs.map e) acc (C++os) S=Gc (acc++xs.map g,S')/\Bq [] S S'
 | [],acc,os,S,ho,hz,h=>⟨S,by rw[wG,DA (hg S)];simp,.refl⟩
 |x::xs,acc,os,S,ho,hz,h=>by
  obtain⟨us,S1,hu,e1,e2,s1⟩:=h x um os S ho
  obtain⟨S2,e3,s2⟩:=Pu hg (xs:=xs) (acc:=acc++[g x]) (os:=us) (S:=S1) hu (by simp at hz ⊢; lia) λx' hx=>h x' (uX _ hx)
  refine⟨S2,?_,s1.trans s2⟩
  rw[ux,FH (hg S) (by simp at hz;lia) e1 Ds,e2,A3,e3]
  simp
section
variable{S:Sto}{st:Stt}{t:Tr}{k:Nat}
noncomputable def shB(t:Tr)(st:Stt):AR->Wp Rat->Wp Rat
 | .thr i n ws,ss=>HG (JB t st.AA i n ws) (AL st.AA i).ow ss
 | .Fe p q x,ss=>Gx p q x ss
 |_,ss=>ss
def Pd(ht:IB t)(h:E9 t k st)(hk:k<=21)(hc:Can t st d)(hs:∀r∈ss,Sz (30+170*k) r)(hl:ss.length=t.p):∃S',AY [t.d,Au st.AA,KC st.AA,d.d,shD ss] S=Gc (shD (shB t st d ss),S')/\Bq [] S S':=by
 have tp:=ht.2.1
 cases d with
 |thr i n ws=>
  have e:=V7 (S:=S) ht h hk hc hs (by lia)
  refine⟨S,?_,.refl⟩
  simp only[AR.d]at e⊢
  simp[AY,Av,e,shB]
 |Fe p q x=>
  obtain⟨hpq,hp,hq,x1,x2,x3⟩:=hc
  have hx:Sz 4 x:=by
   refine⟨?_,by lia⟩
   show x.num.natAbs<16
   lia
  obtain⟨S',e,sm⟩:=UJ (S:=S) (p:=p) (q:=q) hs hx (by lia) (by lia) (by lia) hpq
  refine⟨S',?_,sm⟩
  simp only[AR.d]at e⊢
  simp[AY,Av,e,shB]
 |CT p kd n=>exact⟨S,by simp[AY,Av,AR.d,shB],.refl⟩
 |GP i j=>exact⟨S,by simp[AY,Av,AR.d,shB],.refl⟩
 |swap i g kd n=>exact⟨S,by simp[AY,Av,AR.d,shB],.refl⟩
 |Bx u i g kd n=>exact⟨S,by simp[AY,Av,AR.d,shB],.refl⟩
 |CW i n=>exact⟨S,by simp[AY,Av,AR.d,shB],.refl⟩
def Vh:(step t st d).hold=shB t st d st.hold:=by cases d<;>rfl
def Kg(hi:i<ls.length){β:Type}(f:Wp Rat->β):(less ls i n).map (λx=>f x.ow)=ls.map λx=>f x.ow:=by
 rw[Qg,yI]
 have:(ls.map λx=>f x.ow)[i]?=Gc (f (AL ls i).ow):=by rw[uo,EO hi];rfl
 apply AAh
 intro j
 by_cases e:i=j
 .subst e;rw[ui (by simpa using hi),this]
 .rw[uW e]
@[simp] def qm:sqD S (KC ls)=some (ls.map λx=>shD x.ow,[]):=nr rfl
def Wh(ht:IB t)(h:E9 t k st)(hk:k<=21)(hc:Can t st d):∃S',Ag [t.d,Au st.AA,KC st.AA,d.d] S=Gc (KC (step t st d).AA,S')/\Bq [] S S':=by
 have hlen:=h.len
 have sz:=h.sz
 have tp:=ht.2.1
 obtain⟨S',e,sm⟩:=Pu (gs:=[]) (t:=tNm 4) (f:=AF AY [eV 0,eV 1,eV 2,eV 3,eV 4]) (C:=[Gc t.d,Gc (Au st.AA),Gc (KC st.AA),Gc d.d]) (m:=1) (e:=λx:Ld=>shD x.ow) (g:=λx=>shD (shB t st d x.ow)) (λ_=>AW) (xs:=st.AA) (acc:=[]) (os:=[none]) (S:=S) rfl (ub (show _<=50 by simp;lia) (AJ (by decide))) (by
  intro x hx os S0 ho
  obtain⟨q1,rfl⟩:=NC ho
  obtain⟨S1,e1,s1⟩:=Pd (S:=S0) (d:=d) (ss:=x.ow) ht h hk hc (sz.1 x hx) (h.own x hx)
  refine⟨[Gc (shD x.ow)],S1,rfl,by simp,?_,s1⟩
  simp[e1])
 simp only[vV,vK]at e
 refine⟨S',?_,sm⟩
 have hz:(st.AA.map λx=>shD (shB t st d x.ow)).length+1<=sizeLine:=ub (show _<=100 by simp;lia) (AJ (by decide))
 cases d with
 |CT p kd n=>
  have a1:=OL (S:=S') (P:=t.p) (p:=p) (by lia)
  have ef:KC (step t st (.CT p kd n)).AA=.lst ((st.AA.map λx=>shD (shB t st (.CT p kd n) x.ow))++[shD (Ub t.p p)]):=by simp[KC,step,shB]
  rw[ef]
  generalize (st.AA.map λx=>shD (shB t st (.CT p kd n) x.ow))=A at*
  simp only[AR.d,Tr.d]at e⊢
  simp[Ag,Aw,e,a1,hz]
 |GP i j=>
  have a1:=Vd (S:=S') ht h hk hc
  obtain⟨hij,hi,hj,h1,h2,h3⟩:=hc
  have e0:AL (less st.AA i (AL st.AA i).n) j=AL st.AA j:=by
   unfold AL less
   rw[u4,uW hij,<-u4]
  have ef:KC (step t st (.GP i j)).AA=.lst ((st.AA.map λx=>shD (shB t st (.GP i j) x.ow))++[shD (B9 (AL st.AA i).n (AL st.AA j).n (AL st.AA i).ow (AL st.AA j).ow)]):=by
   show D.lst ((less (less st.AA i (AL st.AA i).n) j (AL st.AA j).n++[_]).map λx:Ld=>shD x.ow)=_
   rw[wW,Kg (by rw[Dr];exact hj),Kg hi]
   rfl
  rw[ef]
  generalize (st.AA.map λx=>shD (shB t st (.GP i j) x.ow))=A at*
  simp only[AR.d]at e a1⊢
  simp[Ag,Aw,e,a1,hz]
 |swap i g kd n=>
  have hi:=hc.1
  have a1:=Va (S:=S') (st:=st) (i:=i) (kd:=kd) (g:=g) (n:=n) hi
  have ef:KC (step t st (.swap i g kd n)).AA=.lst ((st.AA.map λx=>shD (shB t st (.swap i g kd n) x.ow))++[shD (AL st.AA i).ow]):=by
   show D.lst ((less st.AA i g++[_]).map λx:Ld=>shD x.ow)=_
   rw[wW,Kg hi]
   rfl
  rw[ef]
  generalize (st.AA.map λx=>shD (shB t st (.swap i g kd n) x.ow))=A at*
  simp only[AR.d]at e a1⊢
  simp[Ag,Aw,e,a1,hz]
 |Bx u i g kd n=>
  have hi:=hc.1
  have a1:=Th (S:=S') (st:=st) (i:=i) (kd:=kd) (u:=u) (g:=g) (n:=n) hi
  have ef:KC (step t st (.Bx u i g kd n)).AA=.lst ((st.AA.map λx=>shD (shB t st (.Bx u i g kd n) x.ow))++[shD (AL st.AA i).ow]):=by
   show D.lst ((less st.AA i g++[_]).map λx:Ld=>shD x.ow)=_
   rw[wW,Kg hi]
   rfl
  rw[ef]
  generalize (st.AA.map λx=>shD (shB t st (.Bx u i g kd n) x.ow))=A at*
  simp only[AR.d]at e a1⊢
  simp[Ag,Aw,e,a1,hz]
 |CW i n=>
  have ef:KC (step t st (.CW i n)).AA=.lst (st.AA.map λx=>shD (shB t st (.CW i n) x.ow)):=by
   show D.lst ((less st.AA i n).map λx:Ld=>shD x.ow)=_
   rw[Kg hc.1]
   rfl
  rw[ef]
  generalize (st.AA.map λx=>shD (shB t st (.CW i n) x.ow))=A at*
  simp only[AR.d]at e⊢
  simp[Ag,Aw,e]
 |thr i n ws=>
  have ef:KC (step t st (.thr i n ws)).AA=.lst (st.AA.map λx=>shD (shB t st (.thr i n ws) x.ow)):=by
   show D.lst (((less st.AA i n).map _).map λx:Ld=>shD x.ow)=_
   rw[wD]
   exact congrArg D.lst (Kg hc.1 (λo=>shD (HG (JB t st.AA i n ws) (AL st.AA i).ow o)))
  rw[ef]
  generalize (st.AA.map λx=>shD (shB t st (.thr i n ws) x.ow))=A at*
  simp only[AR.d]at e⊢
  simp[Ag,Aw,e]
 |Fe p q x=>
  have ef:KC (step t st (.Fe p q x)).AA=.lst (st.AA.map λy=>shD (shB t st (.Fe p q x) y.ow)):=by
   show D.lst ((st.AA.map _).map λy:Ld=>shD y.ow)=_
   rw[wD]
   rfl
  rw[ef]
  generalize (st.AA.map λy=>shD (shB t st (.Fe p q x) y.ow))=A at*
  simp only[AR.d]at e⊢
  simp[Ag,Aw,e]
@[simp] def pE:sqD S (Au ls)=some (ls.map hD,[]):=nr rfl
def KS(hl:ls.length<=50):Bz [.tup [x,.tup (ls.map Ld.d),y]] S=Gc (Au ls,S):=by
 have e:=EN (gs:=[]) (t:=tNm 0) (f:=BC [eOp (o2 wIx) [eV 0,eC (.int 0)],eOp (o2 wIx) [eV 0,eC (.int 1)]]) (C:=[]) (m:=1) (e:=Ld.d) (g:=hD) (S:=S) AW (xs:=ls) (acc:=[]) (os:=[none]) rfl (ub (show _<=50 by simp;lia) (AJ (by decide))) (by
  intro x hx os ho
  obtain⟨q1,rfl⟩:=NC ho
  refine⟨[Gc x.d],rfl,by simp,?_⟩
  simp[Ld.d,hD])
 simp only[vK]at e
 simp[Bz,GQ,e,Au]
def Vu{ls:Wp Ld}(hl:ls.length<=50):BZ [] (tNm 0) BI (eOp (o2 wIx) [eV 0,eC (.int 2)]) (ls.map Ld.d) [] [none] S=Gc (ls.map λx=>shD x.ow,S):=
 EN (gs:=[]) (t:=tNm 0) (f:=eOp (o2 wIx) [eV 0,eC (.int 2)]) (C:=[]) (m:=1) (e:=Ld.d) (g:=λx=>shD x.ow) (S:=S) AW (xs:=ls) (acc:=[]) (os:=[none]) rfl (ub (show _<=50 by simp;lia) (AJ (by decide))) (by
  intro x hx os ho
  obtain⟨q1,rfl⟩:=NC ho
  refine⟨[Gc x.d],rfl,by simp,?_⟩
  simp[Ld.d])
def YN(h:CL t ls ds)(hn:n<=ds.length):∃S',Fo [AK t ls ds,.int n] S=Gc (.tup [Au (runs t (st0 t ls) (ds.take n)).AA,KC (runs t (st0 t ls) (ds.take n)).AA,shD (runs t (st0 t ls) (ds.take n)).hold],S')/\Bq [] S S':=by
 have hl0:ls.length<=4:=h.inv.len
 have ct:IJ (ds.map AR.d) none (Gc (n:Int))=(ds.take n).map AR.d:=by rw[Jx (by simpa using hn),yt]
 obtain⟨E',S',ef,i,o,f1,f2,rfl,f3⟩:=Gm (gs:=[]) (t:=tNm 8) (b:=AN (Az 7 (AF AY [eV 2,eV 5,eV 6,eV 8,eV 7]))
  (AN (Az 6 (AF Ag [eV 2,eV 5,eV 6,eV 8]))
  (Az 5 (AF Ad [eV 5,eV 8]))))
  (I:=λrs E S'=>∃(i:Nat) (o:uS D),rs=((ds.take n).drop i).map AR.d/\i<=n/\E=[Gc (AK t ls ds),Gc (.int n),Gc t.d,Gc (.tup (ls.map Ld.d)),Gc (.tup (ds.map AR.d)),Gc (Au (runs t (st0 t ls) (ds.take i)).AA),Gc (KC (runs t (st0 t ls) (ds.take i)).AA),Gc (shD (runs t (st0 t ls) (ds.take i)).hold),o]/\Bq [] S S')
  (λ_ _ _ _=>AW) (ds:=(ds.take n).map AR.d) (E:=[Gc (AK t ls ds),Gc (.int n),Gc t.d,Gc (.tup (ls.map Ld.d)),Gc (.tup (ds.map AR.d)),Gc (Au ls),Gc (KC ls),Gc (shD t.ho),none]) (S:=S)
  ⟨0,none,by simp,wM _,by simp[runs,st0],.refl⟩ (by
    rintro dd rs E T ⟨i,o,i1,i2,rfl,i3⟩
    have hlt:i<(ds.take n).length:=by
     rcases xp i (ds.take n).length with w|w
     .exact w
     .rw[v5 w]at i1;cases i1
    rw[vQ hlt,ux]at i1
    injection i1 with z1 z2
    subst z1 z2
    have hlt':i<ds.length:=by simp at hlt;lia
    have hin:i<n:=by simp at hlt;lia
    have hg:(ds.take n)[i]=ds[i]:=List.getElem_take
    rw[hg]
    have inv:=h.at i
    have il:(ds.take i).length<=20:=by have:=h.len;simp;lia
    have can:=LV h.good (uT hlt')
    obtain⟨T1,e1,s1⟩:=Pd (S:=T) h.tr inv (by lia) can inv.sz.2 inv.hold
    obtain⟨T2,e2,s2⟩:=Wh (S:=T1) h.tr inv (by lia) can
    have e3:=MH (S:=T2) inv (by lia) can
    have rt:=Jn (t:=t) (st:=st0 t ls) (uT hlt')
    refine⟨_,[Gc (AK t ls ds),Gc (.int n),Gc t.d,Gc (.tup (ls.map Ld.d)),Gc (.tup (ds.map AR.d)),Gc (Au (runs t (st0 t ls) (ds.take (i+1))).AA),Gc (KC (runs t (st0 t ls) (ds.take (i+1))).AA),Gc (shD (runs t (st0 t ls) (ds.take (i+1))).hold),Gc ds[i].d],T2,by simp;rfl,?_,i+1,Gc ds[i].d,rfl,hin,rfl,(i3.trans s1).trans s2⟩
    rw[rt]
    rw[<-Vh]at e1
    simp[e1,e2,e3])
 have hz:i=n:=by
  have:=congrArg yZ f1
  simp at this
  lia
 subst hz
 refine⟨S',?_,f3⟩
 have fh:=KS (S:=S) (ls:=ls) (x:=t.d) (y:=.tup (ds.map AR.d)) (by lia)
 have fo:=Vu (S:=S) (ls:=ls) (by lia)
 have fo':D.lst (ls.map λx=>shD x.ow)=KC ls:=rfl
 have th:atI [D.int t.p,D.int t.k,D.int t.b,shD t.ho,D.int t.h,D.int t.l] 3=Gc (shD t.ho):=by simp
 simp only[AK]at ef⊢
 have td:wIx (.val t.d) (.val (.int 3))=Gc (.val (shD t.ho)):=by simp[Tr.d]
 have dt:dr S t.d=.val t.d:=rfl
 rw[yt]at ef ct
 simp[Fo,K7,fh,fo,fo',-VX,td,dt,ct,ef]
def IY(h:CL t ls ds):BG [AK t ls ds] S=Gc (.non,S):=by
 have hl0:ls.length<=4:=h.inv.len
 have hd:=h.len
 obtain⟨E',S',ef,i,o1,o2,f1,f2,rfl,rfl⟩:=Gm (gs:=[]) (t:=tTp [tNm 3,tNm 4]) (b:=AN (xIf (E7 (AF Bc [eV 1,eOp (Il false true) [eV 2,eV 3],eV 4])) (AZ (eV 3)) BO)
  (Az 1 (AF Ad [eV 1,eV 4])))
  (I:=λrs E S'=>∃(i:Nat) (o1 o2:uS D),rs=(Mr 0 (ds.map AR.d)).drop i/\i<=ds.length/\E=[Gc (AK t ls ds),Gc (Au (runs t (st0 t ls) (ds.take i)).AA),Gc (.tup (ds.map AR.d)),o1,o2]/\S'=S)
  (λ_ _ _ _=>AW) (ds:=Mr 0 (ds.map AR.d)) (E:=[Gc (AK t ls ds),Gc (Au ls),Gc (.tup (ds.map AR.d)),none,none]) (S:=S)
  ⟨0,none,none,by simp,wM _,by simp[runs,st0],rfl⟩ (by
    rintro dd rs E T ⟨i,o1,o2,i1,i2,rfl,rfl⟩
    have el:(Mr 0 (ds.map AR.d)).length=ds.length:=by rw[L6];simp
    have hlt:i<ds.length:=by
     rcases xp i ds.length with w|w
     .exact w
     .rw[v5 (by lia)]at i1;cases i1
    rw[vQ (by lia)]at i1
    injection i1 with z1 z2
    have hd1:dd=.tup [.int i,ds[i].d]:=by
     have:=Js (ds:=ds.map AR.d) (k:=0) (i:=i)
     rw[uT (by lia),<-z1,uo,uT hlt]at this
     simpa using this
    subst z2
    subst hd1
    have inv:=h.at i
    have il:(ds.take i).length<=20:=by simp;lia
    have can:=LV h.good (uT hlt)
    have cd:=jS (S:=T) (st:=runs t (st0 t ls) (ds.take i)) (ds:=ds.take i) (d:=ds[i]) (by lia) PH
    rw[(VS can).2]at cd
    have e3:=MH (S:=T) inv (by lia) can
    have rt:=Jn (t:=t) (st:=st0 t ls) (uT hlt)
    have ct:=Jx (ds:=ds.map AR.d) (n:=i) (by simp;lia)
    rw[yt]at cd
    refine⟨_,[Gc (AK t ls ds),Gc (Au (runs t (st0 t ls) (ds.take (i+1))).AA),Gc (.tup (ds.map AR.d)),Gc (.int i),Gc ds[i].d],T,by simp;rfl,?_,i+1,Gc (.int i),Gc ds[i].d,rfl,hlt,rfl,rfl⟩
    rw[rt]
    simp[ct,cd,e3])
 have fh:=KS (S:=S') (ls:=ls) (x:=t.d) (y:=.tup (ds.map AR.d)) (by lia)
 simp only[AK]at ef⊢
 simp[BG,Dz,fh,ef]
def MC(h:CL t ls ds):AU [AK t ls ds] S=Gc (.non,S):=by
 have e:=IY (S:=S) h
 simp[AU,Cz,e,isN]
def Uo{ds:Wp AR}(hn:n<=ds.length):Br [AK t ls ds,.int n] S=Gc (.non,S):=by
 have h1:(n:Int)<=ds.length:=by lia
 have k1:St.Kd.int.isA "int"=true:=by decide
 have k2:St.Kd.int.isA "bool"=false:=by decide
 simp[k1,k2,Br,Et,Ac,Dp,Bp,GU,Cn,Fq,AK,kdW,h1]
end
theorem pJ:∀{ds},(∀d∈ds,d.py.depth<=n)->ABI (D.pys ds)<=n
 | [],_=>by simp[D.pys,ABI]
 |d::ds,h=>by
  have h1:=h d um
  have h2:=pJ λe he=>h e (uX _ he)
  simp only[D.pys,ABI]
  lia
def oS(h:∀d∈ds,d.py.depth<=n):(D.lst ds).py.depth<=n+1:=by
 have:=pJ h
 simp only[D.py,AAA]
 lia
def LF(h:∀d∈ds,d.py.depth<=n):(D.tup ds).py.depth<=n+1:=by
 have:=pJ h
 simp only[D.py,AAA]
 lia
def Gy:(D.int i).py.depth<=n+1:=by
 simp only[D.py,AAA]
 lia
def qu:(aD r).py.depth<=2:=LF (n:=1) (by
 intro d hd
 simp only[uZ,uv,ve]at hd
 rcases hd with rfl|rfl<;>exact Gy)
def nj:(shD rs).py.depth<=3:=LF (n:=2) (by
 intro d hd
 obtain⟨r,_,rfl⟩:=vT.mp hd
 exact qu)
def sx{x:Ld}:x.d.py.depth<=4:=LF (n:=3) (by
 intro d hd
 simp only[uZ,uv,ve]at hd
 rcases hd with rfl|rfl|rfl
 .exact Gy
 .exact Gy
 .exact nj)
theorem iE:(aD r).lay=true:=rfl
def Rw:(shD rs).lay=true:=Fg λ_ _=>iE
def hO{x:Ld}:x.d.lay=true:=by
 show(true && (true && ((shD x.ow).lay && true)))=true
 rw[Rw];rfl
def Me(h:d.lay=true)(g:d.py.depth<=60):Ou d d=true:=by
 unfold Ou
 rw[h]
 simp only[Bool.true_and,vW]
 lia
def OM(h:d.lay=true):deq d d=true:=PySem.SeqAt.eqv_refl _ (Kc h)
def bG{k:Nat}:∃c,C0 [.scr ns,.int k] S=Gc (.int c,S):=by
 by_cases h:k<ns.length
 .have h':(k:Int)<ns.length:=by lia
  refine⟨ns[k],?_⟩
  have e:atI (ns.map D.int) (k:Int)=Gc (.int ns[k]):=B2 (by rw[uo,uT h];rfl)
  simp[C0,Ge,h,h',e]
 .have h':¬(k:Int)<ns.length:=by lia
  exact⟨0,by simp[C0,Ge,h,h']⟩
section
variable{E:En}{S:Sto}{r r1 r2:Rx}{f:Ex}{k:Ev}{R:Rf}{fs:Wp Ev}{x:Str}
noncomputable def nxR(r2:Rx)(q:Fl×En×Sto):uS (Tg×En×Sto):=match q.1 with
 | .nx=>r2 q.2.1 q.2.2
 | .ret _=>none
def Nr:nxR r2 (.nx,E,S)=r2 E S:=nr rfl
def Gs:OO r f r2 E S=(r E S).or ((f E S).bind (nxR r2)):=by
 unfold OO
 cases r E S with
 |some z=>exact nr rfl
 |none=>exact nr rfl
def Kq:rNo E S=none:=nr rfl
noncomputable def ifR(r1 r2:Rx)(E:En)(q:D×Sto):uS (Tg×En×Sto):=match q.1 with
 | .bl true=>r1 E q.2
 | .bl false=>r2 E q.2
 |_=>none
def Zw:ifR r1 r2 E (.bl true,S)=r1 E S:=nr rfl
def Xj:ifR r1 r2 E (.bl false,S)=r2 E S:=nr rfl
def Ka:rIf k r1 r2 E S=(k E S).bind (ifR r1 r2 E):=nr rfl
def O1:Ql R fs E S=(evs fs E S).bind λq=>(R q.1 q.2).map λz=>(z.1,E,z.2):=nr rfl
def Nt:MU x fs E S=(evs fs E S).map λq=>(⟨x,none⟩,E,q.2):=nr rfl
def Qe:Qf x k E S=(k E S).bind (mF x E):=nr rfl
def ki:AS (OJ N r) ds S=(r (ds.map Gc++uq (N-ds.length) none) S).map λq=>(q.1,q.2.2):=by
 rw[JQ];rfl
def Ko:Cp E S=none:=nr rfl
def YH(h:n.natAbs.log2<1920):mF x E (.int n,S)=Gc (⟨x,Gc n⟩,E,S):=by
 show(if _ then _ else _)=_
 rw[vD h]
end
structure Up(t:Tr)(ls:Wp Ld)(ds:Wp AR)(i:Nat):Prop where
 tr:IB t
 inv:E9 t 0 (st0 t ls)
 len:ds.length<=21
 le:i<=ds.length
 good:MD t (st0 t ls) (ds.take i)
 bad:∀d,ds[i]?=Gc d->G7 (runs t (st0 t ls) (ds.take i)) d=false
noncomputable def YR(ds:Wp AR)(i:Nat):D:=if i<ds.length then .int i else .non
def Up.at(h:Up t ls ds i)(hj:j<=i):E9 t j (runs t (st0 t ls) (ds.take j)):=by
 have g:=Ki (i:=j) h.good
 rw[List.take_take,zu hj]at g
 have e:(ds.take j).length=j:=by rw[zS,zu (ub hj h.le)]
 have:=Of h.tr h.inv g (by rw[e];have:=h.len;have:=h.le;lia)
 rwa [Nat.zero_add,e]at this
def Up.can(h:Up t ls ds i)(hj:j<i)(hd:ds[j]?=Gc d):Can t (runs t (st0 t ls) (ds.take j)) d:=by
 have:=LV (i:=j) (d:=d) h.good (by rw[AAi hj];exact hd)
 rwa [List.take_take,zu (y8 hj)]at this
def Up.cb(h:Up t ls ds i)(hj:j<=i)(hd:ds[j]?=Gc d):G7 (runs t (st0 t ls) (ds.take j)) d=decide (j<i):=by
 rcases xp j i with w|w
 .rw[(VS (h.can w hd)).2];simp[w]
 .have e:j=i:=by lia
  subst e
  rw[h.bad d hd];simp
def gv(h:Up t ls ds i):BG [AK t ls ds] S=Gc (YR ds i,S):=by
 have hl0:ls.length<=4:=h.inv.len
 have hd:=h.len
 have hi:=h.le
 have el:(Mr 0 (ds.map AR.d)).length=ds.length:=by rw[L6];simp
 have fo:=Yr (gs:=[]) (t:=tTp [tNm 3,tNm 4]) (b:=AN (xIf (E7 (AF Bc [eV 1,eOp (Il false true) [eV 2,eV 3],eV 4])) (AZ (eV 3)) BO)
  (Az 1 (AF Ad [eV 1,eV 4])))
  (I:=λrs E S'=>∃(j:Nat) (o1 o2:uS D),rs=(Mr 0 (ds.map AR.d)).drop j/\j<=i/\E=[Gc (AK t ls ds),Gc (Au (runs t (st0 t ls) (ds.take j)).AA),Gc (.tup (ds.map AR.d)),o1,o2]/\S'=S)
  (R:=λw S'=>w=.int i/\i<ds.length/\S'=S)
  (λ_ _ _ _=>AW) (ds:=Mr 0 (ds.map AR.d)) (E:=[Gc (AK t ls ds),Gc (Au ls),Gc (.tup (ds.map AR.d)),none,none]) (S:=S)
  ⟨0,none,none,by simp,wM _,by simp[runs,st0],rfl⟩ (by
    rintro dd rs E T ⟨j,o1,o2,i1,i2,rfl,rfl⟩
    have hlt:j<ds.length:=by
     rcases xp j ds.length with w|w
     .exact w
     .rw[v5 (by lia)]at i1;cases i1
    rw[vQ (by lia)]at i1
    injection i1 with z1 z2
    have hd1:dd=.tup [.int j,ds[j].d]:=by
     have:=Js (ds:=ds.map AR.d) (k:=0) (i:=j)
     rw[uT (by lia),<-z1,uo,uT hlt]at this
     simpa using this
    subst z2
    subst hd1
    have inv:=h.at i2
    have cd:=jS (S:=T) (st:=runs t (st0 t ls) (ds.take j)) (ds:=ds.take j) (d:=ds[j]) (by simp;lia) PH
    rw[h.cb i2 (uT hlt)]at cd
    have ct:=Jx (ds:=ds.map AR.d) (n:=j) (by simp;lia)
    rw[yt]at cd
    refine⟨_,by simp;rfl,?_⟩
    rcases xp j i with w|w
    .have can:=h.can w (uT hlt)
     have e3:=MH (S:=T) inv (by lia) can
     have rt:=Jn (t:=t) (st:=st0 t ls) (uT hlt)
     refine .inl ⟨[Gc (AK t ls ds),Gc (Au (runs t (st0 t ls) (ds.take (j+1))).AA),Gc (.tup (ds.map AR.d)),Gc (.int j),Gc ds[j].d],T,?_,j+1,Gc (.int j),Gc ds[j].d,rfl,w,rfl,rfl⟩
     rw[rt]
     simp[ct,cd,e3,w]
    .have e:j=i:=by lia
     subst e
     refine .inr ⟨.int j,[Gc (AK t ls ds),Gc (Au (runs t (st0 t ls) (ds.take j)).AA),Gc (.tup (ds.map AR.d)),Gc (.int j),Gc ds[j].d],T,?_,rfl,hlt,rfl⟩
     simp[ct,cd])
 have fh:=KS (S:=S) (ls:=ls) (x:=t.d) (y:=.tup (ds.map AR.d)) (by lia)
 rcases fo with⟨E',S',ef,j,o1,o2,f1,f2,rfl,rfl⟩|⟨w,E',S',ef,rfl,f1,rfl⟩
 .have hz:=congrArg yZ f1
  rw[AAs,el]at hz
  simp at hz
  have e:YR ds i=.non:=by unfold YR;rw[vC (by lia)]
  rw[e]
  simp only[AK]at ef⊢
  simp[BG,Dz,fh,ef]
 .have e:YR ds i=.int i:=by unfold YR;rw[vD f1]
  rw[e]
  simp only[AK]at ef⊢
  simp[BG,Dz,fh,ef]
def XC(h:CL t ls ds):AU [AK t ls ds] S=Gc (.non,S)/\Ak [AK t ls ds] S=none:=by
 have e:=IY (S:=S) h
 constructor
 .exact MC h
 .simp[Ak,Ct,ki,Gs,Kq,Nr,Ka,e,isN,Xj]
def Yh(h:Up t ls ds i)(c:i<ds.length):AU [AK t ls ds] S=none/\Ak [AK t ls ds] S=Gc (⟨"NotDone",Gc (i:Int)⟩,S):=by
 have e:=gv (S:=S) h
 have ed:YR ds i=.int i:=by unfold YR;rw[vD c]
 rw[ed]at e
 have lg:(i:Int).natAbs.log2<1920:=by
  by_cases z:i=0
  .subst z;decide
  .rw[Nat.log2_lt (by lia)]
   have hd:=h.len
   exact uV (show(i:Int).natAbs<2^10 by lia) (vN (by decide) (by decide))
 constructor
 .simp[AU,Cz,e,isN,Ko]
 .simp[Ak,Ct,ki,Gs,Kq,Nr,Ka,Qe,e,isN,Zw,YH lg]
def Ok.add(h:Ok G B r)(g:Ok G C q):Ok G (B+C) (r+q):=by
 obtain⟨z,e1,h1⟩:=h
 obtain⟨y,e2,h2⟩:=g
 refine⟨z+y,?_,Nat.add_le_add h1 h2⟩
 push_cast
 rw[<-e1,<-e2]
 grind
def Ok.mono(h:Ok G B r)(g:B<=C):Ok G C r:=by
 obtain⟨z,e,hz⟩:=h
 exact⟨z,e,ub hz g⟩
def Ok.rG{G B N:Nat}{n:Int}(h:Ok G B r)(h0:0<=n)(h1:n<=N):Ok G (B*N) ((n:Rat)*r):=by
 obtain⟨z,e,hz⟩:=h
 refine⟨z*n.toNat,?_,AAV hz (by lia)⟩
 push_cast
 rw[Hl h0,<-e]
 grind
def Ok.int{n:Int}{N:Nat}(h0:0<=n)(h1:n<=N):Ok G (G*N) (n:Rat):=by
 have:=(Ok.one (G:=G) (B:=G) (ue _)).rG (N:=N) h0 h1
 have e:(n:Rat)*1=(n:Rat):=by grind
 rwa [e]at this
theorem OS{F:Fn}(hF:∀{j k} {p q} S,Sz j p->Sz k q->j+k<=7990->F [aD p,aD q] S=Gc (aD (p+q),S)){gs:Gd}{S:Sto}(hg:gOk gs S){X:uS D}{G B K:Nat}(hG:0<G)(gK:G<2^K)(hK:2*K<=7990):∀{rs:Wp Rat} {acc} {m} {o},Ok G (m*B) acc->(∀r∈rs,Ok G B r)->(m+rs.length)*B<2^K->∃o',Lx gs (tNm 2) (Az 1 (AF F [eV 1,eV 2])) (rs.map aD) [X,Gc (aD acc),o] S=Gc (.nx,[X,Gc (aD (acc+rs.sum)),o'],S)
 | [],acc,m,o,ha,hr,hb=>⟨o,by
     rw[wG,Jh hg,List.sum_nil]
     have:acc+0=acc:=by grind
     rw[this]⟩
 |r::rs,acc,m,o,ha,hr,hb=>by
  have h1:=hr r um
  have b1:(m+1)*B<=(m+(r::rs).length)*B:=vf _ (by simp)
  have mb:(m+1)*B=m*B+B:=by rw[Nat.succ_mul]
  have za:Sz K acc:=ha.sz hG gK (by lia)
  have zr:Sz K r:=h1.sz hG gK (by lia)
  have e:=hF S za zr (by lia)
  have ha2:Ok G ((m+1)*B) (acc+r):=by rw[mb];exact ha.add h1
  obtain⟨o',ih⟩:=OS hF hg hG gK hK (X:=X) (B:=B) (rs:=rs) (acc:=acc+r) (m:=m+1) (o:=Gc (aD r)) ha2 (λq hq=>hr q (uX _ hq)) (by
   have:m+1+rs.length=m+(r::rs).length:=by simp;lia
   rw[this];exact hb)
  refine⟨o',?_⟩
  have ea:acc+(r::rs).sum=acc+r+rs.sum:=by rw[wx];grind
  rw[ux,EE hg,ea,<-ih]
  simp[e]
theorem QX:aD 0=.tup [.int 0,.int 1]:=rfl
def Ok.nn(h:Ok G B r)(hG:0<G):0<=r:=by
 obtain⟨z,e,_⟩:=h
 have g:(0:Rat)<(G:Rat):=by exact_mod_cast hG
 have hz:(0:Rat)<=(z:Rat):=by exact_mod_cast wM z
 rcases(Rat.le_total:0<=r\/r<=0)with w|w
 .exact w
 .have:=zY w (Rat.le_of_lt g)
  rw[e,Rat.zero_mul]at this
  have z0:(z:Rat)=0:=Rat.le_antisymm this hz
  rw[z0]at e
  rcases Rat.mul_eq_zero.mp e with e|e
  .rw[e];exact Rat.le_refl
  .rw[e]at g;exact absurd g (by decide)
theorem Ze:∀{rs:Wp Rat},(∀r∈rs,0<=r)->0<=rs.sum
 | [],_=>by rw[List.sum_nil];exact Rat.le_refl
 |r::rs,h=>by
  rw[wx]
  have h1:=h r um
  have h2:=Ze λq hq=>h q (uX _ hq)
  grind
theorem ZY:∀{rs:Wp Rat} {x},(∀r∈rs,0<=r)->x∈rs->x<=rs.sum
 |r::rs,x,h,hx=>by
  rw[wx]
  have h1:=h r um
  have h2:=Ze λq hq=>h q (uX _ hq)
  rcases uZ.mp hx with e|e
  .rw[e];grind
  .have:=ZY (λq hq=>h q (uX _ hq)) e
   grind
def iD{r:Rat}(h:r<=1):r.num<=r.den:=by
 have e:=DJ r
 have d:(0:Rat)<(r.den:Rat):=by exact_mod_cast r.den_pos
 have h1:(r.num:Rat)<=(r.den:Rat):=by
  have:(r.num:Rat)=r*(r.den:Rat):=by
   have:=Hy r
   grind
  rw[this]
  have:=zY h (Rat.le_of_lt d)
  rwa [Rat.one_mul]at this
 exact_mod_cast h1
def Ym(hG:0<G)(gK:G<2^K)(hK:2*K<=7990)(hr:∀r∈rs,Ok G B r)(hb:rs.length*B<2^K):Hj [shD rs] S=Gc (aD rs.sum,S):=by
 obtain⟨o',e⟩:=OS (F:=Ez) (λS h1 h2 h3=>dm h1 h2 h3) (gs:=[]) (S:=S) AW (X:=Gc (shD rs)) (B:=B) hG gK hK (rs:=rs) (acc:=0) (m:=0) (o:=none) (by rw[Nat.zero_mul];exact Ok.zero) hr (by simpa using hb)
 have ez:(0:Rat)+rs.sum=rs.sum:=by grind
 rw[ez,QX]at e
 simp[Hj,PL,Dt,shD]at e⊢
 simp[e]
def kS(e1:evs [oa,ob] E S=Gc ([.int i,.int j],S1))(h:i<=j)(e2:oc E S1=Gc (.int k,S2)):SQ oa ob oc E S=Gc (.bl (decide (j<=k)),S2):=by
 unfold SQ
 rw[e1]
 show(if i<=j then _ else _)=_
 rw[vD h,e2]
 rfl
def P5:Cn [.int i] S=Gc (.bl true,S):=by
 have k1:St.Kd.int.isA "int"=true:=by decide
 have k2:St.Kd.int.isA "bool"=false:=by decide
 simp[k1,k2,Cn,Fq,kdW]
def J1:Bp [.int i,.int j] S=Gc (.bl (decide (j<=i)),S):=by
 have e:=P5 (S:=S) (i:=i)
 simp[Bp,GU,e]
def within_int:Ac [.int i,.int j,.int k] S=Gc (.bl (decide (j<=i) && decide (i<=k)),S):=by
 have e:=J1 (S:=S) (i:=i) (j:=j)
 by_cases h:j<=i
 .simp[Ac,Dp,e,h]
 .simp[Ac,Dp,e,h]
def PJ(h0:0<=r)(h1:r<=1):CZ [aD r] S=Gc (.bl true,S):=by
 have g:=Zb (S:=S) r.num r.den
 have ge:Oy r.num r.den=1:=by
  have:=r.reduced
  unfold Nat.Coprime at this
  simp[Oy,this]
 rw[ge]at g
 have n0:0<=r.num:=Rat.num_nonneg.mpr h0
 have n1:=iD h1
 have d1:(1:Int)<=r.den:=by have:=r.den_pos;omega
 have w:=P5 (S:=S) (i:=r.num)
 have f:=J1 (S:=S) (i:=r.den) (j:=1)
 have k3:St.Kd.tup.isA "tuple"=true:=by decide
 have am:Ey [aD r] S=Gc (.bl true,S):=by
  simp[Ey,Jf,aD,kdW,k3,w,f,d1,g]
 have ll:SQ (eC (.int 0)) (eOp (o2 wIx) [eV 0,eC (.int 0)]) (eOp (o2 wIx) [eV 0,eC (.int 1)]) [Gc (aD r)] S=Gc (.bl true,S):=by
  rw[kS (i:=0) (j:=r.num) (k:=r.den) (S1:=S) (S2:=S) (by simp[aD]) n0 (by simp[aD])]
  simp[n1]
 simp[CZ,Ku,am,ll]
def mR{α:Type}{f:Ev}{e:α->D}{C:En}{os:En}{xs:Wp α}(hg:gOk gs S)(hz:xs.length<=1000)(hm:os.length=m)(h:∀x∈xs,∀os,os.length=m->∃us,us.length=m/\t (e x) (C++os) S=Gc (C++us)/\f (C++us) S=Gc (.bl true,S)):∃r,BZ gs t BI f (xs.map e) [] (C++os) S=Gc (r,S)/\(bls r).map (λbs=>bs.all id)=Gc true:=by
 have:=EN (gs:=gs) (t:=t) (f:=f) (C:=C) (m:=m) (e:=e) (g:=λ_=>D.bl true) (S:=S) hg (xs:=xs) (acc:=[]) (os:=os) hm (AJ (by simpa using hz)) h
 refine⟨_,this,?_⟩
 rw[vK,QW (λ_=>true)]
 simp
def Pj{rs:Wp Rat}(hp:rs.length=P)(h4:P<=4)(hG:0<G)(gK:G<2^K)(hK:2*K<=7990)(hr:∀r∈rs,Ok G B r)(hb:4*B<2^K)(hs:rs.sum=1):C8 [.int P,shD rs] S=Gc (.bl true,S):=by
 have nn:∀r∈rs,0<=r:=λr hr'=>(hr r hr').nn hG
 have le1:∀r∈rs,r<=1:=λr hr'=>by rw[<-hs];exact ZY nn hr'
 have k3:St.Kd.tup.isA "tuple"=true:=by decide
 have T:=Ym (S:=S) hG gK hK hr (vM (vf _ (by omega)) hb)
 rw[hs,Y9]at T
 obtain⟨bs,e1,e2⟩:=mR (S:=S) (f:=AF CZ [eV 0]) (e:=aD) (C:=[]) (os:=[none]) (xs:=rs) (gs:=[]) (t:=tNm 0) AW (by omega) rfl (by
  intro r hr' os ho
  match os,ho with
  | [a],_=>
  refine⟨[Gc (aD r)],rfl,by simp,?_⟩
  have:=PJ (S:=S) (nn r hr') (le1 r hr')
  simp[this])
 have T2:Hj [D.tup (rs.map aD)] S=Gc (.tup [.int 1,.int 1],S):=T
 have it:Ah [shD rs,.int P] S=Gc (.bl true,S):=by
  simp[Ah,Cj,shD,kdW,k3,hp]
 have hE:Ou (.tup [.int 1,.int 1]) OW=true:=rfl
 have hD:deq (.tup [.int 1,.int 1]) OW=true:=rfl
 simp only[vK]at e1
 obtain⟨b',e3,e4⟩:=xH.mp e2
 have hk:dr S OW=.val OW:=rfl
 simp[C8,Ic,it]
 simp[shD,NB,e1,e3,e4,T2,hk,hE,hD]
def Ti{x:Ld}(ht:IB t)(h1:x.k<t.k)(h2:0<=x.n)(hp:x.ow.length=t.p)(hG:0<G)(gK:G<2^K)(hK:2*K<=7990)(hr:∀r∈x.ow,Ok G B r)(hb:4*B<2^K)(hs:x.ow.sum=1):D9 [t.d,x.d] S=Gc (.bl true,S):=by
 have O:=Pj (S:=S) hp ht.2.1 hG gK hK hr hb hs
 have k3:St.Kd.tup.isA "tuple"=true:=by decide
 have it:Ah [x.d,.int 3] S=Gc (.bl true,S):=by
  simp[Ah,Cj,Ld.d,kdW,k3]
 have w:=within_int (S:=S) (i:=x.k) (j:=0) (k:=(t.k:Int)-1)
 have w1:(x.k:Int)<=(t.k:Int)-1:=by omega
 have f:=J1 (S:=S) (i:=x.n) (j:=0)
 have ik:DP [t.d,.int x.k] S=Gc (.bl true,S):=by
  simp[DP,JL,Tr.d,w,w1]
 simp[D9,Ln,it]
 generalize hsd:shD x.ow=sd at*
 have:x.d=.tup [.int x.k,.int x.n,sd]:=by rw[<-hsd];rfl
 rw[this]
 simp[ik,f,h2]
 simp[Tr.d,O]
def Raw(t:Tr):AR->Prop
 | .CT _ _ n=>n<2^131
 | .GP _ _=>AAF
 | .swap _ _ _ n=>n<2^131
 | .Bx u _ _ _ n=>n<2^131/\0<=u/\u<=9
 | .CW _ _=>AAF
 | .thr _ _ ws=>ws.length=t.k+1/\∀w∈ws,1<=w/\w<=99
 | .Fe _ _ x=>0<x.num/\x.num<=x.den/\x.den<=12
noncomputable def isB(t:Tr):AR->va
 | .CT p k n=>decide (p<t.p) && (decide (k<t.k) && decide (1<=n))
 | .GP a b=> !(a==b)
 | .swap _ g k n=>decide (1<=g) && (decide (k<t.k) && decide (1<=n))
 | .Bx _ _ g k n=>decide (1<=g) && (decide (k<t.k) && decide (1<=n))
 | .CW _ n=>decide (1<=n)
 | .thr _ n _=>decide (1<=n)
 | .Fe p q _=>decide (p<t.p) && (decide (q<t.p) && !(p==q))
def YL(h:Raw t d)(b:isB t d=true):Wf t d:=by
 cases d with
 |CT p k n=>simp[isB]at b;exact⟨b.1,b.2.1,b.2.2,h⟩
 |GP x y=>simp[isB]at b;exact b
 |swap l g k n=>simp[isB]at b;exact⟨b.1,b.2.1,b.2.2,h⟩
 |Bx u l g k n=>simp[isB]at b;exact⟨b.1,b.2.1,b.2.2,h.1,h.2⟩
 |CW l n=>simp[isB]at b;exact b
 |thr l n ws=>simp[isB]at b;exact⟨b,h⟩
 |Fe p q x=>simp[isB]at b;exact⟨b.2.2,b.1,b.2.1,h⟩
def ir(h:Wf t d):Raw t d/\isB t d=true:=by
 cases d with
 |CT p k n=>exact⟨h.2.2.2,by simp[isB,h.1,h.2.1,h.2.2.1]⟩
 |GP x y=>exact⟨trivial,by simp[isB,show x≠y from h]⟩
 |swap l g k n=>exact⟨h.2.2.2,by simp[isB,h.1,h.2.1,h.2.2.1]⟩
 |Bx u l g k n=>exact⟨⟨h.2.2.2.1,h.2.2.2.2⟩,by simp[isB,h.1,h.2.1,h.2.2.1]⟩
 |CW l n=>exact⟨trivial,by simp[isB,show 1<=n from h]⟩
 |thr l n ws=>exact⟨h.2,by simp[isB,h.1]⟩
 |Fe p q x=>exact⟨h.2.2.2,by simp[isB,h.1,h.2.1,h.2.2.1]⟩
section
variable{S:Sto}{t:Tr}{w:Str}
def JX(h1:((at? E i).isNone && decide (i<E.length))=true)(h2:at? E j=Gc (.str p))(h3:tbl.lookup p=Gc G):jz tbl i j fs E S=AZ (AF G fs) E S:=by
 unfold jz
 rw[vD h1,h2,A3]
 dsimp only
 rw[h3,A3]
@[simp] def eO:List.lookup (Str.ofString "partner") Ew=some CN:=nr rfl
@[simp] def mv:List.lookup (Str.ofString "kind") Ew=some DP:=nr rfl
@[simp] def oC:List.lookup (Str.ofString "load") Ew=some CS:=nr rfl
@[simp] def j4:List.lookup (Str.ofString "number") Ew=some CC:=nr rfl
@[simp] def gz:List.lookup (Str.ofString "pieces") Ew=some EM:=nr rfl
@[simp] def kO:List.lookup (Str.ofString "worths") Ew=some EV:=nr rfl
@[simp] def mM:List.lookup (Str.ofString "share") Ew=some Cw:=nr rfl
def gW{i:Nat}:Al [t.d,.str "partner",.int i] S=Gc (.bl (decide (i<t.p)),S):=by
 have e:=within_int (S:=S) (i:=i) (j:=0) (k:=(t.p:Int)-1)
 have q:(decide ((0:Int)<=i) && decide ((i:Int)<=(t.p:Int)-1))=decide (i<t.p):=by
  rw[wg];simp;lia
 rw[q]at e
 simp[Al,Co,JX,CN,F3,Tr.d,e]
def fH{i:Nat}:Al [t.d,.str "kind",.int i] S=Gc (.bl (decide (i<t.k)),S):=by
 have e:=within_int (S:=S) (i:=i) (j:=0) (k:=(t.k:Int)-1)
 have q:(decide ((0:Int)<=i) && decide ((i:Int)<=(t.k:Int)-1))=decide (i<t.k):=by
  rw[wg];simp;lia
 rw[q]at e
 simp[Al,Co,JX,DP,JL,Tr.d,e]
def gm{i:Nat}:Al [t.d,.str "load",.int i] S=Gc (.bl true,S):=by
 have e:=J1 (S:=S) (i:=i) (j:=0)
 have q:decide ((0:Int)<=i)=true:=by simp
 rw[q]at e
 generalize t.d=T
 simp[Al,Co,JX,CS,Ft,e]
def kF(h0:0<=u)(h1:u<=9):Al [t.d,.str "number",.int u] S=Gc (.bl true,S):=by
 have e:=within_int (S:=S) (i:=u) (j:=0) (k:=9)
 generalize t.d=T
 simp[Al,Co,JX,CC,FU,e,h0,h1]
def jF:Al [t.d,.str "pieces",.int n] S=Gc (.bl (decide (1<=n)),S):=by
 have e:=J1 (S:=S) (i:=n) (j:=1)
 generalize t.d=T
 simp[Al,Co,JX,EM,Im,e]
def ia{ws:Wp Int}(h:ws.length=t.k+1)(hk:t.k<=5)(hw:∀w∈ws,1<=w/\w<=99):Al [t.d,.str "worths",.tup (ws.map .int)] S=Gc (.bl true,S):=by
 have k3:St.Kd.tup.isA "tuple"=true:=by decide
 obtain⟨bs,e1,e2⟩:=mR (S:=S) (f:=AF Ac [eV 0,eI 1,eI 99]) (e:=D.int) (C:=[]) (os:=[none]) (xs:=ws) (gs:=[]) (t:=tNm 0) AW (by lia) rfl (by
  intro r hr' os ho
  obtain⟨a,rfl⟩:=NC ho
  have:=within_int (S:=S) (i:=r) (j:=1) (k:=99)
  exact⟨[Gc (.int r)],rfl,by simp,by simp[this,hw r hr']⟩)
 have it:Ah [.tup (ws.map .int),.int ((t.k:Int)+1)] S=Gc (.bl true,S):=by
  have:((ws.length:Int)==(t.k:Int)+1)=true:=by rw[h];simp
  simp[Ah,Cj,kdW,k3,this]
 simp only[vK]at e1
 obtain⟨b',e3,e4⟩:=xH.mp e2
 have v:EU [.tup (ws.map .int),.int ((t.k:Int)+1)] S=Gc (.bl true,S):=by
  simp[EU,Ik,it]
  simp[NB,e1,e3,e4]
 simp[Al,Co,JX,EV,Ij,Tr.d,v]
def fm(h0:0<x.num)(h1:x.num<=x.den)(h2:x.den<=12):Al [t.d,.str "share",aD x] S=Gc (.bl true,S):=by
 have nn:0<=x:=Rat.num_nonneg.mp (by lia)
 have l1:x<=1:=by rw[Rat.le_iff];simpa using h1
 have e:=PJ (S:=S) nn l1
 have h2':(x.den:Int)<=12:=by exact_mod_cast h2
 generalize t.d=T
 have e':CZ [.tup [.int x.num,.int x.den]] S=Gc (.bl true,S):=e
 simp[Al,Co,JX,Cw,GF,aD,e',h0,h2']
@[simp] def qh{t:Tf}:BZ [] t c f [] acc E S=some (acc,S):=DA AW
def eJ{t:Tf}(h:acc.length<20)(e:t d E S=Gc E1)(g:f E1 S=Gc (y,S)):BZ [] t BI f (d::ds) acc E S=BZ [] t BI f ds (acc++[y]) E1 S:=by
 rw[FH AW (uV h (AJ (by decide))) e Ds,g,A3]
def pC:=AF Al [eV 0,eV 3,eIx (eV 1) (eOp (o2 CM) [eV 2,eI 1])]
def pT:=AN (xIf (E7 (eOp (o1 Ww) [Be [0,1] 2 (eA (eV 3)) (tTp [tNm 2,tNm 3]) BI pC])) (AZ (eC (.bl false))) BO) (AZ (eOr (eOp (o2 (wIn true)) [eV 2,eC Bs]) (eOp (o2 wNe) [eIx (eV 1) (eI 1),eIx (eV 1) (eI 2)])))
def XA(hf:vm w El=Gc (.tup form))(hl:xs.length=form.length):A9 [T,.tup (.str w::xs)] S=(pT [Gc T,Gc (.tup (.str w::xs)),Gc (.str w),Gc (.tup form)] S).map λr=>(flD r.1,r.2.2):=by
 have h1:(((form.length:Nat):Int)+1==0)=false:=vc.mpr (by lia)
 have eb:Li=(AN (xIf (eOr (E7 (eOp (o2 QH) [eV 1,eC (.ty "tuple")])) (eOp (o2 wEq) [eOp (o1 Eu) [eV 1],eI 0])) (AZ (eC (.bl false))) BO)
  (AN (Az 2 (eIx (eV 1) (eI 0)))
  (AN (xIf (eOr (E7 (eOp (o2 QH) [eV 2,eC (.ty "str")])) (eOp (o1 (NS true El)) [eV 2])) (AZ (eC (.bl false))) BO)
  (AN (Az 3 (eOp (o1 (gE El)) [eV 2]))
  (AN (xIf (eOp (o2 wNe) [eOp (o1 Eu) [eV 1],eOp (o2 CM) [eOp (o1 Eu) [eV 3],eI 1]]) (AZ (eC (.bl false))) BO)
  pT))))):=rfl
 have k1:St.Kd.tup.isA "tuple"=true:=by decide
 have k2:St.Kd.str.isA "str"=true:=by decide
 have t1:NS true El (.val (.str w))=Gc (.val (.bl false)):=by
  show Gc (Wv.val (.bl (!(vm w El).isSome)))=_
  rw[hf];rfl
 have t2:gE El (.val (.str w))=Gc (.val (.tup form)):=by
  show(vm w El).map Wv.val=_
  rw[hf];rfl
 simp[A9,eb,k1,k2,kdW,t1,t2,h1,hl]
def X3{bs:Wp va}(hc:BZ [] (tTp [tNm 2,tNm 3]) BI pC (Mr 0 form) [] [Gc T,Gc (.tup (.str w::xs)),none,none] S=Gc (bs.map .bl,S))(hu:bs.all id=true->(eOr (eOp (o2 (wIn true)) [eV 2,eC Bs]) (eOp (o2 wNe) [eIx (eV 1) (eI 1),eIx (eV 1) (eI 2)])) [Gc T,Gc (.tup (.str w::xs)),Gc (.str w),Gc (.tup form)] S=Gc (.bl u,S)):pT [Gc T,Gc (.tup (.str w::xs)),Gc (.str w),Gc (.tup form)] S=Gc (.ret (.bl (bs.all id && u)),[Gc T,Gc (.tup (.str w::xs)),Gc (.str w),Gc (.tup form)],S):=by
 have b1:bls (bs.map D.bl)=Gc bs:=by have:=QW (λx:va=>x) (xs:=bs);simpa using this
 generalize hz:(eOr (eOp (o2 (wIn true)) [eV 2,eC Bs]) (eOp (o2 wNe) [eIx (eV 1) (eI 1),eIx (eV 1) (eI 2)]))=Z at hu
 cases q:bs.all id with
 |false=>simp[pT,NB,hc,b1,q]
 |true=>simp[pT,NB,hc,b1,q,hz,hu q]
end
section
variable{S:Sto}{t:Tr}{d:AR}
def PR(T:D)(S:Sto):Wp D->Wp D->Wp va->Prop
 | [],ys,bs=>ys=[]/\bs=[]
 |f::fs,ys,bs=>∃y ys' b bs',ys=y::ys'/\bs=b::bs'/\Al [T,f,y] S=Gc (.bl b,S)/\PR T S fs ys' bs'
theorem Ru:∀{form ys} {bs} {k} {acc} {o2 o3},PR T S form ys bs->L.drop (k+1)=ys->acc.length+form.length<=20->BZ [] (tTp [tNm 2,tNm 3]) BI pC (Mr k form) acc [Gc T,Gc (.tup L),o2,o3] S=Gc (acc++bs.map .bl,S)
 | [],ys,bs,k,acc,o2,o3,h,hd,hl=>by
   obtain⟨rfl,rfl⟩:=h
   simp[Mr]
 |f::fs,ys,bs,k,acc,o2,o3,h,hd,hl=>by
  obtain⟨y,ys',b,bs',rfl,rfl,hp,h⟩:=h
  have a:atI L ((k:Int)+1)=Gc y:=by
   have:L[k+1]?=Gc y:=by
    have:=congrArg (λz=>z[0]?) hd
    simpa using this
   have:=B2 (n:=k+1) this
   exact_mod_cast this
  have hd':L.drop (k+1+1)=ys':=by
   have:=congrArg List.tail hd
   simpa using this
  simp only[Mr]
  rw[eJ (E1:=[Gc T,Gc (.tup L),Gc (.int k),Gc f]) (y:=.bl b) (by simp at hl;lia) (by simp) (by simp[pC,a,hp]),Ru h hd' (by simp at hl ⊢; lia)]
  simp
noncomputable def formOf:AR->Wp D
 | .CT .. =>[.str "partner",.str "kind",.str "pieces"]
 | .GP .. =>[.str "load",.str "load"]
 | .swap .. =>[.str "load",.str "pieces",.str "kind",.str "pieces"]
 | .Bx .. =>[.str "number",.str "load",.str "pieces",.str "kind",.str "pieces"]
 | .CW .. =>[.str "load",.str "pieces"]
 | .thr .. =>[.str "load",.str "pieces",.str "worths"]
 | .Fe .. =>[.str "partner",.str "partner",.str "share"]
def RK{a b:Nat}:(!((a:Int)==(b:Int)))= !(a==b):=by rw[KP]
def JD(hf:vm w El=Gc (.tup form))(hl:form.length<=20)(hp:PR T S form xs bs)(hlen:xs.length=form.length)(hu:(eOr (eOp (o2 (wIn true)) [eV 2,eC Bs]) (eOp (o2 wNe) [eIx (eV 1) (eI 1),eIx (eV 1) (eI 2)])) [Gc T,Gc (.tup (.str w::xs)),Gc (.str w),Gc (.tup form)] S=Gc (.bl u,S)):A9 [T,.tup (.str w::xs)] S=Gc (.bl (bs.all id && u),S):=by
 rw[XA hf hlen,X3 (by have:=Ru (L:=.str w::xs) (k:=0) (acc:=[]) (o2:=none) (o3:=none) hp rfl (by simpa using hl);simpa using this) λ_=>hu]
 rfl
def NK(ht:IB t)(h:Raw t d):A9 [t.d,d.d] S=Gc (.bl (isB t d),S):=by
 obtain⟨t1,t2,t3,t4,t5,t6⟩:=ht
 have pp:=λi:Nat=>gW (S:=S) (t:=t) (i:=i)
 have pk:=λi:Nat=>fH (S:=S) (t:=t) (i:=i)
 have pl:=λi:Nat=>gm (S:=S) (t:=t) (i:=i)
 have pn:=λn:Int=>jF (S:=S) (t:=t) (n:=n)
 have kU:dr S Bs=.val Bs:=rfl
 cases d with
 |CT p k n=>
  have:=JD (T:=t.d) (w:="bring") (xs:=[.int p,.int k,.int n]) (bs:=[decide (p<t.p),decide (k<t.k),decide (1<=n)]) (u:=true) (S:=S) (form:=formOf (.CT p k n)) (nr rfl) (by simp[formOf]) ⟨_,_,_,_,rfl,rfl,pp p,_,_,_,_,rfl,rfl,pk k,_,_,_,_,rfl,rfl,pn n,rfl,rfl⟩ rfl (by
   generalize t.d=T
   have e:wIn true (.val (.str "bring")) (.val Bs)=Gc (.val (.bl true)):=nr rfl
   simp[kU,e])
  rw[show(AR.CT p k n).d=.tup (.str "bring" :: [.int p,.int k,.int n])from rfl,this]
  simp[isB]
 |GP a b=>
  have:=JD (T:=t.d) (w:="pool") (xs:=[.int a,.int b]) (bs:=[true,true]) (u:= !(a==b)) (S:=S) (form:=formOf (.GP a b)) (nr rfl) (by simp[formOf]) ⟨_,_,_,_,rfl,rfl,pl a,_,_,_,_,rfl,rfl,pl b,rfl,rfl⟩ rfl (by
   generalize t.d=T
   have e:wIn true (.val (.str "pool")) (.val Bs)=Gc (.val (.bl false)):=nr rfl
   simp[kU,e,RK])
  rw[show(AR.GP a b).d=.tup (.str "pool" :: [.int a,.int b])from rfl,this]
  simp[isB]
 |swap l g k n=>
  have:=JD (T:=t.d) (w:="swap") (xs:=[.int l,.int g,.int k,.int n]) (bs:=[true,decide (1<=g),decide (k<t.k),decide (1<=n)]) (u:=true) (S:=S) (form:=formOf (.swap l g k n)) (nr rfl) (by simp[formOf]) ⟨_,_,_,_,rfl,rfl,pl l,_,_,_,_,rfl,rfl,pn g,_,_,_,_,rfl,rfl,pk k,_,_,_,_,rfl,rfl,pn n,rfl,rfl⟩ rfl (by
   generalize t.d=T
   have e:wIn true (.val (.str "swap")) (.val Bs)=Gc (.val (.bl true)):=nr rfl
   simp[kU,e])
  rw[show(AR.swap l g k n).d=.tup (.str "swap" :: [.int l,.int g,.int k,.int n])from rfl,this]
  simp[isB]
 |Bx u l g k n=>
  have:=JD (T:=t.d) (w:="trade") (xs:=[.int u,.int l,.int g,.int k,.int n]) (bs:=[true,true,decide (1<=g),decide (k<t.k),decide (1<=n)]) (u:=true) (S:=S) (form:=formOf (.Bx u l g k n)) (nr rfl) (by simp[formOf]) ⟨_,_,_,_,rfl,rfl,kF h.2.1 h.2.2,_,_,_,_,rfl,rfl,pl l,_,_,_,_,rfl,rfl,pn g,_,_,_,_,rfl,rfl,pk k,_,_,_,_,rfl,rfl,pn n,rfl,rfl⟩ rfl (by
   generalize t.d=T
   have e:wIn true (.val (.str "trade")) (.val Bs)=Gc (.val (.bl true)):=nr rfl
   simp[kU,e])
  rw[show(AR.Bx u l g k n).d=.tup (.str "trade" :: [.int u,.int l,.int g,.int k,.int n])from rfl,this]
  simp[isB]
 |CW l n=>
  have:=JD (T:=t.d) (w:="spoil") (xs:=[.int l,.int n]) (bs:=[true,decide (1<=n)]) (u:=true) (S:=S) (form:=formOf (.CW l n)) (nr rfl) (by simp[formOf]) ⟨_,_,_,_,rfl,rfl,pl l,_,_,_,_,rfl,rfl,pn n,rfl,rfl⟩ rfl (by
   generalize t.d=T
   have e:wIn true (.val (.str "spoil")) (.val Bs)=Gc (.val (.bl true)):=nr rfl
   simp[kU,e])
  rw[show(AR.CW l n).d=.tup (.str "spoil" :: [.int l,.int n])from rfl,this]
  simp[isB]
 |thr l n ws=>
  have:=JD (T:=t.d) (w:="throw") (xs:=[.int l,.int n,.tup (ws.map .int)]) (bs:=[true,decide (1<=n),true]) (u:=true) (S:=S) (form:=formOf (.thr l n ws)) (nr rfl) (by simp[formOf]) ⟨_,_,_,_,rfl,rfl,pl l,_,_,_,_,rfl,rfl,pn n,_,_,_,_,rfl,rfl,ia h.1 t4 h.2,rfl,rfl⟩ rfl (by
   generalize t.d=T
   have e:wIn true (.val (.str "throw")) (.val Bs)=Gc (.val (.bl true)):=nr rfl
   simp[kU,e])
  rw[show(AR.thr l n ws).d=.tup (.str "throw" :: [.int l,.int n,.tup (ws.map .int)])from rfl,this]
  simp[isB]
 |Fe p q x=>
  have:=JD (T:=t.d) (w:="sell") (xs:=[.int p,.int q,aD x]) (bs:=[decide (p<t.p),decide (q<t.p),true]) (u:= !(p==q)) (S:=S) (form:=formOf (.Fe p q x)) (nr rfl) (by simp[formOf]) ⟨_,_,_,_,rfl,rfl,pp p,_,_,_,_,rfl,rfl,pp q,_,_,_,_,rfl,rfl,fm h.1 h.2.1 h.2.2,rfl,rfl⟩ rfl (by
   generalize t.d=T
   have e:wIn true (.val (.str "sell")) (.val Bs)=Gc (.val (.bl false)):=nr rfl
   simp[kU,e,RK])
  rw[show(AR.Fe p q x).d=.tup (.str "sell" :: [.int p,.int q,aD x])from rfl,this]
  simp[isB,Bool.and_assoc]
def gG(e1:evs [oa,ob] E S=Gc ([.int i,.int j],S1))(h:i<=j)(e2:oc E S1=Gc (.int k,S2)):Qh oa ob oc E S=Gc (.bl (decide (j<k)),S2):=by
 unfold Qh
 rw[e1]
 show(if i<=j then _ else _)=_
 rw[vD h,e2]
 rfl
def Lb{l k:Nat}:Cv [t.d,.int l,.int g,.int k,.int n] S=Gc (.bl (decide (1<=g) && (decide (k<t.k) && decide (1<=n))),S):=by
 have e1:(Qh (eI 0) (eV 3) (eIx (eV 0) (eI 1))) [Gc t.d,Gc (.int l),Gc (.int g),Gc (.int k),Gc (.int n)] S=Gc (.bl (decide (k<t.k)),S):=by
  rw[gG (i:=0) (j:=k) (k:=t.k) (S1:=S) (S2:=S) (by simp) (by simp) (by simp[Tr.d])]
  simp
 generalize hz:(Qh (eI 0) (eV 3) (eIx (eV 0) (eI 1)))=Z at e1
 have g1:decide (g>0)=decide (1<=g):=by rw[wg];simp;lia
 have eb:GD=(AZ (D7 (eOp (o2 wGe) [eV 1,eI 0]) (D7 (eOp (o2 wGt) [eV 2,eI 0]) (D7 Z (eOp (o2 wGt) [eV 4,eI 0]))))):=by rw[<-hz];rfl
 generalize t.d=T at*
 by_cases h1:1<=g<;>by_cases h2:k<t.k<;>by_cases h3:1<=n<;>
  (have a1:(0<g)=(1<=g):=by simp;lia
   have a3:(0<n)=(1<=n):=by simp;lia
   simp[Cv,eb,e1,h1,h2,h3,a1,a3])
def NA(h:Raw t d):A7 [t.d,d.d] S=Gc (.bl (isB t d),S):=by
 cases d with
 |CT p k n=>
  have c1:IJ [D.str (u9 "bring"),D.int p,D.int k,D.int n] (Gc 1) none=[.int p,.int k,.int n]:=nr rfl
  have a3:(0<n)=(1<=n):=by simp;lia
  by_cases h1:p<t.p<;>by_cases h2:k<t.k<;>simp[A7,Bk,AR.d,Tr.d,isB,c1,h1,h2,a3]
 |GP a b=>
  have c1:IJ [D.str (u9 "pool"),D.int a,D.int b] (Gc 1) none=[.int a,.int b]:=nr rfl
  simp[A7,Bk,AR.d,isB,c1,RK]
 |swap l g k n=>
  have c1:IJ [D.str (u9 "swap"),D.int l,D.int g,D.int k,D.int n] (Gc 1) none=[.int l,.int g,.int k,.int n]:=nr rfl
  have c2:IJ [D.int l,D.int g,D.int k,D.int n] (Gc (-4)) none=[.int l,.int g,.int k,.int n]:=nr rfl
  have e:=Lb (S:=S) (t:=t) (l:=l) (k:=k) (g:=g) (n:=n)
  generalize t.d=T at*
  simp[A7,Bk,AR.d,isB,c1,c2,e]
 |Bx u l g k n=>
  have c1:IJ [D.str (u9 "trade"),D.int u,D.int l,D.int g,D.int k,D.int n] (Gc 1) none=[.int u,.int l,.int g,.int k,.int n]:=nr rfl
  have c2:IJ [D.int u,D.int l,D.int g,D.int k,D.int n] (Gc (-4)) none=[.int l,.int g,.int k,.int n]:=nr rfl
  have e:=Lb (S:=S) (t:=t) (l:=l) (k:=k) (g:=g) (n:=n)
  generalize t.d=T at*
  simp[A7,Bk,AR.d,isB,c1,c2,e]
 |CW l n=>
  have c1:IJ [D.str (u9 "spoil"),D.int l,D.int n] (Gc 1) none=[.int l,.int n]:=nr rfl
  have a3:(0<n)=(1<=n):=by simp;lia
  simp[A7,Bk,AR.d,isB,c1,a3]
 |thr l n ws=>
  have c1:IJ [D.str (u9 "throw"),D.int l,D.int n,D.tup (ws.map .int)] (Gc 1) none=[.int l,.int n,.tup (ws.map .int)]:=nr rfl
  have a3:(0<n)=(1<=n):=by simp;lia
  simp[A7,Bk,AR.d,isB,c1,a3]
 |Fe p q x=>
  have c1:IJ [D.str (u9 "sell"),D.int p,D.int q,aD x] (Gc 1) none=[.int p,.int q,aD x]:=nr rfl
  by_cases h1:p<t.p<;>by_cases h2:q<t.p<;>simp[A7,Bk,AR.d,Tr.d,isB,c1,h1,h2,RK]
end
section
variable{S:Sto}{E:En}{C f m:Str}{o v:Ev}{fs:Wp Ev}{F:Fn}{R:Rf}
@[simp] def kl:Og C f o E S=(o E S).bind λr=>(KH r.2 C r.1).bind λas=>(as.lookup f).map λd=>(d,r.2):=nr rfl
@[simp] def jT:HQ C m F o fs E S=(o E S).bind λr=>(KH r.2 C r.1).bind λas=>if(as.lookup m).isNone=true then(evs fs E r.2).bind λq=>F (r.1::q.1) q.2 else none:=nr rfl
def UH:Sq C m R o fs E S=(o E S).bind λr=>(KH r.2 C r.1).bind λas=>if(as.lookup m).isNone=true then(evs fs E r.2).bind λq=>(R (r.1::q.1) q.2).map λz=>(z.1,E,z.2)else none:=nr rfl
def Qs(e1:v E S=Gc (d,S1))(e2:o E S1=Gc (.ref n,S2))(e3:S2[n]?=Gc (.ins C as))(hl:as.length<1000):YE C f o v E S=Gc (.nx,E,S2.set n (.ins C (Lf f d as))):=by
 unfold YE
 rw[e1,A3,e2,A3,R0 e3,A3]
 exact vD hl
end
noncomputable def lds(b:D)(q:Nat):Wp (Str×D):=[("kept",b),("earlier",.ref q)]
@[simp] def sO:(lds b q).lookup (Str.ofString "kept")=some b:=nr rfl
@[simp] def tH:(lds b q).lookup (Str.ofString "earlier")=some (.ref q):=nr rfl
noncomputable def lead(b:D)(q:Nat):Cl:=.ins "Leader" (lds b q)
structure LAt(S:Sto)(L q:Nat)(b:D)(m:Nat):Prop where
 ob:S[L]?=Gc (lead b q)
 er:∃es,S[q]?=Gc (.lst es)/\es.length<=m
section
variable{S S':Sto}{L q m:Nat}{b b':D}
def LAt.ne(h:LAt S L q b m):q≠L:=λz=>by
 obtain⟨es,e,_⟩:=h.er
 rw[z,h.ob]at e
 cases e
def LAt.ins(h:LAt S L q b m):KH S "Leader" (.ref L)=Gc (lds b q):=R0 h.ob
def LAt.kept(h:LAt S L q b m)(e:at? E i=Gc (.ref L)):Og "Leader" "kept" (eV i) E S=Gc (b,S):=by
 simp[eV,e,h.ins]
def LAt.same(h:LAt S L q b m)(s:Bq [] S S'):LAt S' L q b m:=⟨s.get h.ob (by simp),let⟨es,e,l⟩:=h.er;⟨es,s.get e (by simp),l⟩⟩
def aZ(h:LAt S L q b m)(hm:m<1000):∃S',A5 [.ref L,b'] S=Gc (.non,S')/\LAt S' L q b' (m+1)/\Bq [L,q] S S':=by
 obtain⟨es,e,l⟩:=h.er
 have ne:=h.ne
 have hq:=Ai e
 have hL:=Ai h.ob
 have i1:=h.ins
 have c1:=AQ e
 have sz:es.length<sizeLine:=vM l (uV hm (AJ (by decide)))
 have o1:(S.set q (.lst (es++[b])))[L]?=Gc (lead b q):=by rw[uW ne];exact h.ob
 have x:=Qs (d:=b') (n:=L) (f:="kept") (E:=[Gc (D.ref L),Gc b']) (o:=eV 0) (v:=eV 1) (S:=S.set q (.lst (es++[b]))) (C:="Leader") (S1:=S.set q (.lst (es++[b]))) (S2:=S.set q (.lst (es++[b]))) (by simp) (by simp) o1 (by simp[lds])
 refine⟨(S.set q (.lst (es++[b]))).set L (lead b' q),?_,⟨ui (by simpa using hL),es++[b],?_,by simp;exact l⟩,(Bq.set (by simp)).trans (.set (by simp))⟩
 .generalize hz:YE "Leader" "kept" (eV 0) (eV 1)=Z at x
  have eb:Fh=(AN (Bm (NH NV (Og "Leader" "earlier" (eV 0)) [Og "Leader" "kept" (eV 0)])) Z):=by rw[<-hz];rfl
  have x':Z [Gc (D.ref L),Gc b'] (S.set q (.lst (es++[b])))=Gc (.nx,[Gc (D.ref L),Gc b'],(S.set q (.lst (es++[b]))).set L (lead b' q)):=x
  simp[A5,eb,i1,c1,sz,x']
 .rw[uW ne.symm]
  exact ui (by simpa using hq)
def dR(h:LAt S L q b m):Ck [.ref L] S=Gc (b,S):=by
 have e:=h.kept (E:=[Gc (.ref L)]) (i:=0) rfl
 generalize hz:Og "Leader" "kept" (eV 0)=Z at e
 have eb:Hr=AZ Z:=by rw[<-hz];rfl
 simp[Ck,eb,e]
end
section
variable{S:Sto}{t:Tr}{st:Stt}{d:AR}{ls:Wp Ld}{ds:Wp AR}
noncomputable def makes:AR->va
 | .CT _ _ _=>true
 | .GP _ _=>true
 | .swap _ _ _ _=>true
 | .Bx _ _ _ _ _=>true
 | .CW _ _=>false
 | .thr _ _ _=>false
 | .Fe _ _ _=>false
noncomputable def wordOf:AR->Str
 | .CT _ _ _=>"bring"
 | .GP _ _=>"pool"
 | .swap _ _ _ _=>"swap"
 | .Bx _ _ _ _ _=>"trade"
 | .CW _ _=>"spoil"
 | .thr _ _ _=>"throw"
 | .Fe _ _ _=>"sell"
def WJ(d:AR):∃r,d.d=.tup (.str (wordOf d)::r):=by
 cases d<;>exact⟨_,rfl⟩
def VY:wIn true (.val (.str (wordOf d))) (.val BS)=Gc (.val (.bl (!makes d))):=by
 cases d<;>exact nr rfl
def TB:wIn false (.val (.str (wordOf d))) (.val BS)=Gc (.val (.bl (makes d))):=by
 cases d<;>exact nr rfl
def WI:wIn false (.val (.str (wordOf d))) (.val (.tup [.str "bring",.str "pool",.str "swap",.str "trade"]))=Gc (.val (.bl (makes d))):=by
 cases d<;>exact nr rfl
noncomputable def cnt(ls:Wp Ld)(ds:Wp AR):Int:=(ls.length:Int)+((ds.filter makes).length:Int)
def bp{m:Nat}(hm:ds[m]?=Gc d):atI (ds.map AR.d) (m:Int)=Gc d.d:=B2 (by rw[uo,hm];rfl)
def fG{os:En}(hX:∀{d},wIn false (.val (.str (wordOf d))) (dr S X)=Gc (.val (.bl (makes d))))(ho:os.length=1){xs:Wp AR}(hl:xs.length<=100)(hf:∀E,f E S=Gc (X,S)):BZ [] (tNm 0) (eOp (o2 (wIn false)) [eIx (eV 0) (eI 0),f]) (eV 0) (xs.map AR.d) [] os S=Gc ((xs.filter makes).map AR.d,S):=by
 have:=Ea (gs:=[]) (t:=tNm 0) (c:=eOp (o2 (wIn false)) [eIx (eV 0) (eI 0),f]) (f:=eV 0) (C:=[]) (m:=1) (e:=AR.d) (g:=AR.d) (b:=makes) (S:=S) AW (xs:=xs) (acc:=[]) (os:=os) ho (AJ (by simp;lia)) (by
  intro x hx os ho
  obtain⟨a,rfl⟩:=NC ho
  obtain⟨r,e⟩:=WJ x
  refine⟨[Gc x.d],rfl,by simp,?_,by simp⟩
  rw[e]
  have h1:=hX (d:=x)
  simp[hf,h1])
 simpa using this
def XH(h:m<ds.length):Dh [AK t ls ds,.int m] S=Gc (.bl true,S):=by
 have w:=within_int (S:=S) (i:=m) (j:=0) (k:=(ds.length:Int)-1)
 have w2:(m:Int)<=(ds.length:Int)-1:=by lia
 simp[Dh,Ky,AK,w,w2]
def QU{m:Nat}(h:CL t ls ds)(hm:ds[m]?=Gc d):EG [AK t ls ds,.int m] S=Gc (if makes d=true then .int (cnt ls (ds.take m))else .non,S):=by
 have hlt:=(ua.mp hm).1
 have hl:=h.len
 have r1:=MC (S:=S) h
 have pl:=XH (S:=S) (t:=t) (ls:=ls) hlt
 have a:=bp hm
 obtain⟨r,e⟩:=WJ d
 rw[e]at a
 have hk:dr S BS=.val BS:=rfl
 have im:=VY (d:=d)
 cases hmk:makes d with
 |false=>
  rw[hmk]at im
  simp[EG,JR,r1,pl]
  simp[AK,a,hk,im]
 |true=>
  rw[hmk]at im
  have c:=fG (S:=S) (X:=BS) (os:=[none]) (by rw[hk];exact TB) rfl (xs:=ds.take m) (by simp;lia) (f:=eC BS) (λ_=>rfl)
  have sl:wSl none (Gc (m:Int)) (.val (.tup (ds.map AR.d)))=Gc (.val (.tup ((ds.take m).map AR.d))):=by
   show Gc (Wv.val (.tup (IJ _ _ _)))=_
   rw[Jx (by simp;lia),yt]
  have ml:DB [AK t ls ds,.int m] S=Gc (.int (cnt ls (ds.take m)),S):=by
   rw[yt]at c sl
   simp[DB,IZ,AK,sl,c,cnt]
  have ml2:DB [.tup [t.d,.tup (ls.map Ld.d),.tup (ds.map AR.d)],.int m] S=Gc (.int (cnt ls (ds.take m)),S):=ml
  simp[EG,JR,r1,pl,ml]
  simp[AK,a,hk,im,ml2]
noncomputable def N8(ds:Wp AR):Nat:=(ds.filter Pl).length
def U0{os:En}(ho:os.length=1)(hl:ds.length<=50):BZ [] (tNm 0) (eOp (o2 wEq) [eIx (eV 0) (eI 0),eC (.str "throw")]) (eV 0) (ds.map AR.d) [] os S=Gc ((ds.filter Pl).map AR.d,S):=by
 have:=Ea (gs:=[]) (t:=tNm 0) (c:=eOp (o2 wEq) [eIx (eV 0) (eI 0),eC (.str "throw")]) (f:=eV 0) (C:=[]) (m:=1) (e:=AR.d) (g:=AR.d) (b:=Pl) (S:=S) AW (xs:=ds) (acc:=[]) (os:=os) ho (AJ (by simp;lia)) (by
  intro x hx os ho
  obtain⟨a,rfl⟩:=NC ho
  exact⟨[Gc x.d],rfl,by simp,X8 x _ rfl,by simp⟩)
 simpa using this
def K6(ht:IB t)(hw:∀d∈ds,Wf t d)(hl:ds.length<=50):BD [t.d,.tup (ds.map AR.d)] S=Gc (.bl (decide (ds.length<=20) && decide (N8 ds<=3)),S):=by
 have k3:St.Kd.tup.isA "tuple"=true:=by decide
 have d1:dr S Fj=.val (.int 20):=rfl
 have d2:dr S E5=.val (.int 3):=rfl
 by_cases c:ds.length<=20
 .obtain⟨bs,e1,e2⟩:=mR (S:=S) (f:=AF A9 [eV 0,eV 1]) (e:=AR.d) (C:=[Gc t.d]) (os:=[none]) (xs:=ds) (gs:=[]) (t:=tNm 1) AW (by lia) rfl (by
   intro x hx os ho
   obtain⟨a,rfl⟩:=NC ho
   have⟨r,i⟩:=ir (hw x hx)
   have e:=NK (S:=S) ht r
   rw[i]at e
   exact⟨[Gc x.d],rfl,by simp,by simp[e]⟩)
  obtain⟨b',e3,e4⟩:=xH.mp e2
  have tc:=U0 (S:=S) (os:=[none]) rfl hl
  have c1:¬(20:Int)<ds.length:=by lia
  have c2:decide ((((ds.filter Pl).length:Nat):Int)<=3)=decide (N8 ds<=3):=by
   unfold N8
   rw[wg];simp;lia
  generalize t.d=T at*
  simp[BD,GW,kdW,k3,d1,d2,c,c1,NB]
  try simp only[vV,vK]at e1
  simp[e1,e3,e4,tc,d2,c2]
 .have c1:(20:Int)<ds.length:=by lia
  generalize t.d=T
  simp[BD,GW,kdW,k3,d1,d2,c,c1]
end
section
variable{ds:Wp AR}
noncomputable def GC(t:Tr)(ls:Wp Ld)(ds:Wp AR)(d:AR):Nat:=
 if isB t d=false then 0 else if G7 (runs t (st0 t ls) ds) d=false then 1 else if ds.length=20\/3<N8 (ds++[d])then 2 else 3
def Yw(h:Can t st d):Wf t d:=(VS h).1
theorem Qu:∀{ds} {st:Stt},MD t st ds->∀d∈ds,Wf t d
 | [],st,_,d,hd=>by cases hd
 |x::ds,st,h,d,hd=>by
  rcases uZ.mp hd with rfl|hd
  .exact Yw h.1
  .exact Qu h.2 d hd
def take_snoc:(ds++[d]).take ds.length=ds:=by simp
def bR(h:CL t ls ds)(hw:Wf t d)(c:G7 (runs t (st0 t ls) ds) d=false):Up t ls (ds++[d]) ds.length:=
 ⟨h.tr,h.inv,by have:=h.len;simp;lia,by simp,by rw[take_snoc];exact h.good,λx hx=>by rw[take_snoc];simp at hx;subst hx;exact c⟩
def XS(h:CL t ls ds)(hw:Wf t d)(c:G7 (runs t (st0 t ls) ds) d=true):Up t ls (ds++[d]) (ds++[d]).length:=
 ⟨h.tr,h.inv,by have:=h.len;simp;lia,ue _,by rw[yf];exact KW h.good (Yy hw c),λx hx=>by simp at hx⟩
def XU(h:Up t ls ds ds.length):AU [AK t ls ds] S=Gc (.non,S)/\Ak [AK t ls ds] S=none:=by
 have e:=gv (S:=S) h
 have ed:YR ds ds.length=.non:=by unfold YR;rw[vC (by lia)]
 rw[ed]at e
 constructor
 .simp[AU,Cz,e,isN]
 .simp[Ak,Ct,ki,Gs,Kq,Nr,Ka,e,isN,Xj]
def bkE:=BC [eV 2,eV 3,eOp (o2 CM) [eV 4,BC [eV 1]]]
def doB(Z:Ev):Ex:=(AN (xIf (E7 (AF A9 [eV 2,eV 1])) Cp BO) (AN (Az 5 Z) (AN (Bm (AF AU [eV 5])) (AN (xIf (E7 (AF BD [eV 2,eIx (eV 5) (eI 2)])) Cp BO) (AN (Bm (HQ "Leader" "turn_to" A5 (eV 0) [eV 5])) (AZ (AF EG [eV 5,eOp (o1 Eu) [eV 4]])))))))
def doR(Z:Ev):Rx:=(OO (rIf (E7 (AF A9 [eV 2,eV 1])) (MU "NoDeed" [eC (.str "this is no deed of the train")]) rNo) (xIf (E7 (AF A9 [eV 2,eV 1])) Cp BO) (OO rNo (Az 5 Z) (OO (Ql Ak [eV 5]) (Bm (AF AU [eV 5])) (OO (rIf (E7 (AF BD [eV 2,eIx (eV 5) (eI 2)])) (MU "TooMany" [eC (.str "a book hasn't so many deeds or throws")]) rNo) (xIf (E7 (AF BD [eV 2,eIx (eV 5) (eI 2)])) Cp BO) (OO rNo (Bm (HQ "Leader" "turn_to" A5 (eV 0) [eV 5])) (Ql JV [eV 5,eOp (o1 Eu) [eV 4]]))))))
def Uj(h:LAt S L q (AK t ls ds) m):(IP (tTp [tNm 2,tNm 3,tNm 4]) (Og "Leader" "kept" (eV 0))) [Gc (.ref L),o,none,none,none,none] S=Gc (.nx,[Gc (.ref L),o,Gc t.d,Gc (.tup (ls.map Ld.d)),Gc (.tup (ds.map AR.d)),none],S):=by
 simp[h.ins,AK]
def kD(h:LAt S L q (AK t ls ds) m):As [.ref L,X] S=(doB bkE [Gc (.ref L),Gc X,Gc t.d,Gc (.tup (ls.map Ld.d)),Gc (.tup (ds.map AR.d)),none] S).map (λr=>(flD r.1,r.2.2))/\A1 [.ref L,X] S=(doR bkE [Gc (.ref L),Gc X,Gc t.d,Gc (.tup (ls.map Ld.d)),Gc (.tup (ds.map AR.d)),none] S).map λr=>(r.1,r.2.2):=by
 have u:=λo=>Uj h (o:=o)
 constructor
 .generalize hz:(IP (tTp [tNm 2,tNm 3,tNm 4]) (Og "Leader" "kept" (eV 0)))=Z at u
  have eb:Jb=AN Z (doB bkE):=by rw[<-hz];rfl
  generalize doB bkE=B at*
  simp[As,eb,u]
 .generalize hz:(IP (tTp [tNm 2,tNm 3,tNm 4]) (Og "Leader" "kept" (eV 0)))=Z at u
  have eb:Jv=OO rNo Z (doR bkE):=by rw[<-hz];rfl
  generalize doR bkE=B at*
  simp[A1,eb,ki,Gs,Kq,u,Nr]
def gn(hL:LAt S L q (AK t ls ds) m)(hm:m<1000)(h:CL t ls ds)(h3:N8 ds<=3)(hr:Raw t d):(GC t ls ds d=0->As [.ref L,d.d] S=none/\A1 [.ref L,d.d] S=Gc (⟨"NoDeed",none⟩,S))/\(GC t ls ds d=1->As [.ref L,d.d] S=none/\A1 [.ref L,d.d] S=Gc (⟨"NotDone",Gc (ds.length:Int)⟩,S))/\(GC t ls ds d=2->As [.ref L,d.d] S=none/\A1 [.ref L,d.d] S=Gc (⟨"TooMany",none⟩,S))/\(GC t ls ds d=3->∃S',As [.ref L,d.d] S=Gc (if makes d=true then .int (cnt ls ds)else .non,S')/\LAt S' L q (AK t ls (ds++[d])) (m+1)/\Bq [L,q] S S'/\CL t ls (ds++[d])/\N8 (ds++[d])<=3):=by
 obtain⟨r1,r2⟩:=kD hL (X:=d.d)
 have i:=NK (S:=S) h.tr hr
 have hlen:=h.len
 have bk:bkE [Gc (.ref L),Gc d.d,Gc t.d,Gc (.tup (ls.map Ld.d)),Gc (.tup (ds.map AR.d)),none] S=Gc (AK t ls (ds++[d]),S):=by
  have sz:ds.length+1<=sizeLine:=AJ (by lia)
  have s3:1+1+1<=sizeLine:=AJ (by decide)
  simp[bkE,sz,AK,s3]
 have b2:atI [t.d,.tup (ls.map Ld.d),.tup ((ds++[d]).map AR.d)] 2=Gc (.tup ((ds++[d]).map AR.d)):=nr rfl
 generalize bkE=Z at*
 refine⟨λc=>?_,λc=>?_,λc=>?_,λc=>?_⟩
 .have c0:isB t d=false:=by
   unfold GC at c
   split at c
   .assumption
   .split at c
    .cases c
    .split at c<;>cases c
  rw[c0]at i
  rw[r1,r2]
  constructor
  .simp[doB,i,Ko]
  .simp[doR,i,Gs,Ka,Zw,Nt]
 .have c0:isB t d=true/\G7 (runs t (st0 t ls) ds) d=false:=by
   unfold GC at c
   split at c
   .cases c
   .rename_i z
    split at c
    .exact⟨by simpa using z,by assumption⟩
    .split at c<;>cases c
  rw[c0.1]at i
  obtain⟨u1,u2⟩:=Yh (S:=S) (bR h (YL hr c0.1) c0.2) (by simp)
  rw[r1,r2]
  constructor
  .simp[doB,i,bk,u1]
  .simp[doR,i,bk,Gs,Ka,Xj,Kq,Nr,O1,u1,u2]
 .have c0:isB t d=true/\G7 (runs t (st0 t ls) ds) d=true/\(ds.length=20\/3<N8 (ds++[d])):=by
   unfold GC at c
   split at c
   .cases c
   .rename_i z
    split at c
    .cases c
    .rename_i z2
     split at c
     .exact⟨by simpa using z,by simpa using z2,by assumption⟩
     .cases c
  obtain⟨c1,c2,c3⟩:=c0
  rw[c1]at i
  obtain⟨u1,u2⟩:=XU (S:=S) (XS h (YL hr c1) c2)
  have ad:=K6 (S:=S) (ds:=ds++[d]) h.tr (λx hx=>by
   rcases vE.mp hx with hx|hx
   .exact Qu h.good x hx
   .simp at hx;subst hx;exact YL hr c1) (by simp;lia)
  have af:(decide ((ds++[d]).length<=20) && decide (N8 (ds++[d])<=3))=false:=by
   rw[Bool.and_eq_false_iff]
   rcases c3 with c3|c3
   .left;simp;lia
   .right;simp;lia
  rw[af]at ad
  rw[r1,r2]
  have db:dr S (AK t ls (ds++[d]))=.val (AK t ls (ds++[d])):=rfl
  have ib:asS (.val (AK t ls (ds++[d])))=Gc [t.d,.tup (ls.map Ld.d),.tup ((ds++[d]).map AR.d)]:=rfl
  generalize AK t ls (ds++[d])=BK at*
  generalize (ds++[d]).map AR.d=DD at*
  constructor
  .simp[doB,i,bk,u1,db,ib,b2,ad,Ko]
  .simp[doR,i,bk,Gs,Ka,Xj,Zw,Kq,Nr,O1,Nt,u1,u2,db,ib,b2,ad]
 .have c0:isB t d=true/\G7 (runs t (st0 t ls) ds) d=true/\¬(ds.length=20\/3<N8 (ds++[d])):=by
   unfold GC at c
   split at c
   .cases c
   .rename_i z
    split at c
    .cases c
    .rename_i z2
     split at c
     .cases c
     .exact⟨by simpa using z,by simpa using z2,by assumption⟩
  obtain⟨c1,c2,c3⟩:=c0
  rw[AAl]at c3
  rw[c1]at i
  have can:=Yy (YL hr c1) c2
  have bok:CL t ls (ds++[d]):=⟨h.tr,h.inv,KW h.good can,by simp;lia⟩
  obtain⟨u1,u2⟩:=XC (S:=S) bok
  have ad:=K6 (S:=S) (ds:=ds++[d]) h.tr (Qu bok.good) (by simp;lia)
  have af:(decide ((ds++[d]).length<=20) && decide (N8 (ds++[d])<=3))=true:=by
   rw[uc]
   exact⟨by simp;lia,by simp;lia⟩
  rw[af]at ad
  obtain⟨S',e1,l1,s1⟩:=aZ hL hm (b':=AK t ls (ds++[d]))
  have mb:=QU (S:=S') bok (m:=ds.length) (d:=d) (by simp)
  rw[take_snoc]at mb
  refine⟨S',?_,l1,s1,bok,by lia⟩
  rw[r1]
  have db:dr S (AK t ls (ds++[d]))=.val (AK t ls (ds++[d])):=rfl
  have ib:asS (.val (AK t ls (ds++[d])))=Gc [t.d,.tup (ls.map Ld.d),.tup ((ds++[d]).map AR.d)]:=rfl
  have hi:=hL.ins
  generalize AK t ls (ds++[d])=BK at*
  generalize (ds++[d]).map AR.d=DD at*
  have lt:(lds (AK t ls ds) q).lookup (u9 "turn_to")=none:=nr rfl
  simp[doB,i,bk,u1,db,ib,b2,ad,hi,lt,e1,mb]
end
section
variable{S:Sto}{t:Tr}{st:Stt}
variable{s l m:Nat}{as:Wp Nat}
def Pz(hS:SAt S s l m as st)(h:i<st.AA.length):∃a,atI (as.map D.ref) (i:Int)=Gc (.ref a)/\dr S (.ref a)=.own [.int (AL st.AA i).k,.int (AL st.AA i).n,shD (AL st.AA i).ow]:=by
 have hl:=hS.len
 refine⟨as[i]'(by lia),B2 (by rw[uo,uT (by lia)];rfl),?_⟩
 exact An (hS.ld i _ _ (uT (by lia)) (EO h))
def Kl(hS:SAt S s l m as st){i:Nat}:Cd [.ref l,.int i,.int n] S=Gc (.bl (thB st i n),S):=by
 have d:=An hS.lo
 have hl:=hS.len
 by_cases h:i<st.AA.length
 .obtain⟨a,a1,a2⟩:=Pz hS h
  have h':(i:Int)<(as.length:Int):=by lia
  have e:thB st i n=decide (n<=(AL st.AA i).n):=by simp[thB,h]
  rw[e]
  simp[Cd,JW,d,h',a1,a2]
 .have h':¬(i:Int)<(as.length:Int):=by lia
  have e:thB st i n=false:=by simp[thB,h]
  rw[e]
  simp[Cd,JW,d,h']
def pU(hS:SAt S s l m as st):BP [.ref s,d.d] S=Gc (.bl (G7 st d),S):=by
 have r0:=AQ hS.root
 have lo:=An hS.lo
 cases d with
 |CT p kd n=>simp[BP,B0,AR.d,G7,r0]
 |Fe p q x=>simp[BP,B0,AR.d,G7,r0]
 |CW i n=>
  have e:=Kl hS (i:=i) (n:=n)
  simp[BP,B0,AR.d,G7,r0,e]
 |thr i n ws=>
  have e:=Kl hS (i:=i) (n:=n)
  simp[BP,B0,AR.d,G7,r0,e]
 |GP i j=>
  have e1:=Kl hS (i:=i) (n:=1)
  have e2:=Kl hS (i:=j) (n:=1)
  have cb:G7 st (.GP i j)=(thB st i 1 && (thB st j 1 && ((AL st.AA i).k==(AL st.AA j).k))):=rfl
  rw[cb]
  cases h1:thB st i 1 with
  |false=>
   rw[h1]at e1
   simp[BP,B0,AR.d,r0,e1]
  |true=>
   rw[h1]at e1
   cases h2:thB st j 1 with
   |false=>
    rw[h2]at e2
    simp[BP,B0,AR.d,r0,e1,e2]
   |true=>
    rw[h2]at e2
    obtain⟨a,a1,a2⟩:=Pz hS (MO h1)
    obtain⟨b,b1,b2⟩:=Pz hS (MO h2)
    have nb:=KP (a:=(AL st.AA i).k) (b:=(AL st.AA j).k)
    generalize (as.map D.ref)=refs at*
    simp[BP,B0,AR.d,r0,e1,e2,lo,a1,b1,a2,b2,nb]
 |swap i g kd n=>
  have e:=Kl hS (i:=i) (n:=g)
  have cb:G7 st (.swap i g kd n)=(thB st i g && !((AL st.AA i).k==kd)):=rfl
  rw[cb]
  cases h1:thB st i g with
  |false=>
   rw[h1]at e
   simp[BP,B0,AR.d,r0,e]
  |true=>
   rw[h1]at e
   obtain⟨a,a1,a2⟩:=Pz hS (MO h1)
   have nb:=KP (a:=(AL st.AA i).k) (b:=kd)
   generalize (as.map D.ref)=refs at*
   simp[BP,B0,AR.d,r0,e,lo,a1,a2,nb]
 |Bx u i g kd n=>
  have e:=Kl hS (i:=i) (n:=g)
  have nu:=An hS.nu
  have fi:=Md (us:=st.nums)
  have ii:=Om (us:=st.nums) (i:=u)
  have cb:G7 st (.Bx u i g kd n)=(!(st.nums.any λx=>x==u) && (thB st i g && !((AL st.AA i).k==kd))):=rfl
  rw[cb]
  generalize st.nums.map D.int=ud at*
  generalize (st.nums.any λx=>x==u)=bb at*
  cases bb with
  |true=>simp[BP,B0,AR.d,r0,nu,fi,ii]
  |false=>
   cases h1:thB st i g with
   |false=>
    rw[h1]at e
    simp[BP,B0,AR.d,r0,e,nu,fi,ii]
   |true=>
    rw[h1]at e
    obtain⟨a,a1,a2⟩:=Pz hS (MO h1)
    have nb:=KP (a:=(AL st.AA i).k) (b:=kd)
    generalize (as.map D.ref)=refs at*
    simp[BP,B0,AR.d,r0,e,lo,a1,a2,nb,nu,fi,ii]
theorem bK(ht:IB t):∀{es} {st:Stt} {k} {as} {S} {E},SAt S s l m as st->E9 t k st->MD t st es->k+es.length<=21->at? E 2=Gc t.d->at? E 5=Gc (.ref s)->6<E.length->∃S' as' o,Lx [] (tNm 6) (Bm (AF Bf [eV 2,eV 5,eV 6])) (es.map AR.d) E S=Gc (.nx,E.set 6 o,S')/\SAt S' s l m as' (runs t st es)/\Bq (s::l::m::as) S S'/\(∀n∈as',n∈as\/S.length<=n)
 | [],st,k,as,S,E,hS,inv,g,hl,e2,e5,h6=>⟨S,as,E[6],by rw[wG,Jh AW];simp,hS,.refl,λn h=>.inl h⟩
 |d::es,st,k,as,S,E,hS,inv,g,hl,e2,e5,h6=>by
  obtain⟨S1,as1,k1,k2,k3,k4⟩:=Mi.gU hS ht inv (by simp at hl;lia) g.1
  obtain⟨S2,as2,o,q1,q2,q3,q4⟩:=bK ht (E:=E.set 6 (Gc d.d)) k2 (Rl ht inv (by simp at hl;lia) g.1) g.2 (by simp at hl;lia) (by rw[at?,uW (by decide)];exact e2) (by rw[at?,uW (by decide)];exact e5) (by simpa using h6)
  have e6:at? (E.set 6 (Gc d.d)) 6=Gc d.d:=by rw[at?,ui h6];rfl
  have e2':at? (E.set 6 (Gc d.d)) 2=Gc t.d:=by rw[at?,uW (by decide)];exact e2
  have e5':at? (E.set 6 (Gc d.d)) 5=Gc (.ref s):=by rw[at?,uW (by decide)];exact e5
  refine⟨S2,as2,o,?_,q2,?_,λn hn=>?_⟩
  .rw[ux,EE AW]
   simp only[List.set_set]at q1
   simp[e2',e5',e6,k1,q1]
  .refine⟨ub k3.len q3.len,λn hn ha=>(q3.keep n (uV hn k3.len) λz=>?_).trans (k3.keep n hn ha)⟩
   simp only[uZ,AAl]at z ha
   rcases z with z|z|z|z
   .exact ha.1 z
   .exact ha.2.1 z
   .exact ha.2.2.1 z
   .rcases k4 _ z with w|w
    .exact ha.2.2.2 w
    .lia
  .rcases q4 n hn with w|w
   .exact k4 n w
   .exact .inr (ub k3.len w)
noncomputable def LR:Nat->Str
 |0=>"!deed"
 |1=>"!done"
 |2=>"!many"
 |_=>"ok"
def Y4:=AN (M8 (F1 (eV 4)) (tNm 6) (Bm (AF Bf [eV 2,eV 5,eV 6]))) (AN (xIf (E7 (AF BP [eV 5,eV 1])) (AZ (eC (.str "!done"))) BO) (AN (Az 7 (eOp (o1 Eu) [Be [] 1 (F1 (eOp (o2 CM) [eV 4,BC [eV 1]])) (tNm 0) (eOp (o2 wEq) [eIx (eV 0) (eI 0),eC (.str "throw")]) (eV 0)])) (AZ (eIx (Ja [eC (.str "ok"),eC (.str "!many")]) (eOp (o1 Wl) [eOr (eOp (o2 wEq) [eOp (o1 Eu) [eV 4],eI 20]) (eOp (o2 wGt) [eV 7,eI 3])])))))
def jd(h:CL t ls ds)(hr:Raw t d):∃S',Cb [AK t ls ds,d.d] S=Gc (.str (LR (GC t ls ds d)),S')/\Bq [] S S':=by
 have i:=NA (S:=S) hr
 have hl0:ls.length<=4:=h.inv.len
 have hlen:=h.len
 have eb:K0=(AN (IP (tTp [tNm 2,tNm 3,tNm 4]) (eV 0))
  (AN (xIf (E7 (AF A7 [eV 2,eV 1])) (AZ (eC (.str "!deed"))) BO)
  (AN (Az 5 (AF CF [eV 0])) Y4))):=rfl
 cases c0:isB t d with
 |false=>
  rw[c0]at i
  refine⟨S,?_,.refl⟩
  have:GC t ls ds d=0:=by simp[GC,c0]
  rw[this]
  generalize Y4=Z at*
  simp[Cb,eb,AK,i,LR]
 |true=>
  rw[c0]at i
  obtain⟨s,l,m,as,S1,e1,hS,sm,hn⟩:=OB (S:=S) (t:=t) (ls:=ls) (x:=.tup (ds.map AR.d)) (by lia)
  have hS:SAt S1 s l m as (st0 t ls):=hS
  obtain⟨S2,as2,o,f1,f2,f3,f4⟩:=bK h.tr (E:=[Gc (AK t ls ds),Gc d.d,Gc t.d,Gc (.tup (ls.map Ld.d)),Gc (.tup (ds.map AR.d)),Gc (.ref s),none,none]) hS h.inv h.good (by lia) rfl rfl (by simp)
  have sm2:Bq [] S S2:=Bq.new (A:=[]) sm f3 hn
  refine⟨S2,?_,sm2⟩
  have lc:=pU f2 (d:=d)
  have pre:Cb [AK t ls ds,d.d] S=(Y4 [Gc (AK t ls ds),Gc d.d,Gc t.d,Gc (.tup (ls.map Ld.d)),Gc (.tup (ds.map AR.d)),Gc (.ref s),none,none] S1).map λr=>(flD r.1,r.2.2):=by
   generalize Y4=Z at*
   simp only[AK]at e1⊢
   simp[Cb,eb,i,e1]
  rw[pre]
  have tc:=U0 (S:=S2) (ds:=ds++[d]) (os:=[none]) rfl (by simp;lia)
  rw[wW,ux,wG]at tc
  have sz:ds.length+1<=sizeLine:=AJ (by lia)
  have e5:GC t ls ds d=(if G7 (runs t (st0 t ls) ds) d=false then 1 else if ds.length=20\/3<N8 (ds++[d])then 2 else 3):=by simp[GC,c0]
  rw[e5]
  generalize AK t ls ds=bk at*
  generalize t.d=T at*
  cases c1:G7 (runs t (st0 t ls) ds) d with
  |false=>
   rw[c1]at lc
   simp at f1
   simp[Y4,f1,lc,LR]
  |true=>
   rw[c1]at lc
   simp at f1
   have eq:((ds.length:Int)==20)=decide (ds.length=20):=by rw[wg];simp;lia
   have gt:decide ((3:Int)<(((ds++[d]).filter Pl).length:Nat))=decide (3<N8 (ds++[d])):=by unfold N8;rw[wg,ACE,ACE];lia
   generalize ((ds++[d]).filter Pl)=FF at*
   generalize N8 (ds++[d])=N3 at*
   have wi:∀b:va,Wl (.val (.bl b))=Gc (.val (.int (if b=true then 1 else 0))):=λb=>by cases b<;>exact nr rfl
   by_cases c2:ds.length=20
   .have s21:21<=sizeLine:=AJ (by decide)
    simp[Y4,f1,lc,s21,tc,eq,c2,LR,NB]
   .by_cases c3:3<N3
    .simp[Y4,f1,lc,sz,tc,eq,c2,c3,gt,LR,NB]
    .simp[Y4,f1,lc,sz,tc,eq,c2,c3,gt,LR,NB]
end
section
variable{E:En}{S:Sto}{f g k o:Ev}{d:D}{es:Wp (Key×D)}
@[simp] def pK:evP [] E S=some ([],S):=nr rfl
@[simp] def kh:evP ((k,f)::r) E S=(k E S).bind λa=>(fB a.1).bind λkk=>(f E a.2).bind λb=>(evP r E b.2).map λq=>((kk,b.1)::q.1,q.2):=nr rfl
@[simp] def mS:fB (.str x)=some (.inr x):=nr rfl
@[simp] def fe:UX cf fs E S=(evP fs E S).map λr=>XE cf (Ii [] r.1) r.2:=nr rfl
@[simp] def qV:XE false es S=(.dct es,S):=nr rfl
@[simp] def lH:lM f k o E S=(f E S).bind λa=>(dH a.2 a.1).bind λ_=>(k E a.2).bind λb=>(o E b.2).bind λc=>(dH c.2 a.1).bind λes=>(fB b.1).map λk=>((R3 es k).getD c.1,c.2):=nr rfl
end
def QR:(D.str x).py.depth<=n+1:=by
 simp only[D.py,AAA]
 lia
def YG:(D.str "bring").lay=true/\(D.str "pool").lay=true/\(D.str "swap").lay=true/\(D.str "trade").lay=true/\(D.str "spoil").lay=true/\(D.str "throw").lay=true/\(D.str "sell").lay=true:=by decide+kernel
def Yg{d:AR}:d.d.lay=true:=by
 obtain⟨w1,w2,w3,w4,w5,w6,w7⟩:=YG
 have hw:∀ws:Wp Int,(D.tup (ws.map D.int)).lay=true:=λws=>Fg λ_ _=>rfl
 have ha:∀r:Rat,(aD r).lay=true:=λ_=>rfl
 have hi:∀i:Int,(D.int i).lay=true:=λ_=>rfl
 have ht:∀ds:Wp D,(D.tup ds).lay=D.Ov ds:=λ_=>rfl
 have hc:∀(d:D) (ds:Wp D),D.Ov (d::ds)=(d.lay && D.Ov ds):=λ_ _=>rfl
 have hn:D.Ov []=true:=rfl
 cases d with
 |thr l n ws=>
  have:=hw ws
  generalize hq:D.tup (ws.map D.int)=q at*
  simp only[AR.d,hq,ht,hc,hn,hi,w6,this,Bool.and_self]
 |_=>simp only[AR.d,ht,hc,hn,hi,ha,w1,w2,w3,w4,w5,w7,Bool.and_self]
def kT{d:AR}:d.d.py.depth<=3:=by
 cases d with
 |thr l n ws=>
  refine LF (n:=2) λe he=>?_
  simp only[uZ,uv,ve]at he
  rcases he with rfl|rfl|rfl|rfl
  .exact QR
  .exact Gy
  .exact Gy
  .refine LF (n:=1) λe he=>?_
   obtain⟨w,_,rfl⟩:=vT.mp he
   exact Gy
 |Fe p q s=>
  refine LF (n:=2) λe he=>?_
  simp only[uZ,uv,ve]at he
  rcases he with rfl|rfl|rfl|rfl
  .exact QR
  .exact Gy
  .exact Gy
  .exact qu
 |_=>
  refine LF (n:=2) λe he=>?_
  simp only[uZ,uv,ve]at he
  first
   |(rcases he with rfl|rfl|rfl|rfl|rfl|rfl<;>first|exact QR|exact Gy)
   |(rcases he with rfl|rfl|rfl|rfl|rfl<;>first|exact QR|exact Gy)
   |(rcases he with rfl|rfl|rfl|rfl<;>first|exact QR|exact Gy)
   |(rcases he with rfl|rfl|rfl<;>first|exact QR|exact Gy)
section
variable{S:Sto}{t:Tr}{ls L:Wp Ld}{ds:Wp AR}
def fW:t.d.lay=true:=by
 show(true && (true && (true && ((shD t.ho).lay && (true && (true && true))))))=true
 rw[Rw];rfl
def rX:t.d.py.depth<=4:=LF (n:=3) λe he=>by
 simp only[uZ,uv,ve]at he
 rcases he with rfl|rfl|rfl|rfl|rfl|rfl
 .exact Gy
 .exact Gy
 .exact Gy
 .exact nj
 .exact Gy
 .exact Gy
def RD:(AK t ls ds).lay=true:=by
 show(t.d.lay && ((D.tup (ls.map Ld.d)).lay && ((D.tup (ds.map AR.d)).lay && true)))=true
 rw[fW,show(D.tup (ls.map Ld.d)).lay=true from Fg λ_ _=>hO,show(D.tup (ds.map AR.d)).lay=true from Fg λ_ _=>Yg]
 rfl
def UD:Ou (AK t ls ds) (AK t ls ds)=true:=Me RD (ub (LF (n:=5) λe he=>by
 simp only[uZ,uv,ve]at he
 rcases he with rfl|rfl|rfl
 .exact ub rX (by decide)
 .refine LF (n:=4) λe he=>?_
  obtain⟨w,_,rfl⟩:=vT.mp he
  exact sx
 .refine LF (n:=4) λe he=>?_
  obtain⟨w,_,rfl⟩:=vT.mp he
  exact ub kT (by decide)) (by decide))
def YZ:deq (AK t ls ds) (AK t ls ds)=true:=OM RD
end
def hdS:Tg->Ex:=gOr ["NoDeed","NotDone","TooMany","NoNext","NothingDone"] "NoDeed" (AZ (BC [eC (.str "!deed"),eC .non])) (gAs ["NoDeed","NotDone","TooMany","NoNext","NothingDone"] "NotDone" (λn=>.tup [.str "!done",.int n]) (gOr ["NoDeed","NotDone","TooMany","NoNext","NothingDone"] "TooMany" (AZ (BC [eC (.str "!many"),eC .non])) (gOr ["NoDeed","NotDone","TooMany","NoNext","NothingDone"] "NoNext" (AZ (BC [eC (.str "!next"),eC .non])) (gOr ["NoDeed","NotDone","TooMany","NoNext","NothingDone"] "NothingDone" (AZ (BC [eC (.str "!nothing"),eC .non])) gNo))))
def aU:=VI "told" "_law_deed_right" [0,2] (HQ "Leader" "do" As (eV 0) [eV 1]) (Sq "Leader" "do" A1 (eV 0) [eV 1]) 1 hdS
def jO:=lM (jj [((eC (.str "ok")),(BC [eC (.str "told"),eV 4])),((eC (.str "!done")),(BC [eC (.str "!done"),eOp (o1 Eu) [eIx (eV 1) (eI 2)]]))]) (eV 3) (BC [eV 3,eC .non])
def Y8(LL GG:Ev):Ex:=(AN (Az 3 (AF Cb [eV 1,eV 2]))
    (AN (Az 4 (eC .non))
    (AN (xIf (eOp (o2 (wIn false)) [eIx (eV 2) (eI 0),BC [eC (.str "bring"),eC (.str "pool"),eC (.str "swap"),eC (.str "trade")]]) (Az 4 (AF Cm [eV 1])) BO)
    (AN (Az 5 GG)
    (AN (xIf (eOp (o2 wNe) [LL,eV 5]) (AZ (eC .non)) BO)
    (AN (xIf (eOp (o2 wEq) [eV 3,eC (.str "ok")]) (AZ (eOp (o2 CM) [eOp (Il false true) [eV 1,eI 2],BC [eOp (o2 CM) [eIx (eV 1) (eI 2),BC [eV 2]]]])) BO)
    (AZ (eV 1))))))))
theorem YJ:G8=Y8 aU jO:=rfl
section
variable{S:Sto}{t:Tr}{d:AR}{ls:Wp Ld}{ds:Wp AR}{L q m:Nat}
def tab_of{n:Nat}(h:S[n]?=Gc (Cl.tab x)):S.any (Vn x)=true:=List.any_eq_true.mpr ⟨_,uw h,by unfold Vn;simp⟩
def SH(h:ds.length<=50):Cm [AK t ls ds] S=Gc (.int (cnt ls ds),S):=by
 have c:=fG (S:=S) (X:=.tup [.str "bring",.str "pool",.str "swap",.str "trade"]) (os:=[none]) (λ{d}=>WI) rfl (xs:=ds) (by lia) (f:=BC [eC (.str "bring"),eC (.str "pool"),eC (.str "swap"),eC (.str "trade")]) (λE=>by
  have s4:1+1+1+1<=sizeLine:=AJ (by decide)
  simp[s4])
 generalize hz:(eOp (o2 (wIn false)) [eIx (eV 0) (eI 0),BC [eC (.str "bring"),eC (.str "pool"),eC (.str "swap"),eC (.str "trade")]])=Z at c
 have eb:Ks=(AZ (eOp (o2 CM) [eOp (o1 Eu) [eIx (eV 0) (eI 1)],eOp (o1 Eu) [Be [] 1 (F1 (eIx (eV 0) (eI 2))) (tNm 0) Z (eV 0)]])):=by rw[<-hz];rfl
 simp[Cm,eb,AK,c,cnt]
def hd0:hdS ⟨"NoDeed",none⟩=AZ (BC [eC (.str "!deed"),eC .non]):=by
 simp[hdS,gOr]
def hd1:hdS ⟨"NotDone",Gc n⟩=AZ (eC (.tup [.str "!done",.int n])):=by
 have n1:(u9 "NotDone")≠u9 "NoDeed":=by decide
 simp[hdS,gOr,gAs,n1]
def hd2:hdS ⟨"TooMany",none⟩=AZ (BC [eC (.str "!many"),eC .non]):=by
 have n1:(u9 "TooMany")≠u9 "NoDeed":=by decide
 have n2:(u9 "TooMany")≠u9 "NotDone":=by decide
 simp[hdS,gOr,gAs,n1,n2]
noncomputable def Vy(ls:Wp Ld)(ds:Wp AR)(d:AR):D:=if makes d=true then .int (cnt ls ds)else .non
noncomputable def Hs(ls:Wp Ld)(ds:Wp AR)(d:AR):Nat->D
 |0=>.tup [.str "!deed",.non]
 |1=>.tup [.str "!done",.int (ds.length:Int)]
 |2=>.tup [.str "!many",.non]
 |_=>.tup [.str "told",Vy ls ds d]
def jh:jO [a0,Gc (AK t ls ds),Gc d.d,Gc (.str (LR n)),Gc (Vy ls ds d),none] S=Gc (Hs ls ds d n,S):=by
 have s2:1+1<=sizeLine:=AJ (by decide)
 generalize hN:Vy ls ds d=N at*
 have v0:R3 (Ii [] [(.inr "ok",.tup [.str "told",N]),(.inr "!done",.tup [.str "!done",.int (ds.length:Int)])]) (.inr "!deed")=none:=nr rfl
 have v1:R3 (Ii [] [(.inr "ok",.tup [.str "told",N]),(.inr "!done",.tup [.str "!done",.int (ds.length:Int)])]) (.inr "!done")=Gc (.tup [.str "!done",.int (ds.length:Int)]):=nr rfl
 have v2:R3 (Ii [] [(.inr "ok",.tup [.str "told",N]),(.inr "!done",.tup [.str "!done",.int (ds.length:Int)])]) (.inr "!many")=none:=nr rfl
 have v3:R3 (Ii [] [(.inr "ok",.tup [.str "told",N]),(.inr "!done",.tup [.str "!done",.int (ds.length:Int)])]) (.inr "ok")=Gc (.tup [.str "told",N]):=nr rfl
 have dd:∀{T:Sto} {es:Wp (Key×D)},dH T (.dct es)=Gc es:=nr rfl
 have key:∀w:Str,jO [a0,Gc (AK t ls ds),Gc d.d,Gc (.str w),Gc N,none] S=Gc ((R3 (Ii [] [(.inr "ok",.tup [.str "told",N]),(.inr "!done",.tup [.str "!done",.int (ds.length:Int)])]) (.inr w)).getD (.tup [.str w,.non]),S):=by
  intro w
  simp[jO,AK,s2,dd]
 rw[key]
 match n with
 |0=>rw[show LR 0="!deed" from rfl,v0];rfl
 |1=>rw[show LR 1="!done" from rfl,v1];rfl
 |2=>rw[show LR 2="!many" from rfl,v2];rfl
 |n+3=>
  rw[show LR (n+3)="ok" from rfl,v3,<-hN]
  rfl
def Vw:Ou (Hs ls ds d n) (Hs ls ds d n)=true/\deq (Hs ls ds d n) (Hs ls ds d n)=true:=by
 have h1:(Hs ls ds d n).lay=true/\(Hs ls ds d n).py.depth<=60:=by
  have two:∀(x:yE) (y:D),y.lay=true->y.py.depth<=5->(D.tup [.str (u9 x),y]).lay=true/\(D.tup [.str (u9 x),y]).py.depth<=60:=λx y hy hd=>⟨by
   show((D.str (u9 x)).lay && (y.lay && true))=true
   rw[show(D.str (u9 x)).lay=true from Od,hy];rfl,ub (LF (n:=6) λe he=>by
   simp only[uZ,uv,ve]at he
   rcases he with rfl|rfl
   .exact QR
   .exact ub hd (by decide)) (by decide)⟩
  have dn:(D.non).py.depth<=5:=by simp only[D.py,AAA];decide
  match n with
  |0=>exact two _ _ rfl dn
  |1=>exact two _ _ rfl (ub (Gy (n:=1)) (by decide))
  |2=>exact two _ _ rfl dn
  |n+3=>
   refine two _ _ ?_ ?_
   .unfold Vy;split<;>rfl
   .unfold Vy;split
    .exact ub (Gy (n:=1)) (by decide)
    .exact dn
 exact⟨Me h1.1 h1.2,OM h1.1⟩
def kK (hL:LAt S L q (AK t ls ds) m)(h:CL t ls ds)(hm:m<1000)(h3:N8 ds ≤ 3)(hr:Raw t d)(hT:S.any (Vn "_law_deed_right")=true){o1 o3 o4 o5:uS D}:∃ds' S',aU [Gc (.ref L),o1,Gc d.d,o3,o4,o5] S=Gc (Hs ls ds d (GC t ls ds d),S')/\LAt S' L q (AK t ls ds') (m + 1)/\Bq [L,q] S S'/\CL t ls ds'/\N8 ds' ≤ 3/\ds'=if GC t ls ds d=3 then ds++[d] else ds:=by
  obtain⟨k0,k1,k2,k3⟩:=gn hL hm h h3 hr
  have up:LAt S L q (AK t ls ds) (m + 1):=⟨hL.ob,let ⟨es,e,l⟩:=hL.er;⟨es,e,xC l⟩⟩
  have s2:1 + 1 ≤ sizeLine:=AJ (by decide)
  have hi:=hL.ins
  have lt:(lds (AK t ls ds) q).lookup (u9 "do")=none:=nr rfl
  have cp:SY [0,2] [Gc (D.ref L),o1,Gc d.d,o3,o4,o5]=[Gc (.ref L),Gc d.d]:=rfl
  have fF:(HQ "Leader" "do" As (eV 0) [(eV 1)]) [Gc (.ref L),Gc d.d] S=As [.ref L,d.d] S:=by
    generalize AK t ls ds = bk at *
    simp [hi, lt]
  have fR:(Sq "Leader" "do" A1 (eV 0) [(eV 1)]) [Gc (.ref L),Gc d.d] S=(A1 [.ref L,d.d] S).map λz=>(z.1,[Gc (.ref L),Gc d.d],z.2):=by
    rw [UH]
    generalize AK t ls ds = bk at *
    simp [hi, lt]
  have run:∀{z:uS (D×Sto)},(match As [.ref L,d.d] S with
      | some q => Gc (D.tup [.str "told", q.1], q.2)
      | none=>((A1 [.ref L,d.d] S).map λz=>(z.1,[Gc (D.ref L),Gc d.d],z.2)).bind λq=>(hdS q.1 (none::uq 1 none) q.2.2).bind λz=>match z.1 with | .ret d=>Gc (d,z.2.2) | .nx=>none)=z->aU [Gc (.ref L),o1,Gc d.d,o3,o4,o5] S=z:=λ{z} e=>by
    unfold aU VI
    rw [vD hT, cp, fF, fR]
    exact e
  have hdu:GC t ls ds d=0 ∨ GC t ls ds d=1 ∨ GC t ls ds d=2 ∨ GC t ls ds d=3:=by
    unfold GC
    split
    · exact .inl rfl
    · split
      · exact .inr (.inl rfl)
      · split
        · exact .inr (.inr (.inl rfl))
        · exact .inr (.inr (.inr rfl))
  rcases hdu with c | c | c | c
  · obtain⟨f1,f2⟩:=k0 c
    refine ⟨ds, S, run ?_, up, .refl, h, h3, by rw [c]; rfl⟩
    rw [f1, f2, c]
    simp [hd0, s2, Hs]
  · obtain⟨f1,f2⟩:=k1 c
    refine ⟨ds, S, run ?_, up, .refl, h, h3, by rw [c]; rfl⟩
    rw [f1, f2, c]
    simp [hd1, Hs]
  · obtain⟨f1,f2⟩:=k2 c
    refine ⟨ds, S, run ?_, up, .refl, h, h3, by rw [c]; rfl⟩
    rw [f1, f2, c]
    simp [hd2, s2, Hs]
  · obtain⟨S',f1,l1,s1,b1,t1⟩:=k3 c
    refine ⟨ds ++ [d], S', run ?_, l1, s1, b1, t1, by rw [c]; rfl⟩
    rw [f1, c]
    rfl
end
section
variable{t:Tr}{d:AR}{ds:Wp AR}{L q m nT:Nat}
def Pc:GC t ls ds d=0\/GC t ls ds d=1\/GC t ls ds d=2\/GC t ls ds d=3:=by
 unfold GC
 split
 .exact .inl rfl
 .split
  .exact .inr (.inl rfl)
  .split
   .exact .inr (.inr (.inl rfl))
   .exact .inr (.inr (.inr rfl))
def Ye(hL:LAt S L q (AK t ls ds) m)(h:CL t ls ds)(hm:m<1000)(h3:N8 ds<=3)(hr:Raw t d)(hT:S[nT]?=Gc (Cl.tab "_law_deed_right")):∃ds' S',CJ [.ref L,AK t ls ds,d.d] S=Gc (AK t ls ds',S')/\LAt S' L q (AK t ls ds') (m+1)/\Bq [L,q] S S'/\CL t ls ds'/\N8 ds'<=3:=by
 obtain⟨S1,e1,s1⟩:=jd (S:=S) h hr
 have hL1:=hL.same s1
 have hT1:=tab_of (s1.get hT (by simp))
 have hlen:=h.len
 have nu:=SH (S:=S1) (t:=t) (ls:=ls) (ds:=ds) (by lia)
 obtain⟨rr,ed⟩:=WJ d
 have inf:=WI (d:=d)
 have gg:=jh (S:=S1) (t:=t) (ls:=ls) (ds:=ds) (d:=d) (n:=GC t ls ds d) (a0:=Gc (.ref L))
 obtain⟨ds',S2,ll,hL2,s2,b2,t2,ed2⟩:=kK hL1 h hm h3 hr hT1 (o1:=Gc (AK t ls ds)) (o3:=Gc (.str (LR (GC t ls ds d)))) (o4:=Gc (Vy ls ds d)) (o5:=Gc (Hs ls ds d (GC t ls ds d)))
 obtain⟨k1,k2⟩:=Vw (ls:=ls) (ds:=ds) (d:=d) (n:=GC t ls ds d)
 refine⟨ds',S2,?_,hL2,(s1.mono (by simp)).trans s2,b2,t2⟩
 have dT:∀T:Sto,fz (dr T (Hs ls ds d (GC t ls ds d)))=Hs ls ds d (GC t ls ds d):=λT=>by
  rcases Pc (t:=t) (ls:=ls) (ds:=ds) (d:=d)with c|c|c|c<;>(rw[c];rfl)
 have hfin:∀o4 o5,((xIf (eOp (o2 wEq) [eV 3,eC (.str "ok")]) (AZ (eOp (o2 CM) [eOp (Il false true) [eV 1,eI 2],BC [eOp (o2 CM) [eIx (eV 1) (eI 2),BC [eV 2]]]])) BO) [Gc (D.ref L),Gc (AK t ls ds),Gc d.d,Gc (.str (LR (GC t ls ds d))),o4,o5] S2).bind (aW (AZ (eV 1)))=Gc (.ret (AK t ls ds'),[Gc (D.ref L),Gc (AK t ls ds),Gc d.d,Gc (.str (LR (GC t ls ds d))),o4,o5],S2):=by
  intro o4 o5
  rw[ed2]
  rcases Pc (t:=t) (ls:=ls) (ds:=ds) (d:=d)with c|c|c|c
  .rw[c]
   simp[LR]
  .rw[c]
   simp[LR]
  .rw[c]
   simp[LR]
  .rw[c]
   have sz:ds.length+1<=sizeLine:=AJ (by lia)
   have s3:1+1+1<=sizeLine:=AJ (by decide)
   have c1:IJ [t.d,.tup (ls.map Ld.d),.tup (ds.map AR.d)] none (Gc 2)=[t.d,.tup (ls.map Ld.d)]:=nr rfl
   simp[LR,AK,sz,s3,c1]
 have hpre:∀N,N=Vy ls ds d->(xIf (eOp (o2 (wIn false)) [eIx (eV 2) (eI 0),BC [eC (.str "bring"),eC (.str "pool"),eC (.str "swap"),eC (.str "trade")]]) (Az 4 (AF Cm [eV 1])) BO) [Gc (D.ref L),Gc (AK t ls ds),Gc d.d,Gc (.str (LR (GC t ls ds d))),Gc .non,none] S1=Gc (.nx,[Gc (D.ref L),Gc (AK t ls ds),Gc d.d,Gc (.str (LR (GC t ls ds d))),Gc N,none],S1):=by
  intro N hN
  have s4:1+1+1+1<=sizeLine:=AJ (by decide)
  rw[ed]
  generalize AK t ls ds=bk at*
  generalize LR (GC t ls ds d)=dw at*
  unfold Vy at hN
  cases hmk:makes d with
  |true=>
   rw[hmk]at inf hN
   subst hN
   simp[inf,s4,nu]
  |false=>
   rw[hmk]at inf hN
   subst hN
   simp[inf,s4]
 have hpre:=hpre _ rfl
 have hne:(eOp (o2 wNe) [aU,eV 5]) [Gc (D.ref L),Gc (AK t ls ds),Gc d.d,Gc (.str (LR (GC t ls ds d))),Gc (Vy ls ds d),Gc (Hs ls ds d (GC t ls ds d))] S1=Gc (.bl false,S2):=by
  generalize aU=LL at*
  have d1:=dT S2
  generalize Hs ls ds d (GC t ls ds d)=T at*
  generalize AK t ls ds=bk at*
  generalize LR (GC t ls ds d)=dw at*
  simp[ll,d1,k1,k2]
 unfold CJ
 rw[YJ]
 unfold Y8
 generalize hz1:(xIf (eOp (o2 (wIn false)) [eIx (eV 2) (eI 0),BC [eC (.str "bring"),eC (.str "pool"),eC (.str "swap"),eC (.str "trade")]]) (Az 4 (AF Cm [eV 1])) BO)=Z1 at hpre
 generalize hz2:(xIf (eOp (o2 wEq) [eV 3,eC (.str "ok")]) (AZ (eOp (o2 CM) [eOp (Il false true) [eV 1,eI 2],BC [eOp (o2 CM) [eIx (eV 1) (eI 2),BC [eV 2]]]])) BO)=Z2 at hfin
 generalize hz3:(eOp (o2 wNe) [aU,eV 5])=Z3 at hne
 generalize jO=GG at*
 generalize Hs ls ds d (GC t ls ds d)=T at*
 generalize AK t ls ds=bk at*
 generalize LR (GC t ls ds d)=dw at*
 have hf:=hfin (Gc (Vy ls ds d)) (Gc T)
 generalize Vy ls ds d=N at*
 simp[e1,hpre,gg,hne,hf]
end
section
variable{S:Sto}{t:Tr}{d:AR}{ls:Wp Ld}{ds:Wp AR}{p:Nat}
noncomputable def HC:AR->Wp D
 | .CT p k n=>[.int p,.int k,.int n]
 | .GP a b=>[.int a,.int b]
 | .swap l g k n=>[.int l,.int g,.int k,.int n]
 | .Bx u l g k n=>[.int u,.int l,.int g,.int k,.int n]
 | .CW l n=>[.int l,.int n]
 | .thr l n ws=>[.int l,.int n,.tup (ws.map .int)]
 | .Fe p q x=>[.int p,.int q,aD x]
def jJ(d:AR):d.d=.tup (.str (wordOf d)::HC d):=by cases d<;>rfl
def oQ d:IJ (.str (wordOf d)::HC d) none (Gc 1)=[.str (wordOf d)]:=by cases d<;>exact nr rfl
def pI d:IJ (.str (wordOf d)::HC d) (Gc 1) none=HC d:=by cases d<;>exact nr rfl
def Q8 d:(HC d).length<=5:=by cases d<;>simp[HC]
def aM:Wp D->Wp D->Prop
 | [],ys=>ys=[]
 |x::xs,ys=>∃y ys',ys=y::ys'/\((∃i,x=.int i)/\(∃r:Nat,y=.int r/\r<=6)\/(∃es,x=.tup es)/\y=x)/\aM xs ys'
def IT(x:D):Prop:=(∃i,x=.int i)\/∃es,x=.tup es
def eK d:∀x∈HC d,IT x:=by
 cases d<;>(intro x hx;simp only[HC,uZ,uv,ve]at hx)
 .rcases hx with rfl|rfl|rfl<;>exact .inl ⟨_,rfl⟩
 .rcases hx with rfl|rfl<;>exact .inl ⟨_,rfl⟩
 .rcases hx with rfl|rfl|rfl|rfl<;>exact .inl ⟨_,rfl⟩
 .rcases hx with rfl|rfl|rfl|rfl|rfl<;>exact .inl ⟨_,rfl⟩
 .rcases hx with rfl|rfl<;>exact .inl ⟨_,rfl⟩
 .rcases hx with rfl|rfl|rfl
  .exact .inl ⟨_,rfl⟩
  .exact .inl ⟨_,rfl⟩
  .exact .inr ⟨_,rfl⟩
 .rcases hx with rfl|rfl|rfl
  .exact .inl ⟨_,rfl⟩
  .exact .inl ⟨_,rfl⟩
  .exact .inr ⟨_,rfl⟩
def eB:=eIf (eOp (o2 QH) [eV 1,eC (.ty "int")]) (AF AG [eV 0,eI 7]) (eV 1)
theorem UW:∀{xs acc} {o} {S},(∀x∈xs,IT x)->D0 p S->acc.length+xs.length<=20->∃ys S',BZ [] (tNm 1) BI eB xs acc [Gc (.ref p),o] S=Gc (acc++ys,S')/\aM xs ys/\ys.length=xs.length/\Pn p S S'
 | [],acc,o,S,h,hp,hl=>⟨[],S,by rw[DA AW];simp,rfl,rfl,.refl hp⟩
 |x::xs,acc,o,S,h,hp,hl=>by
  have k1:St.Kd.int.isA "int"=true:=by decide
  have k2:St.Kd.tup.isA "int"=false:=by decide
  have sz:acc.length<sizeLine:=uV (show acc.length<20 by simp at hl;lia) (AJ (by decide))
  rcases h x um with⟨i,rfl⟩|⟨es,rfl⟩
  .obtain⟨r,S1,e1,a1,b1,p1⟩:=Am hp (n:=7) (by decide) (by decide)
   obtain⟨r,rfl⟩:=Hi a1
   obtain⟨ys,S2,e2,a2,l2,p2⟩:=UW (xs:=xs) (acc:=acc++[.int r]) (o:=Gc (.int i)) (λx hx=>h x (uX _ hx)) p1.pen (by simp at hl ⊢; lia)
   refine⟨.int r::ys,S2,?_,⟨_,ys,rfl,.inl ⟨⟨i,rfl⟩,r,rfl,by lia⟩,a2⟩,by simp[l2],p1.trans p2⟩
   rw[FH AW sz (show tNm 1 (.int i) [Gc (.ref p),o] S=Gc [Gc (.ref p),Gc (.int i)] by simp) Ds]
   have:eB [Gc (.ref p),Gc (.int i)] S=Gc (.int r,S1):=by simp[eB,kdW,k1,e1]
   rw[this,A3,e2]
   simp
  .obtain⟨ys,S2,e2,a2,l2,p2⟩:=UW (xs:=xs) (acc:=acc++[.tup es]) (o:=Gc (.tup es)) (λx hx=>h x (uX _ hx)) hp (by simp at hl ⊢; lia)
   refine⟨.tup es::ys,S2,?_,⟨_,ys,rfl,.inr ⟨⟨es,rfl⟩,rfl⟩,a2⟩,by simp[l2],p2⟩
   rw[FH AW sz (show tNm 1 (.tup es) [Gc (.ref p),o] S=Gc [Gc (.ref p),Gc (.tup es)] by simp) Ds]
   have:eB [Gc (.ref p),Gc (.tup es)] S=Gc (.tup es,S):=by simp[eB,kdW,k2]
   rw[this,A3,e2]
   simp
def B1(h:aM (.int i::xs) ys):∃r ys',ys=.int (r:Nat)::ys'/\r<=6/\aM xs ys':=by
 obtain⟨y,ys',rfl,h|h,g⟩:=h
 .obtain⟨_,r,rfl,hr⟩:=h
  exact⟨r,ys',rfl,hr,g⟩
 .obtain⟨⟨es,e⟩,_⟩:=h
  cases e
def Wk(h:aM (.tup es::xs) ys):∃ys',ys=.tup es::ys'/\aM xs ys':=by
 obtain⟨y,ys',rfl,h|h,g⟩:=h
 .obtain⟨⟨i,e⟩,_⟩:=h
  cases e
 .exact⟨ys',by rw[h.2],g⟩
def six{r:Nat}(h:r<=6):(r:Int)<2^131:=Int.lt_of_le_of_lt (show(r:Int)<=6 by lia) (by decide)
def aG(hr:Raw t d)(h:aM (HC d) ys):∃d',.tup (.str (wordOf d)::ys)=d'.d/\Raw t d':=by
 cases d with
 |CT p k n=>
  obtain⟨a,y1,rfl,_,h⟩:=B1 h
  obtain⟨b,y2,rfl,_,h⟩:=B1 h
  obtain⟨c,y3,rfl,hc,h⟩:=B1 h
  obtain rfl:y3=[]:=h
  exact⟨.CT a b c,rfl,six hc⟩
 |GP p k=>
  obtain⟨a,y1,rfl,_,h⟩:=B1 h
  obtain⟨b,y2,rfl,_,h⟩:=B1 h
  obtain rfl:y2=[]:=h
  exact⟨.GP a b,rfl,trivial⟩
 |swap l g k n=>
  obtain⟨a,y1,rfl,_,h⟩:=B1 h
  obtain⟨b,y2,rfl,_,h⟩:=B1 h
  obtain⟨c,y3,rfl,_,h⟩:=B1 h
  obtain⟨e,y4,rfl,he,h⟩:=B1 h
  obtain rfl:y4=[]:=h
  exact⟨.swap a b c e,rfl,six he⟩
 |Bx u l g k n=>
  obtain⟨a,y1,rfl,ha,h⟩:=B1 h
  obtain⟨b,y2,rfl,_,h⟩:=B1 h
  obtain⟨c,y3,rfl,_,h⟩:=B1 h
  obtain⟨e,y4,rfl,_,h⟩:=B1 h
  obtain⟨f,y5,rfl,hf,h⟩:=B1 h
  obtain rfl:y5=[]:=h
  exact⟨.Bx a b c e f,rfl,six hf,by lia,by lia⟩
 |CW l n=>
  obtain⟨a,y1,rfl,_,h⟩:=B1 h
  obtain⟨b,y2,rfl,_,h⟩:=B1 h
  obtain rfl:y2=[]:=h
  exact⟨.CW a b,rfl,trivial⟩
 |thr l n ws=>
  obtain⟨a,y1,rfl,_,h⟩:=B1 h
  obtain⟨b,y2,rfl,_,h⟩:=B1 h
  obtain⟨y3,rfl,h9⟩:=Wk h
  obtain rfl:y3=[]:=h9
  exact⟨.thr a b ws,rfl,hr⟩
 |Fe p q x=>
  obtain⟨a,y1,rfl,_,h⟩:=B1 h
  obtain⟨b,y2,rfl,_,h⟩:=B1 h
  obtain⟨y3,rfl,h9⟩:=Wk h
  obtain rfl:y3=[]:=h9
  exact⟨.Fe a b x,rfl,hr⟩
def YO(h:D0 p S)(s:Bq [] S S'):D0 p S':=by
 obtain⟨ds,e,q⟩:=h
 exact⟨ds,s.get e (by simp),q⟩
def V8(Z:Ev):Ex:=(AN (Az 6 (AF DX [eV 0,eV 2,eV 5])) (AN (xIf (eOp (o2 wEq) [AF AG [eV 0,eI 4],eI 0]) (Az 6 (eOp (o2 CM) [eOp (Il false true) [eV 6,eI 1],eOp (o1 B7) [Z]])) BO) (AZ (eV 6))))
def eF:=Be [0] 1 (F1 (eOp (Il true false) [eV 6,eI 1])) (tNm 1) BI eB
theorem dZ:ID=(AN (IP (tTp [tNm 2,tNm 3,tNm 4]) (eV 1)) (AN (Az 5 (AF CF [eV 1])) (AN (M8 (F1 (eV 4)) (tNm 6) (Bm (AF Bf [eV 2,eV 5,eV 6]))) (V8 eF)))):=rfl
def dY(h:CL t ls ds)(hp:D0 p S):∃d S',Bt [.ref p,AK t ls ds] S=Gc (d.d,S')/\Raw t d/\Pn p S S':=by
 have hl0:ls.length<=4:=h.inv.len
 have hlen:=h.len
 obtain⟨s,l,m,as,S1,e1,hS,sm,hn⟩:=OB (S:=S) (t:=t) (ls:=ls) (x:=.tup (ds.map AR.d)) (by lia)
 have hS:SAt S1 s l m as (st0 t ls):=hS
 obtain⟨S2,as2,o,f1,f2,f3,f4⟩:=bK h.tr (E:=[Gc (.ref p),Gc (AK t ls ds),Gc t.d,Gc (.tup (ls.map Ld.d)),Gc (.tup (ds.map AR.d)),Gc (.ref s),none]) hS h.inv h.good (by lia) rfl rfl (by simp)
 have sm2:Bq [] S S2:=Bq.new (A:=[]) sm f3 hn
 have hp2:=YO hp sm2
 have lp:=hp.lt
 have hps:p∉s::l::m::as2:=λz=>by
  simp only[uZ]at z hn
  rcases z with z|z|z|z
  .have:=hn p (.inl z);lia
  .have:=hn p (.inr (.inl z));lia
  .have:=hn p (.inr (.inr (.inl z)));lia
  .rcases f4 _ z with w|w
   .have:=hn p (.inr (.inr (.inr w)));lia
   .have:=sm.len;lia
 have inv:=h.at ds.length
 rw[yf]at inv
 obtain⟨d,S3,e3,p3,can⟩:=cj hp2 f2 hps h.tr inv (by lia)
 have raw:=(ir (Yw can)).1
 obtain⟨r,S4,e4,a4,b4,p4⟩:=Am p3.pen (n:=4) (by decide) (by decide)
 have pn2:Pn p S S2:=⟨sm2.mono (by simp),hp2⟩
 have pre:Bt [.ref p,AK t ls ds] S=(V8 eF [Gc (.ref p),Gc (AK t ls ds),Gc t.d,Gc (.tup (ls.map Ld.d)),Gc (.tup (ds.map AR.d)),Gc (.ref s),o] S2).map λr=>(flD r.1,r.2.2):=by
  have se:=dZ
  generalize V8 eF=Z at*
  simp only[AK]at e1 f1⊢
  simp at f1
  simp[Bt,se,e1,f1]
 rw[pre]
 have a:=jJ d
 by_cases c:r=0
 .subst c
  obtain⟨ys,S5,e5,a5,l5,p5⟩:=UW (xs:=HC d) (acc:=[]) (o:=none) (eK d) p4.pen (by have:=Q8 d;simp;lia)
  obtain⟨d',ed,rd⟩:=aG raw a5
  refine⟨d',S5,?_,rd,((pn2.trans p3).trans p4).trans p5⟩
  have ac:∀o1 o2 o3 o4 o5,eF [Gc (.ref p),o1,o2,o3,o4,o5,Gc d.d] S4=Gc (.lst ys,S5):=by
   intro o1 o2 o3 o4 o5
   have:=pI d
   rw[a]
   rw[vK]at e5
   unfold eF
   generalize eB=AE at*
   generalize HC d=aa at*
   simp[this,NB,e5]
  have cw:=oQ d
  have sz:1+ys.length<=sizeLine:=AJ (by have:=Q8 d;lia)
  rw[<-ed]
  generalize eF=Z at*
  generalize AK t ls ds=bk at*
  generalize t.d=T at*
  rw[a]at e3 ac
  generalize HC d=aa at*
  simp[V8,e3,e4,cw,ac,sz]
 .refine⟨d,S4,?_,raw,(pn2.trans p3).trans p4⟩
  have c':(r==0)=false:=by simpa using c
  generalize eF=Z at*
  generalize AK t ls ds=bk at*
  generalize t.d=T at*
  simp[V8,e3,e4,c']
end
noncomputable def ownAt(x:Ld)(p:Nat):Rat:=x.ow.getD p 0
noncomputable def kindS(ls:Wp Ld)(p kd:Nat):Rat:=((ls.filter λx=>x.k==kd).map λx=>(x.n:Rat)*ownAt x p).sum
noncomputable def BE(k:Nat)(ls:Wp Ld)(p:Nat):Wp Rat:=(u7 k).map (kindS ls p)
def Sl:kindS (ls++[x]) p kd=if x.k=kd then kindS ls p kd+(x.n:Rat)*ownAt x p else kindS ls p kd:=by
 unfold kindS
 rw[List.filter_append,wW,List.sum_append]
 by_cases h:x.k=kd
 .simp[h];grind
 .simp[h];grind
def SM:kindS (x::ls) p kd=(if x.k=kd then(x.n:Rat)*ownAt x p else 0)+kindS ls p kd:=by
 unfold kindS
 rw[List.filter_cons]
 by_cases h:x.k=kd
 .simp[h]
 .simp[h];grind
def QS:BE k (ls++[x]) p=(BE k ls p).set x.k (kindS ls p x.k+(x.n:Rat)*ownAt x p):=by
 unfold BE
 apply AAy
 .simp
 .intro i h1 h2
  rw[List.getElem_set]
  simp only[List.getElem_map,AAU,Sl]
  by_cases h:x.k=i
  .subst h;simp
  .simp[h]
structure Bd(ls:Wp Ld)(G B N K:Nat):Prop where
 g0:0<G
 gK:G<2^K
 hK:2*K<=7500
 own:∀l∈ls,∀r∈l.ow,Ok G B r
 pcs:∀l∈ls,0<=l.n/\l.n<=N
 hB:B<2^K
 hN:N<2^K
 hb:200*(B*N)<2^K
 len:ls.length<=30
def Bd.at(h:Bd ls G B N K)(hx:x∈ls) p:Ok G B (ownAt x p):=by
 unfold ownAt
 rw[u4]
 cases e:x.ow[p]? with
 |none=>exact Ok.zero
 |some r=>exact h.own x hx r (uw e)
def Bd.mul(h:Bd ls G B N K)(hx:x∈ls) p:Ok G (B*N) ((x.n:Rat)*ownAt x p):=(h.at hx p).rG (h.pcs x hx).1 (h.pcs x hx).2
theorem Rb:∀{ls},(∀l∈ls,Ok G C ((l.n:Rat)*ownAt l p))->Ok G (ls.length*C) (kindS ls p kd)
 | [],_=>Ok.zero
 |x::ls,h=>by
  rw[SM]
  have ih:=Rb (kd:=kd) (ls:=ls) λl hl=>h l (uX _ hl)
  have h1:Ok G C (if x.k=kd then(x.n:Rat)*ownAt x p else 0):=by
   split
   .exact h x um
   .exact Ok.zero
  have:=h1.add ih
  rw[vH,Nat.succ_mul,AA5]
  exact this
def Bd.kind(h:Bd ls G B N K):Ok G (30*(B*N)) (kindS ls p kd):=(Rb λl hl=>h.mul hl p).mono (vf _ h.len)
def Bd.take(h:Bd ls G B N K) i:Bd (ls.take i) G B N K:=⟨h.g0,h.gK,h.hK,λl hl=>h.own l (ABf hl),λl hl=>h.pcs l (ABf hl),h.hB,h.hN,h.hb,by have:=h.len;simp;lia⟩
def Bd.nSz(h:Bd ls G B N K)(hx:x∈ls):Sz K (x.n:Rat):=by
 have o:=Ok.int (G:=1) (h.pcs x hx).1 (h.pcs x hx).2
 refine o.sz (by decide) ?_ (by rw[Nat.one_mul];exact h.hN)
 have:=h.gK;have:=h.g0;lia
def Qi{n:Nat}:Nd 0 (n:Int).toNat=(u7 n).map λ(i:Nat)=>D.int i:=by simp[Nd]
def SO:(BE k [] p).map aD=uq k (.tup [.int 0,.int 1]):=by
 apply AAy
 .simp[BE]
 .intro i h1 h2
  simp[BE,kindS,QX]
theorem Jo{α:Type}{gs:Gd}{t:Tf}{f:Ev}{C:En}{m:Nat}{e g:α->D}{S0:Sto}(hg:∀S,Bq [] S0 S->gOk gs S):∀{xs:Wp α} {acc} {os} {S},os.length=m->Bq [] S0 S->acc.length+xs.length<=sizeLine->(∀x∈xs,∀os S,os.length=m->Bq [] S0 S->∃us S',us.length=m/\t (e x) (C++os) S=Gc (C++us)/\f (C++us) S=Gc (g x,S')/\Bq [] S0 S')->∃S',BZ gs t BI f (xs.map e) acc (C++os) S=Gc (acc++xs.map g,S')/\Bq [] S0 S'
 | [],acc,os,S,ho,hS,hz,h=>⟨S,by rw[wG,DA (hg S hS)];simp,hS⟩
 |x::xs,acc,os,S,ho,hS,hz,h=>by
  obtain⟨us,S1,hu,e1,e2,s1⟩:=h x um os S ho hS
  obtain⟨S2,e3,s2⟩:=Jo hg (acc:=acc++[g x]) hu s1 (by simp at hz ⊢; lia) λx' hx=>h x' (uX _ hx)
  refine⟨S2,?_,s2⟩
  rw[ux,FH (hg S hS) (by simp at hz;lia) e1 Ds,e2,A3,e3]
  simp
def E9.bd(h:E9 t k s)(hk:k<=20):∃G B N K,Bd s.AA G B N K:=by
 obtain⟨G,B,g0,gb,b,h1,h2⟩:=h.gb
 have hB:B<2^3430:=uV b (vN (by decide) (by lia))
 have hB':B<2^3700:=uV hB (vN (by decide) (by decide))
 have hN:(2^151:Nat)<2^152:=Nat.pow_lt_pow_right (by decide) (by decide)
 refine⟨G,B,2^151,3700,g0,vM gb hB',by decide,h1,λl hl=>?_,hB',uV hN (vN (by decide) (by decide)),?_,by have:=h.len;lia⟩
 .have:=h.pcs l hl
  refine⟨this.1,?_⟩
  have e:(2:Int)^(131+k)<=((2^151:Nat):Int):=by
   have:(2:Nat)^(131+k)<=2^151:=vN (by decide) (by lia)
   exact_mod_cast this
  lia
 .have:=Df (show 200<2^8 by decide) (Df hB hN)
  exact uV this (vN (by decide) (by decide))
section
variable{ls:Wp Ld}
def Y0{x:Ld}(h:p<x.ow.length):atI (x.ow.map aD) (p:Int)=Gc (aD (ownAt x p)):=B2 (by
 rw[uo,uT h]
 simp[ownAt,u4,uT h])
def nk(h:∀l∈ls,p<l.ow.length)(hl:ls.length<=30):BZ [] (tNm 1) BI (eOp (o2 wIx) [eV 1,eV 0]) (ls.map λx=>shD x.ow) [] [Gc (.int p),none] T=Gc (ls.map (λx=>aD (ownAt x p)),T):=
 EN (gs:=[]) (t:=tNm 1) (f:=eOp (o2 wIx) [eV 1,eV 0]) (C:=[Gc (.int p)]) (m:=1) (e:=λx:Ld=>shD x.ow) (g:=λx=>aD (ownAt x p)) (S:=T) AW (xs:=ls) (acc:=[]) (os:=[none]) rfl (ub (show _<=50 by simp;lia) (AJ (by decide))) (by
  intro x hx os ho
  obtain⟨o1,rfl⟩:=NC ho
  have a:=Y0 (h x hx)
  refine⟨[Gc (shD x.ow)],rfl,by simp,?_⟩
  simp[shD,a])
end
def bA{rs:Wp Rat}(hG:0<G)(gK:G<2^K)(hK:2*K<=7990)(hr:∀r∈rs,Ok G B r)(hb:rs.length*B<2^K):GO [.lst (rs.map aD)] S=Gc (aD rs.sum,S):=by
 obtain⟨o',e⟩:=OS (F:=BY) (λS h1 h2 h3=>Pk h1 h2 h3) (gs:=[]) (S:=S) AW (X:=Gc (.lst (rs.map aD))) (B:=B) hG gK hK (rs:=rs) (acc:=0) (m:=0) (o:=none) (by rw[Nat.zero_mul];exact Ok.zero) hr (by simpa using hb)
 have ez:(0:Rat)+rs.sum=rs.sum:=by grind
 rw[ez,QX]at e
 simp[GO,O2,e]
section
variable{L:Wp Ld}{G B N K p kd:Nat}
noncomputable def QV(L:Wp Ld)(p kd:Nat):Wp Rat:=(L.filter λx=>x.k==kd).map λx=>(x.n:Rat)*ownAt x p
def hU(hg:gOk gs S)(h:Bd L G B N K)(hp:∀l∈L,p<l.ow.length):BZ gs (tNm 2) (eOp (o2 wEq) [eOp (o2 wIx) [eV 2,eC (.int 0)],eV 1]) (AF Ae [BC [eOp (o2 wIx) [eV 2,eC (.int 1)],eC (.int 1)],eOp (o2 wIx) [eOp (o2 wIx) [eV 2,eC (.int 2)],eV 0]]) (L.map Ld.d) [] [Gc (.int p),Gc (.int kd),none] S=Gc ((QV L p kd).map aD,S):=by
 have e:=Ea (gs:=gs) (t:=tNm 2) (c:=eOp (o2 wEq) [eOp (o2 wIx) [eV 2,eC (.int 0)],eV 1]) (f:=AF Ae [BC [eOp (o2 wIx) [eV 2,eC (.int 1)],eC (.int 1)],eOp (o2 wIx) [eOp (o2 wIx) [eV 2,eC (.int 2)],eV 0]]) (C:=[Gc (.int p),Gc (.int kd)]) (m:=1) (e:=Ld.d) (g:=λx=>aD ((x.n:Rat)*ownAt x p)) (b:=λx=>x.k==kd) (S:=S) hg (xs:=L) (acc:=[]) (os:=[none]) rfl (ub (show _<=50 by have:=h.len;simp;lia) (AJ (by decide))) (by
  intro x hx os ho
  obtain⟨o1,rfl⟩:=NC ho
  have:((x.k:Int)==(kd:Int))=(x.k==kd):=by
   rw[wg,wJ,wJ]
   lia
  have tm:=JJ (S:=S) (h.nSz hx) ((h.at hx p).sz h.g0 h.gK h.hB) (by have:=h.hK;lia)
  rw[VR]at tm
  have a:=Y0 (hp x hx)
  refine⟨[Gc x.d],rfl,by simp,by simp[Ld.d,this],?_⟩
  generalize aD ((x.n:Rat)*ownAt x p)=D1 at*
  generalize aD (ownAt x p)=D2 at*
  simp[Ld.d,shD,a,tm])
 rw[QV,wD]
 exact e
def dW(h:Bd L G B N K):GO [.lst ((QV L p kd).map aD)] S=Gc (aD (kindS L p kd),S):=by
 refine bA (B:=B*N) h.g0 h.gK (by have:=h.hK;lia) (λr hr=>?_) ?_
 .obtain⟨x,hx,rfl⟩:=vT.mp hr
  exact h.mul ((yK.mp hx).1) p
 .have l1:(QV L p kd).length<=30:=by
   rw[QV,vO]
   exact ub (yR _ _) h.len
  have:=vf (B*N) l1
  have:=h.hb
  lia
end
section
variable{ls:Wp Ld}
def bz(hk:k<=20)(hkind:∀l∈ls,l.k<k)(h:Bd ls G B N K):∃S',B3 [.int k,Au ls,.lst (ls.map λx=>aD (ownAt x p))] S=Gc (shD (BE k ls p),S')/\Bq [] S S':=by
 have ez:Nu (ls.map hD) (ls.map λx=>aD (ownAt x p))=ls.map λx=>.tup [hD x,aD (ownAt x p)]:=by
  unfold Nu
  rw[List.zip_map',wD]
  rfl
 have hq:(S++[Cl.lst ((BE k [] p).map aD)])[S.length]?=Gc (.lst ((BE k [] p).map aD)):=uz
 generalize hQ:S.length=q at*
 obtain⟨E',S',ef,i,o4,o5,o6,f1,f2,rfl,f3,f4⟩:=Gm (gs:=[]) (t:=tTp [tTp [tNm 5,tNm 6],tNm 4]) (b:=Mt (AF Ez [eOp (o2 wIx) [eV 3,eV 5],AF FN [BC [eV 6,eC (.int 1)],eV 4]]) (eV 3) (eV 5))
  (I:=λrs E S'=>∃(i:Nat) (o4 o5 o6:uS D),rs=(ls.drop i).map (λx=>D.tup [hD x,aD (ownAt x p)])/\i<=ls.length/\E=[Gc (.int k),Gc (Au ls),Gc (.lst (ls.map λx=>aD (ownAt x p))),Gc (.ref q),o4,o5,o6]/\S'[q]?=Gc (.lst ((BE k (ls.take i) p).map aD))/\Bq [] S S')
  (λ_ _ _ _=>AW) (ds:=ls.map λx=>D.tup [hD x,aD (ownAt x p)]) (E:=[Gc (.int k),Gc (Au ls),Gc (.lst (ls.map λx=>aD (ownAt x p))),Gc (.ref q),none,none,none]) (S:=S++[Cl.lst ((BE k [] p).map aD)])
  ⟨0,none,none,none,by simp,wM _,rfl,by simpa using hq,.app⟩ (by
    rintro dd rs E T ⟨i,o4,o5,o6,i1,i2,rfl,i3,i4⟩
    have hlt:i<ls.length:=by
     rcases xp i ls.length with w|w
     .exact w
     .rw[v5 w]at i1;cases i1
    rw[vQ hlt,ux]at i1
    injection i1 with z1 z2
    subst z1 z2
    have hm:ls[i]∈ls:=yD hlt
    have htk:ls.take (i+1)=ls.take i++[ls[i]]:=by rw[ABW,uT hlt];rfl
    have tm:=ZX (S:=T) (h.nSz hm) ((h.at hm p).sz h.g0 h.gK h.hB) (by have:=h.hK;lia)
    rw[VR]at tm
    have zb:30*(B*N)<2^K:=by have:=h.hb;lia
    have zb1:B*N<2^K:=by have:=h.hb;lia
    have pl:=dm (S:=T) ((h.take i).kind (p:=p) (kd:=ls[i].k)|>.sz h.g0 h.gK zb) ((h.mul hm p).sz h.g0 h.gK zb1) (by have:=h.hK;lia)
    have hkd:=hkind _ hm
    have at1:atI ((BE k (ls.take i) p).map aD) (ls[i].k:Int)=Gc (aD (kindS (ls.take i) p ls[i].k)):=B2 (by
     rw[uo,BE,uo,yl hkd];rfl)
    have ix1:ixN ((BE k (ls.take i) p).map aD).length (ls[i].k:Int)=Gc ls[i].k:=Lg (by simp[BE];exact hkd)
    have ef:((BE k (ls.take i) p).map aD).set ls[i].k (aD (kindS (ls.take i) p ls[i].k+(ls[i].n:Rat)*ownAt ls[i] p))=(BE k (ls.take (i+1)) p).map aD:=by rw[htk,QS,yI]
    have dq:=An i3
    have cq:=AQ i3
    generalize (BE k (ls.take i) p).map aD=V at*
    generalize hx:ls[i]=x at*
    generalize aD (kindS (ls.take i) p x.k+(x.n:Rat)*ownAt x p)=D1 at*
    generalize aD ((x.n:Rat)*ownAt x p)=D2 at*
    generalize aD (kindS (ls.take i) p x.k)=D3 at*
    have lq:=i4.len
    refine⟨_,[Gc (.int k),Gc (Au ls),Gc (.lst (ls.map λx=>aD (ownAt x p))),Gc (.ref q),Gc (aD (ownAt x p)),Gc (.int x.k),Gc (.int x.n)],T.set q (.lst (V.set x.k D1)),by simp;rfl,?_,i+1,_,_,_,rfl,hlt,rfl,by rw[<-ef];exact ui (Ai i3),Bq.new (A:=[]) (B:=[q]) i4 (.set (by simp)) (by intro n hn';simp at hn';lia)⟩
    generalize aD (ownAt x p)=D4 at*
    simp[dq,at1,tm,pl,cq,ix1])
 have hz:i=ls.length:=by
  have:=congrArg yZ f1
  simp at this
  lia
 subst hz
 rw[yf]at f3
 refine⟨S',?_,f4⟩
 have m1:B5 (.val (.lst [Dt])) (.val (.int k))=Gc (.own ((BE k [] p).map aD)):=by
  have hs:k<=sizeLine:=AJ (by lia)
  have h1:(k:Int)<2^63:=by lia
  have h2: -(2:Int)^63<=k:=by lia
  rw[SO,Rn,vD (by simp[hs];lia)]
  simp[PM,Dt]
 have df:=An f3
 generalize (BE k [] p).map aD=V0 at*
 rw[show shD (BE k ls p)=.tup ((BE k ls p).map aD)from rfl]
 generalize (BE k ls p).map aD=V1 at*
 have dh:sqD (S++[Cl.lst V0]) (Au ls)=Gc (ls.map hD,[]):=nr rfl
 simp[B3,GH,-Rn,m1,hQ,dh,ez,ef,df]
end
def aw(h:CL t ls ds)(hn:n<=ds.length):∃S',Du [AK t ls ds,.int n] S=Gc (.lst ((u7 t.p).map λp=>shD (BE t.k (runs t (st0 t ls) (ds.take n)).AA p)),S')/\Bq [] S S':=by
 obtain⟨S1,e1,s1⟩:=YN (S:=S) h hn
 have il:(ds.take n).length<=20:=by have:=h.len;simp;lia
 have inv:=h.at n
 obtain⟨G,B,N,K,bd⟩:=inv.bd il
 have ho:=inv.own
 have hk:=inv.kind
 obtain⟨t1,t2,t3,t4,t5,t6⟩:=h.tr
 generalize (runs t (st0 t ls) (ds.take n)).AA=L at*
 generalize (runs t (st0 t ls) (ds.take n)).hold=Ho at*
 obtain⟨S2,e2,s2⟩:=Jo (gs:=[]) (t:=tNm 3) (f:=AF B3 [eV 0,eV 1,Be [3] 1 (F1 (eV 2)) (tNm 1) BI (eOp (o2 wIx) [eV 1,eV 0])]) (C:=[Gc (.int t.k),Gc (Au L),Gc (KC L)]) (m:=1) (e:=λp:Nat=>D.int p) (g:=λp=>shD (BE t.k L p)) (S0:=S1) (λ_ _=>AW) (xs:=u7 t.p) (acc:=[]) (os:=[none]) (S:=S1) rfl .refl (ub (show _<=50 by simp;lia) (AJ (by decide))) (by
  intro p hp os T ho' hT
  obtain⟨o1,rfl⟩:=NC ho'
  have hp':p<t.p:=by simpa using hp
  have pc:=nk (ls:=L) (p:=p) (T:=T) (λl hl=>by rw[ho l hl];exact hp') bd.len
  obtain⟨T2,e3,s3⟩:=bz (S:=T) (k:=t.k) (by lia) (p:=p) hk bd
  refine⟨[Gc (.int p)],T2,rfl,by simp,?_,hT.trans s3⟩
  have dh:sqD T (KC L)=Gc (L.map (λx=>shD x.ow),[]):=nr rfl
  simp[dh,NB,pc,e3])
 refine⟨S2,?_,s1.trans s2⟩
 have rk:Jc (t.p:Int)=true:=ET (by lia) (by lia)
 have ct:IJ [D.int t.p,D.int t.k,D.int t.b,shD t.ho,D.int t.h,D.int t.l] none (Gc 2)=[.int t.p,.int t.k]:=nr rfl
 have td:wSl none (Gc 2) (.val t.d)=Gc (.val (.tup [.int t.p,.int t.k])):=nr rfl
 have dt:dr S t.d=.val t.d:=rfl
 rw[<-Qi]at e2
 simp only[AK]at e1⊢
 simp only[vK,vV,xj]at e2
 simp[Du,Hg,dt,td,e1,rk,NB,e2]
section
variable{t:Tr}
def TF(hp:p<t.p):Bg [AK t ls ds,.int p] S=Gc (.non,S):=by
 have h1:(p:Int)<=(t.p:Int)-1:=by omega
 have k1:St.Kd.int.isA "int"=true:=by decide
 have k2:St.Kd.int.isA "bool"=false:=by decide
 simp[k1,k2,Bg,EY,CN,F3,Ac,Dp,Bp,GU,Cn,Fq,AK,Tr.d,kdW,h1]
def WC(hp:p<n):atI ((u7 n).map λp=>shD (BE k L p)) (p:Int)=Gc (shD (BE k L p)):=B2 (by rw[uo,yl hp];rfl)
def pN(h:CL t ls ds)(hn:n<=ds.length)(hp:p<t.p):∃S',Dy [AK t ls ds,.int n,.int p] S=Gc (shD (BE t.k (runs t (st0 t ls) (ds.take n)).AA p),S')/\Bq [] S S':=by
 obtain⟨S1,e1,s1⟩:=aw (S:=S) h hn
 have r1:=MC (S:=S) h
 have r2:=Uo (S:=S) (t:=t) (ls:=ls) hn
 have r3:=TF (S:=S) (ls:=ls) (ds:=ds) hp
 have a:=WC (k:=t.k) (L:=(runs t (st0 t ls) (ds.take n)).AA) hp
 refine⟨S1,?_,s1⟩
 simp[Dy,J0,r1,r2,r3,e1,a]
noncomputable def WB(t:Tr)(L:Wp Ld):Wp D:=(u7 t.p).map λp=>shD (BE t.k L p)
def Wx:Ou (.lst (WB t L)) (.lst (WB t L))=true/\deq (.lst (WB t L)) (.lst (WB t L))=true:=
 ⟨Me (Fg λ_ _=>Rw) (ub (oS (n:=3) (by
   intro d hd
   obtain⟨r,_,rfl⟩:=vT.mp hd
   exact nj)) (by decide)),OM (Fg λ_ _=>Rw)⟩
end
def Sw(ht:IB t)(h:Bd L G B N K)(hp:∀l∈L,p<l.ow.length):∃S',Dc [.tup [t.d,x,y],.lst (L.map Ld.d),.int p] S=Gc (shD (BE t.k L p),S')/\Bq [] S S':=by
 obtain⟨t1,t2,t3,t4,t5,t6⟩:=ht
 have hq:(S++[Cl.lst []])[S.length]?=Gc (.lst []):=uz
 generalize hQ:S.length=q at*
 obtain⟨E',S',ef,i,o,o5,f1,f2,rfl,f3,f4⟩:=Gm (gs:=[]) (t:=tNm 4) (b:=AN (Az 5 (Be [2,4] 1 (F1 (eV 1)) (tNm 2) (eOp (o2 wEq) [eOp (o2 wIx) [eV 2,eC (.int 0)],eV 1]) (AF Ae [BC [eOp (o2 wIx) [eV 2,eC (.int 1)],eC (.int 1)],eOp (o2 wIx) [eOp (o2 wIx) [eV 2,eC (.int 2)],eV 0]])))
  (Bm (NH NV (eV 3) [AF GO [eV 5]])))
  (I:=λrs E S'=>∃(i:Nat) (o o5:uS D),rs=((u7 t.k).drop i).map (λ(i:Nat)=>D.int i)/\i<=t.k/\E=[Gc (.tup [t.d,x,y]),Gc (.lst (L.map Ld.d)),Gc (.int p),Gc (.ref q),o,o5]/\S'[q]?=Gc (.lst (((u7 i).map (kindS L p)).map aD))/\Bq [] S S')
  (λ_ _ _ _=>AW) (ds:=(u7 t.k).map λ(i:Nat)=>D.int i) (E:=[Gc (.tup [t.d,x,y]),Gc (.lst (L.map Ld.d)),Gc (.int p),Gc (.ref q),none,none]) (S:=S++[Cl.lst []])
  ⟨0,none,none,by simp,wM _,rfl,by simpa using hq,.app⟩ (by
    rintro dd rs E T ⟨i,o,o5,i1,i2,rfl,i3,i4⟩
    have hlt:i<t.k:=by
     rcases xp i t.k with w|w
     .exact w
     .rw[v5 (by simpa using w)]at i1;cases i1
    rw[vQ (by simpa using hlt),ux,AAU]at i1
    injection i1 with z1 z2
    subst z1 z2
    have c:=hU (S:=T) (gs:=[]) (kd:=i) AW h hp
    have sm:=dW (S:=T) (p:=p) (kd:=i) h
    have cq:=AQ i3
    have e2:((u7 (i+1)).map (kindS L p)).map aD=((u7 i).map (kindS L p)).map aD++[aD (kindS L p i)]:=by
     rw[List.range_succ,wW,wW];rfl
    have hz:(((u7 i).map (kindS L p)).map aD).length<sizeLine:=uV (show _<50 by simp;omega) (AJ (by decide))
    have lq:=i4.len
    refine⟨_,[Gc (.tup [t.d,x,y]),Gc (.lst (L.map Ld.d)),Gc (.int p),Gc (.ref q),Gc (.int i),Gc (.lst ((QV L p i).map aD))],T.set q (.lst (((u7 (i+1)).map (kindS L p)).map aD)),by simp;rfl,?_,i+1,_,_,rfl,hlt,rfl,ui (Ai i3),Bq.new (A:=[]) (B:=[q]) i4 (.set (by simp)) (by intro n hn';simp at hn';omega)⟩
    rw[e2]
    generalize ((u7 i).map (kindS L p)).map aD=V at*
    generalize aD (kindS L p i)=D1 at*
    generalize (QV L p i).map aD=D2 at*
    simp[cq,NB,c,sm,hz])
 have hz:i=t.k:=by
  have:=congrArg yZ f1
  simp at this
  omega
 subst hz
 have df:=An f3
 refine⟨S',?_,f4⟩
 have rk:Jc (t.k:Int)=true:=ET (by omega) (by omega)
 have td:wIx (.val t.d) (.val (.int 1))=Gc (.val (.int t.k)):=by simp[Tr.d]
 have tb:wIx (.val (.tup [t.d,x,y])) (.val (.int 0))=Gc (.val t.d):=by simp
 have dt:∀T,dr T t.d=.val t.d:=λ_=>rfl
 rw[<-Qi]at ef
 simp only[xj]at ef
 simp[Dc,Kw,hQ,-VX,tb,td,dt,rk,ef,df,shD,BE]
def W8(hL:LAt S L q (AK t ls ds) m)(h:CL t ls ds)(hp:p<t.p):∃S',BV [.ref L,.int p] S=Gc (shD (BE t.k (runs t (st0 t ls) ds).AA p),S')/\Bq [] S S':=by
 obtain⟨S1,e1,s1⟩:=pN (S:=S) h (n:=ds.length) (ue _) hp
 rw[yf]at e1
 refine⟨S1,?_,s1⟩
 have hi:=hL.ins
 have ik:=hL.kept (E:=[Gc (.ref L),Gc (.int p)]) (i:=0) rfl
 have il:(eOp (o1 Eu) [eIx (Og "Leader" "kept" (eV 0)) (eI 2)]) [Gc (.ref L),Gc (.int p)] S=Gc (.int ds.length,S):=by
  simp[hi,AK]
 generalize hz1:(eOp (o1 Eu) [eIx (Og "Leader" "kept" (eV 0)) (eI 2)])=Z1 at il
 generalize hz:Og "Leader" "kept" (eV 0)=Z at ik
 have eb:GL=(AZ (AF Dy [Z,Z1,eV 1])):=by rw[<-hz,<-hz1];rfl
 generalize AK t ls ds=bk at*
 simp[BV,eb,ik,il,e1]
def soB:=AN (Az 2 (eIx (eIx (AF Eh [eV 1]) (eOp (o1 Ts) [eI 1])) (eI 0))) (AN (Az 3 (Be [0] 1 (Ow [eIx (eIx (eV 1) (eI 0)) (eI 0)]) (tNm 1) BI (HQ "Leader" "theirs" BV (eV 0) [eV 1]))) (AZ (eOp (o2 wEq) [eV 3,Be [1,2] 1 (Ow [eIx (eIx (eV 1) (eI 0)) (eI 0)]) (tNm 2) BI (AF Dc [eV 0,eV 1,eV 2])])))
def gM(hL:LAt S L q (AK t ls ds) m)(h:CL t ls ds):∃S',DM [.ref L,AK t ls ds] S=Gc (.bl true,S')/\Bq [] S S':=by
 obtain⟨q1,S1,e1,c1,s1⟩:=TQ (S:=S) h
 have hlen:=h.len
 obtain⟨t1,t2,t3,t4,t5,t6⟩:=h.tr
 have inv:=h.at ds.length
 rw[yf]at inv
 obtain⟨G,B,N,K,bd⟩:=inv.bd hlen
 have hL1:=hL.same s1
 obtain⟨S2,e2,s2⟩:=Jo (gs:=[]) (t:=tNm 1) (f:=HQ "Leader" "theirs" BV (eV 0) [eV 1]) (C:=[Gc (.ref L)]) (m:=1) (e:=λp:Nat=>D.int p) (g:=λp=>shD (BE t.k (runs t (st0 t ls) ds).AA p)) (S0:=S1) (λ_ _=>AW) (xs:=u7 t.p) (acc:=[]) (os:=[none]) (S:=S1) rfl .refl (ub (show _<=50 by simp;lia) (AJ (by decide))) (by
  intro p hp os T ho' hT
  obtain⟨o1,rfl⟩:=NC ho'
  have hLT:=hL1.same hT
  obtain⟨T2,e3,s3⟩:=W8 hLT h (p:=p) (by simpa using hp)
  have hi:=hLT.ins
  have lt:(lds (AK t ls ds) q).lookup (u9 "theirs")=none:=nr rfl
  refine⟨[Gc (.int p)],T2,rfl,by simp,?_,hT.trans s3⟩
  generalize AK t ls ds=bk at*
  simp[hi,lt,e3])
 obtain⟨S3,e4,s3⟩:=Jo (gs:=[]) (t:=tNm 2) (f:=AF Dc [eV 0,eV 1,eV 2]) (C:=[Gc (AK t ls ds),Gc (.lst ((runs t (st0 t ls) ds).AA.map Ld.d))]) (m:=1) (e:=λp:Nat=>D.int p) (g:=λp=>shD (BE t.k (runs t (st0 t ls) ds).AA p)) (S0:=S2) (λ_ _=>AW) (xs:=u7 t.p) (acc:=[]) (os:=[none]) (S:=S2) rfl .refl (ub (show _<=50 by simp;lia) (AJ (by decide))) (by
  intro p hp os T ho' hT
  obtain⟨o1,rfl⟩:=NC ho'
  obtain⟨T2,e3,s3⟩:=Sw (S:=T) (p:=p) (x:=.tup (ls.map Ld.d)) (y:=.tup (ds.map AR.d)) h.tr bd (λl hl=>by rw[inv.own l hl];simpa using hp)
  refine⟨[Gc (.int p)],T2,rfl,by simp,?_,hT.trans s3⟩
  simp only[AK]
  simp[e3])
 rw[<-Qi]at e2 e4
 simp only[vK,vV,xj]at e2 e4
 have rk:Jc (t.p:Int)=true:=ET (by lia) (by lia)
 have d1:=An c1
 have k1:=dR hL
 have hi:=hL.ins
 have lt:(lds (AK t ls ds) q).lookup (u9 "book")=none:=nr rfl
 obtain⟨w1,w2⟩:=Wx (t:=t) (L:=(runs t (st0 t ls) ds).AA)
 unfold WB at w1 w2
 have ob:=UD (t:=t) (ls:=ls) (ds:=ds)
 have db:=YZ (t:=t) (ls:=ls) (ds:=ds)
 have ib:asS (dr S1 (AK t ls ds))=Gc [t.d,.tup (ls.map Ld.d),.tup (ds.map AR.d)]:=rfl
 have ib2:asS (dr S2 (AK t ls ds))=Gc [t.d,.tup (ls.map Ld.d),.tup (ds.map AR.d)]:=rfl
 have it1:asS (dr S1 t.d)=Gc [.int t.p,.int t.k,.int t.b,shD t.ho,.int t.h,.int t.l]:=rfl
 have it2:asS (dr S2 t.d)=Gc [.int t.p,.int t.k,.int t.b,shD t.ho,.int t.h,.int t.l]:=rfl
 have fb:fz (dr S (AK t ls ds))=AK t ls ds:=rfl
 have la:atI ((u7 (ds.length+1)).map λj=>stD (runs t (st0 t ls) (ds.take j))) (-1)=Gc (stD (runs t (st0 t ls) ds)):=by
  have ix:ixN ((u7 (ds.length+1)).map λj=>stD (runs t (st0 t ls) (ds.take j))).length (-1)=Gc ds.length:=by
   rw[vO,List.length_range]
   unfold ixN
   simp
   lia
  unfold atI
  rw[ix]
  show((u7 (ds.length+1)).map λj=>stD (runs t (st0 t ls) (ds.take j)))[ds.length]?=_
  rw[uo,yl (by lia)]
  simp
 refine⟨S3,?_,(s1.trans s2).trans s3⟩
 have eb:Ml=(AN (xIf (eOp (o2 wNe) [HQ "Leader" "book" Ck (eV 0) [],eV 1]) (AZ (eC (.bl false))) BO) soB):=rfl
 generalize ((u7 (ds.length+1)).map λj=>stD (runs t (st0 t ls) (ds.take j)))=STS at*
 generalize ((u7 t.p).map λp=>shD (BE t.k (runs t (st0 t ls) ds).AA p))=RW at*
 have sd:asS (dr S1 (stD (runs t (st0 t ls) ds)))=Gc [.lst ((runs t (st0 t ls) ds).AA.map Ld.d),shD (runs t (st0 t ls) ds).hold]:=rfl
 generalize stD (runs t (st0 t ls) ds)=SS at*
 generalize (runs t (st0 t ls) ds).AA.map Ld.d=LL at*
 generalize shD (runs t (st0 t ls) ds).hold=HH at*
 generalize AK t ls ds=bk at*
 simp[DM,eb,hi,lt,k1,fb,ob,db,soB,e1,d1,la,sd,ib,ib2,it1,it2,rk,NB,e2,e4,w1,w2]
section
variable{S:Sto}{t:Tr}{ls:Wp Ld}
def Qy(ht:IB t)(hh:t.ho.length=t.p/\t.ho.sum=1)(hr:qT t)(g0:0<G)(g1:G<=32)(g2:∀r∈t.ho,Ok G G r):DY [t.d] S=Gc (.bl true,S):=by
 obtain⟨t1,t2,t3,t4,t5,t6⟩:=ht
 obtain⟨r1,r2,r3,r4⟩:=hr
 have O:=Pj (S:=S) (K:=10) hh.1 t2 g0 (vM g1 (by decide)) (by decide) g2 (vM (ABu 4 g1) (by decide)) hh.2
 have k3:St.Kd.tup.isA "tuple"=true:=by decide
 have it:Ah [t.d,.int 6] S=Gc (.bl true,S):=by
  simp[Ah,Cj,Tr.d,kdW,k3]
 have w1:=within_int (S:=S) (i:=t.p) (j:=1) (k:=4)
 have w2:=within_int (S:=S) (i:=t.k) (j:=1) (k:=5)
 have w3:=within_int (S:=S) (i:=t.b) (j:=1) (k:=20)
 have w4:=within_int (S:=S) (i:=t.h) (j:=0) (k:=9)
 have w5:=within_int (S:=S) (i:=t.l) (j:=0) (k:=9)
 have q1:(decide ((1:Int)<=t.p) && decide ((t.p:Int)<=4))=true:=by simp;lia
 have q2:(decide ((1:Int)<=t.k) && decide ((t.k:Int)<=5))=true:=by simp;lia
 have q3:(decide ((1:Int)<=t.b) && decide ((t.b:Int)<=20))=true:=by simp;lia
 have q4:(decide ((0:Int)<=t.h) && decide (t.h<=9))=true:=by simp;lia
 have q5:(decide ((0:Int)<=t.l) && decide (t.l<=9))=true:=by simp;lia
 rw[q1]at w1
 rw[q2]at w2
 rw[q3]at w3
 rw[q4]at w4
 rw[q5]at w5
 have td:t.d=.tup [.int t.p,.int t.k,.int t.b,shD t.ho,.int t.h,.int t.l]:=rfl
 rw[td]at it⊢
 generalize shD t.ho=ho at*
 simp[DY,K5,it,w1,w2,w3,w4,w5,O]
def P9(ht:IB t)(hf:F9 t ls)(hl:ls.length<=4):Cq [t.d,.tup (ls.map Ld.d)] S=Gc (.bl true,S):=by
 obtain⟨ha,G,G0,G1,G2⟩:=hf
 have hG:G<=32^4:=ub G1 (vN (by decide) hl)
 have hG:G<=1048576:=hG
 have k3:St.Kd.tup.isA "tuple"=true:=by decide
 have d1:dr S Eb=.val (.int 4):=rfl
 obtain⟨bs,e1,e2⟩:=mR (S:=S) (f:=D7 (AF D9 [eV 0,eV 1]) (eOp (o2 wGt) [eIx (eV 1) (eI 1),eI 0])) (e:=Ld.d) (C:=[Gc t.d]) (os:=[none]) (xs:=ls) (gs:=[]) (t:=tNm 1) AW (by lia) rfl (by
  intro x hx os ho
  obtain⟨a,rfl⟩:=NC ho
  obtain⟨h1,h2,h3,h4,h5⟩:=ha x hx
  have e:=Ti (S:=S) (K:=30) ht h1 (by lia) h4 G0 (vM hG (by decide)) (by decide) (G2 x hx) (vM (ABu 4 hG) (by decide)) h5
  have n0:(0:Int)<x.n:=by lia
  have ix:asS (dr S x.d)=Gc [.int x.k,.int x.n,shD x.ow]:=rfl
  refine⟨[Gc x.d],rfl,by simp,?_⟩
  generalize x.d=X at*
  generalize t.d=T at*
  simp[e,ix,n0])
 obtain⟨b',e3,e4⟩:=xH.mp e2
 have c1:¬(4:Int)<ls.length:=by lia
 generalize t.d=T at*
 generalize hz:D7 (AF D9 [eV 0,eV 1]) (eOp (o2 wGt) [eIx (eV 1) (eI 1),eI 0])=Z at e1
 have eb:Ji=(AN (xIf (eOr (E7 (eOp (o2 QH) [eV 1,eC (.ty "tuple")])) (eOp (o2 wGt) [eOp (o1 Eu) [eV 1],eC Eb])) (AZ (eC (.bl false))) BO)
  (AZ (eOp (o1 Ww) [Be [0] 1 (F1 (eV 1)) (tNm 1) BI Z]))):=by rw[<-hz];rfl
 simp only[vV,vK]at e1
 simp[Cq,eb,kdW,k3,d1,c1,NB,e1,e3,e4]
def hV(ht:DY [t.d] (S++[.ins "Leader" []])=Gc (.bl true,S++[.ins "Leader" []]))(hf:Cq [t.d,.tup (ls.map Ld.d)] (S++[.ins "Leader" []])=Gc (.bl true,S++[.ins "Leader" []]))(ef:∀T,f E T=Gc (t.d,T))(eg:∀T,g E T=Gc (.tup (ls.map Ld.d),T)):∃S',Qm "Leader" Bo [f,g] E S=Gc (.ref S.length,S')/\LAt S' S.length (S.length+1) (AK t ls []) 0/\Bq [] S S':=by
 have o1:(S++[Cl.ins "Leader" []])[S.length]?=Gc (.ins "Leader" []):=uz
 have s3:1+1+1<=sizeLine:=AJ (by decide)
 have s0:0<=sizeLine:=wM _
 have x1:=Qs (d:=AK t ls []) (n:=S.length) (f:="kept") (E:=[Gc (.ref S.length),Gc t.d,Gc (.tup (ls.map Ld.d))]) (o:=eV 0) (v:=BC [eV 1,eV 2,BC []]) (S:=S++[Cl.ins "Leader" []]) (S1:=S++[Cl.ins "Leader" []]) (S2:=S++[Cl.ins "Leader" []]) (C:="Leader") (by simp[AK,s3]) (by simp) o1 (by decide)
 have e1:(S++[Cl.ins "Leader" []]).set S.length (.ins "Leader" (Lf "kept" (AK t ls []) []))=S++[Cl.ins "Leader" [("kept",AK t ls [])]]:=by simp[Lf]
 rw[e1]at x1
 have x2:=Qs (d:=.ref (S.length+1)) (n:=S.length) (f:="earlier") (E:=[Gc (.ref S.length),Gc t.d,Gc (.tup (ls.map Ld.d))]) (o:=eV 0) (v:=JZ []) (S:=S++[Cl.ins "Leader" [("kept",AK t ls [])]]) (S1:=(S++[Cl.ins "Leader" [("kept",AK t ls [])]])++[.lst []]) (S2:=(S++[Cl.ins "Leader" [("kept",AK t ls [])]])++[.lst []]) (C:="Leader") (as:=[("kept",AK t ls [])]) (by simp[s0]) (by simp) (by simp) (by simp)
 have e2:((S++[Cl.ins "Leader" [("kept",AK t ls [])]])++[Cl.lst []]).set S.length (.ins "Leader" (Lf "earlier" (.ref (S.length+1)) [("kept",AK t ls [])]))=S++[lead (AK t ls []) (S.length+1),.lst []]:=by
  have:Lf (u9 "earlier") (.ref (S.length+1)) [(u9 "kept",AK t ls [])]=lds (AK t ls []) (S.length+1):=nr rfl
  rw[this]
  simp[lead]
 rw[e2]at x2
 refine⟨S++[lead (AK t ls []) (S.length+1),.lst []],?_,⟨by simp,[],by simp,ue _⟩,.app⟩
 have nw:Bo [.ref S.length,t.d,.tup (ls.map Ld.d)] (S++[.ins "Leader" []])=Gc (.non,S++[lead (AK t ls []) (S.length+1),.lst []]):=by
  generalize hz1:YE "Leader" "kept" (eV 0) (BC [eV 1,eV 2,BC []])=Z1 at x1
  generalize hz2:YE "Leader" "earlier" (eV 0) (JZ [])=Z2 at x2
  have eb:Ib=(AN (xIf (E7 (AF DY [eV 1])) Cp BO)
  (AN (xIf (E7 (AF Cq [eV 1,eV 2])) Cp BO)
  (AN Z1 Z2))):=by rw[<-hz1,<-hz2];rfl
  generalize AK t ls []=bk at*
  generalize t.d=T at*
  generalize S++[lead bk (S.length+1),.lst []]=S9 at*
  generalize S++[Cl.ins "Leader" [("kept",bk)]]=S8 at*
  generalize S++[Cl.ins "Leader" []]=S7 at*
  simp[Bo,eb,ht,hf,x1,x2]
 unfold Qm
 generalize AK t ls []=bk at*
 generalize t.d=T at*
 simp[ef,eg,nw]
end
def LAt.dB(h:LAt S L q b m)(s:Bq A S S')(h1:L∉A)(h2:q∉A):LAt S' L q b m:=⟨s.get h.ob h1,let⟨es,e,l⟩:=h.er;⟨es,s.get e h2,l⟩⟩
def Mn(h:D0 p S)(s:Bq A S S')(h1:p∉A):D0 p S':=by
 obtain⟨ds,e,q⟩:=h
 exact⟨ds,s.get e h1,q⟩
structure Lw(S:Sto)(p L q:Nat)(t:Tr)(ls:Wp Ld)(ds:Wp AR)(m:Nat):Prop where
 pen:D0 p S
 at_:LAt S L q (AK t ls ds) m
 bk:CL t ls ds
 th:N8 ds<=3
 tab:S[0]?=Gc (Cl.tab "_law_deed_right")
 pq:p≠q
def Lw.ne(h:Lw S p L q t ls ds m):p≠L/\p≠0/\L≠0/\q≠0:=by
 obtain⟨e1,h1,_⟩:=h.pen
 obtain⟨e2,h2,_⟩:=h.at_.er
 have h3:=h.at_.ob
 have h4:=h.tab
 refine⟨λz=>?_,λz=>?_,λz=>?_,λz=>?_⟩
 .subst z;rw[h1]at h3;cases h3
 .subst z;rw[h1]at h4;cases h4
 .subst z;rw[h3]at h4;cases h4
 .subst z;rw[h2]at h4;cases h4
def Lw.step(h:Lw S p L q t ls ds m)(s:Bq [] S S'):Lw S' p L q t ls ds m:=⟨Mn h.pen s (by simp),h.at_.dB s (by simp) (by simp),h.bk,h.th,s.get h.tab (by simp),h.pq⟩
def cQ:=xIf (D7 (eOp (o2 wEq) [eOp (o2 Ox) [eV 6,eI 4],eI 0]) (E7 (AF DM [eV 4,eV 5]))) (AZ (eC (.bl false))) BO
def TK:=AN (Az 5 (AF CJ [eV 4,eV 5,AF Bt [eV 1,eV 5]])) (AN (xIf (eOp (o2 (Wn false)) [eV 5,eC .non]) (AZ (eC (.bl false))) BO) cQ)
def Xn(h:Lw S p L q t ls ds m)(hm:m<1000){i:Nat}:∃ds' S',TK [a0,Gc (.ref p),a2,a3,Gc (.ref L),Gc (AK t ls ds),Gc (.int i)] S=Gc (.nx,[a0,Gc (.ref p),a2,a3,Gc (.ref L),Gc (AK t ls ds'),Gc (.int i)],S')/\Lw S' p L q t ls ds' (m+1):=by
 obtain⟨n1,n2,n3,n4⟩:=h.ne
 have pq:=h.pq
 obtain⟨d,S1,e1,rw1,p1⟩:=dY (S:=S) h.bk h.pen
 have L1:LAt S1 L q (AK t ls ds) m:=h.at_.dB p1.same (by simpa using n1.symm) (by simpa using pq.symm)
 have T1:S1[0]?=Gc (Cl.tab "_law_deed_right"):=p1.same.get h.tab (by simpa using n2.symm)
 obtain⟨ds',S2,e2,L2,s2,b2,t2⟩:=Ye L1 h.bk hm h.th rw1 T1
 have P2:D0 p S2:=Mn p1.pen s2 (by simp;exact⟨n1,pq⟩)
 have T2:S2[0]?=Gc (Cl.tab "_law_deed_right"):=s2.get T1 (by simp;exact⟨n3.symm,n4.symm⟩)
 obtain⟨S3,e3,s3⟩:=gM L2 b2
 have w2:Lw S2 p L q t ls ds' (m+1):=⟨P2,L2,b2,t2,T2,pq⟩
 have nn:isN (dr S2 (AK t ls ds'))=false:=rfl
 have md:(0:Int)<4:=by decide
 by_cases c:(i:Int) % 4=0
 .refine⟨ds',S3,?_,w2.step s3⟩
  generalize AK t ls ds=bk at*
  generalize AK t ls ds'=bk' at*
  simp[TK,cQ,e1,e2,nn,c,e3]
 .refine⟨ds',S2,?_,w2⟩
  have c':((i:Int) % 4==0)=false:=by simpa using c
  generalize AK t ls ds=bk at*
  generalize AK t ls ds'=bk' at*
  simp[TK,cQ,e1,e2,nn,c']
def fZ ns(h:ns.length<=63):∃S',OR [.scr ns] [Cl.tab "_law_deed_right"]=Gc (.bl true,S'):=by
 obtain⟨c,e0⟩:=bG (S:=[Cl.tab "_law_deed_right"]) (ns:=ns) (k:=0)
 obtain⟨p,S1,e1,hp1,s1,lp⟩:=jU (S:=[Cl.tab "_law_deed_right"]) c
 have T1:S1[0]?=Gc (Cl.tab "_law_deed_right"):=s1.get rfl (by simp)
 have np:p≠0:=by simp at lp;lia
 obtain⟨t,S2,e2,p2,ht,⟨hh,hr⟩,G,g0,g1,g2⟩:=Wj hp1
 obtain⟨ls,S3,e3,p3,hf,hl⟩:=X9 p2.pen ht
 have eg:FR [.ref p] S1=Gc (.tup [t.d,.tup (ls.map Ld.d)],S3):=by
  have s2:1+1<=sizeLine:=AJ (by decide)
  simp[FR,MJ,e2,e3,s2]
 have inv:=Wg hf hl hh.1 g0 g1 g2
 have bk0:CL t ls []:=⟨ht,inv,trivial,by simp⟩
 obtain⟨S4,e4,L4,s4⟩:=hV (S:=S3) (t:=t) (ls:=ls) (Qy ht hh hr g0 g1 g2) (P9 ht hf hl) (E:=[Gc (.scr ns),Gc (.ref p),Gc t.d,Gc (.tup (ls.map Ld.d)),none,none,none]) (f:=eV 2) (g:=eV 3) (λ_=>by simp) (λ_=>by simp)
 have lp3:=p3.pen.lt
 have T3:S3[0]?=Gc (Cl.tab "_law_deed_right"):=p3.same.get (p2.same.get T1 (by simpa using np.symm)) (by simpa using np.symm)
 have w4:Lw S4 p S3.length (S3.length+1) t ls [] 0:=⟨Mn p3.pen s4 (by simp),L4,bk0,by decide,s4.get T3 (by simp),by lia⟩
 obtain⟨n1,n2,n3,n4⟩:=w4.ne
 obtain⟨r,S5,e5,a5,b5,p5⟩:=Am w4.pen (n:=3) (by decide) (by decide)
 have w5:Lw S5 p S3.length (S3.length+1) t ls [] 0:=⟨p5.pen,w4.at_.dB p5.same (by simpa using n1.symm) (by simpa using w4.pq.symm),bk0,w4.th,p5.same.get w4.tab (by simpa using n2.symm),w4.pq⟩
 obtain⟨N,eN,hN⟩:∃N:Nat,atI [D.int 6,.int 12,.int 26] r=Gc (.int N)/\N<=26:=by
  obtain⟨x,ex,hx⟩:=pick (xs:=[D.int 6,.int 12,.int 26]) (r:=r) a5 (by simpa using b5)
  simp only[uZ,uv,ve]at hx
  rcases hx with rfl|rfl|rfl
  .exact⟨6,ex,by decide⟩
  .exact⟨12,ex,by decide⟩
  .exact⟨26,ex,by decide⟩
 have rk:Jc (N:Int)=true:=ET (by lia) (by lia)
 have s3':1+1+1<=sizeLine:=AJ (by decide)
 have s0:0<=sizeLine:=wM _
 obtain⟨E',S6,ef,ds,m,o,f1,rfl,f2,f3⟩:=Gm (gs:=[]) (t:=tNm 6) (b:=TK)
  (I:=λrs E S'=>∃(ds:Wp AR) (m:Nat) (o:uS D),(∀d∈rs,∃k:Nat,d=.int k)/\E=[Gc (.scr ns),Gc (.ref p),Gc t.d,Gc (.tup (ls.map Ld.d)),Gc (.ref S3.length),Gc (AK t ls ds),o]/\Lw S' p S3.length (S3.length+1) t ls ds m/\m+rs.length<=26)
  (λ_ _ _ _=>AW) (ds:=Nd 0 N) (E:=[Gc (.scr ns),Gc (.ref p),Gc t.d,Gc (.tup (ls.map Ld.d)),Gc (.ref S3.length),Gc (AK t ls []),none]) (S:=S5)
  ⟨[],0,none,by
    intro d hd
    obtain⟨k,_,rfl⟩:=vT.mp hd
    exact⟨k,by simp⟩,rfl,w5,by rw[II];lia⟩ (by
    rintro dd rs E T ⟨ds,m,o,i1,rfl,i2,i3⟩
    obtain⟨k,rfl⟩:=i1 dd um
    simp at i3
    obtain⟨ds',T2,e,w⟩:=Xn i2 (by lia) (i:=k) (a0:=Gc (.scr ns)) (a2:=Gc t.d) (a3:=Gc (.tup (ls.map Ld.d)))
    exact⟨_,_,T2,by simp,e,ds',m+1,Gc (.int k),λd hd=>i1 d (uX _ hd),rfl,w,by lia⟩)
 obtain⟨S7,e7,_⟩:=gM f2.at_ f2.bk
 refine⟨S7,?_⟩
 have eb:Vi=(AN (Az 1 (AF Hk [AF C0 [eV 0,eI 0]]))
  (AN (IP (tTp [tNm 2,tNm 3]) (AF FR [eV 1]))
  (AN (Az 4 (Qm "Leader" Bo [eV 2,eV 3]))
  (AN (Az 5 (BC [eV 2,eV 3,BC []]))
  (AN (M8 (Ow [eIx (Ja [eI 6,eI 12,eI 26]) (AF AG [eV 1,eI 3])]) (tNm 6) TK)
  (AZ (AF DM [eV 4,eV 5]))))))):=rfl
 have bk:∀{T:Sto} {o4 o5 o6:uS D},(BC [eV 2,eV 3,BC []]) [Gc (.scr ns),Gc (.ref p),Gc t.d,Gc (.tup (ls.map Ld.d)),o4,o5,o6] T=Gc (AK t ls [],T):=by
  intro T o4 o5 o6
  simp[AK,s3']
 generalize hz1:(BC [eV 2,eV 3,BC []])=Z1 at bk
 generalize hz2:(Qm "Leader" Bo [eV 2,eV 3])=Z2 at e4
 rw[hz1,hz2]at eb
 generalize TK=B at*
 generalize AK t ls []=bk0 at*
 generalize AK t ls ds=bk9 at*
 generalize t.d=T at*
 simp at e0
 simp[OR,eb,e0,e1,eg,e4,bk,e5,eN,s3',rk,ef,e7]
def fP{K:W1}{h:vt}{mg:Str->uS uY}{xs:Wp Str}{y:Str}{C':ug}(X:K.In h)(G:h.Ns mainGlobals mg)(e:vG K mainGlobals y=Gc (Gc (.ref C')))(t:∀x∈xs,∃C b,vG K mainGlobals x=Gc (Gc (.ref C))/\yb K (.ref C) (.ref C')=Gc b/\(x==y)=b):XmD K mg xs y:=oW X G e λx hx=>by
 obtain⟨C,b,h1,h2,h3⟩:=t x hx
 exact⟨C,h1,by rw[h3];exact h2⟩
def gf{K:W1}{xs:Wp Str}{x y:Str}{C C':ug}{b:va}(h1:vG K mainGlobals x=Gc (Gc (.ref C)))(h2:yb K (.ref C) (.ref C')=Gc b)(h3:(x==y)=b)(t:∀z∈xs,∃C b,vG K mainGlobals z=Gc (Gc (.ref C))/\yb K (.ref C) (.ref C')=Gc b/\(z==y)=b):∀z∈x::xs,∃C b,vG K mainGlobals z=Gc (Gc (.ref C))/\yb K (.ref C) (.ref C')=Gc b/\(z==y)=b:=λz m=>by
 rcases uZ.mp m with e|m
 .rw[e];exact⟨C,b,h1,h2,h3⟩
 .exact t z m
section
variable{P:vb}{w:wH}{K:W1}{mg:Str->uS uY}{base:vt}
def Fz:Aj ["_law_script","_law_pen_here","_law_train_here","_law_first_here","_law_leader","_law_book","_law_turn_here"] ["_law_script"] (AB MN):=scM
def gA{f:ug}{fd:zD}(F:Fun K "law" "law" MN f fd)(hm:mg "law"=Gc (.ref f))(bm:BmB mg base)(T:All w K mg):Jm P w K mg base CX0 15 f fd ["_law_script"] (spD K 1 OR):=by
 have B:=T.bt
 have GB:=GB P base bm T
 have MX:=MX P base bm T
 have GV:=GV P base bm T
 have KN:=KN P base bm T
 have JC:=JC P base bm T
 have Eo:=Eo P base bm T
 have FE:=FE P base bm T
 have GZ:=GZ P base bm T
 refine fJ (k:=14) F Fz rfl λcdv A outer s H E hr=>?_
 have hu:=Hf hr
 exact(Aa (Ep 1 (deM MX hr (AD (deM GV hr (AD (AH 0) (AD BR AI))) AI)) Fz.nd)
      (Aa (RU (deM JC hr (AD (AH 1) AI)) (U5 rfl (Cu (HI 2 Fz.nd) (Cu (HI 3 Fz.nd) Le))))
      (Aa (Ep 4 (X2 GB hr rfl (AD (AH 2) (AD (AH 3) AI))) Fz.nd)
      (Aa (Ep 5 (Dv (AD (AH 2) (AD (AH 3) (AD (Dv AI) AI)))) Fz.nd)
      (Aa (ZC PassesOwn.never rfl (QQ rfl B.range (AD (Fd Mq (VD (AD BR (AD BR (AD BR AI)))) (deM KN hr (AD (AH 1) (AD BR AI)))) AI)) (HI 6 Fz.nd) (Aa (Ep 5 (deM Eo hr (AD (AH 4) (AD (AH 5) (AD (deM FE hr (AD (AH 1) (AD (AH 5) AI))) AI)))) Fz.nd)
      (Aa (HF (IX cx (AH 5) Jk) (Aq (CQ Qt)) CO)
      (Aq (HF (DW.dt (jg (IX (NQ hu) (Po dO (AH 6) BR) BR) (aO (Fp (Fy (deM GZ hr (AD (AH 4) (AD (AH 5) AI)))))))) (Aq (CQ Qt)) CO)))))
      (Aq (CQ (deM GZ hr (AD (AH 4) (AD (AH 5) AI))))))))))
end
def kL{K:W1}{x:Str}{P f c:ug}{oc oc2:uY}{od od2:uS ug}{osl osl2:ym (uS uY)}{fd:zD}{vs:ym uY}{file:Str}{tf tg tt:Tok}{flags text:Int}{inF:va}(e1:vG K mainGlobals x=Gc (Gc (.ref f)))(e2:K.lookup f=Gc ⟨oc,od,.func fd,osl⟩)(e3:fd.code=.ref c)(e4:K.lookup c=Gc ⟨oc2,od2,.fields vs,osl2⟩)(h0:oc2=.type "code")(h11:vs[11]?=Gc (.ref P))(h11':vs.getD 11 vL=.ref P)(h18:vs.getD 18 vL=.str file tf)(h7:vs.getD 7 vL=.int flags tg)(h9:vs.getD 9 vL=.bool inF)(h10:vs.getD 10 vL=.int text tt)(ne:c≠P):TabAt K x P:=
 ⟨f,oc,od,fd,osl,c,e1,e2,e3,_,vs,file,tf,flags,tg,inF,text,tt,e4,h0,rfl,h11,h11',h18,h7,h9,h10,ne⟩
theorem VQ{P:ug}:∀{K:W1},P∉K.map (·.1)->K.lookup P=none
 | [],_=>rfl
 |(a,o)::K,h=>by
  rw[ux,uZ,AAl]at h
  have:(P==a)=false:=by simpa using h.1
  rw[vU,this]
  exact VQ h.2
def walk{l:AAz}{q:vb}{loose:Wp Str}{XP:(Str->uS uY)->vt->Prop}{d:DefRec}{K:Params->W1}{as:Wp ug}{ea:∀(P:Params),as=List.map (λx=>x.fst) (K P)}{ts:Wp ug}(hn:l.most=Gc 63)(hdf:d.params.defaults=[])(na:∀P∈ts,P∉as)(nd:(((["_law_deed_right"]:Wp Str).zip ts).map (·.2)).Nodup)(hl:TZ ((["_law_deed_right"]:Wp Str).zip ts)=[Cl.tab "_law_deed_right"])(hd:d.name="law")(F:∀(w:wH) (mg:Str->uS uY) (h:vt),(K w.params).In h->h.Ns mainGlobals mg->(∀z∈(["_law_deed_right"]:Wp Str).zip ts,TabAt (K w.params) z.1 z.2)/\All w (K w.params) mg):PySem.W.WalkO q loose XP (PySem.W.kmHook K as ea ts).says l.row.toRowW d [] (λf vs=>PySem.call f vs):=by
 refine mZ (x:="_law_script") (k:=15) (Fn0:=OR) ((["_law_deed_right"]:Wp Str).zip ts) hn hdf ⟨rfl,by decide,by decide⟩ (λw h Y=>⟨Y.1,λz hz=>Y.2 _ (we hz).2⟩) nd (λw mg fa h KX G hmg=>?_) λns hns=>by rw[hl];exact fZ ns hns
 obtain⟨hT,T⟩:=F w mg h KX G
 refine⟨λz hz=>⟨hT z hz,VQ (by rw[<-ea];exact na _ (we hz).2)⟩,?_⟩
 obtain⟨f,fd,F,hm⟩:=T.MN.ex
 rw[hd]at hmg
 have e:=hmg.symm.trans hm
 cases e
 refine⟨fd,λs v=>?_,λbase _ _ bm=>gA (P:=l.prog) (w:=w) (base:=base) F hm bm T⟩
 obtain⟨oc,od,kV,doc,pm,an,cdv,ct,osl,hfd,_⟩:=F.ex
 subst hfd
 exact .of_eq rfl
end Mi
end
noncomputable section
structure PySem.W.Fast:Prop where
 (tw16746604148948419910 tw1768414504592137939 tw13308126618609963710 tw10470858160765794745 tw10395021924817696940 tw3837471821764716161 tw10369803429079436334 tw12759932534363298664 tw2936297390389646538 tw13213398535706343793 tw6090746552242828116 tw9990890946944291295 tw16160980224575971314 tw8674236528015986369 tw18167452345977899955 tw4174366022658456949 tw9958067666733969495 tw16790351755253355595 tw11198920918627274793 tw2284274059665917668 tw11240227805707383563 tw12429566878631093509 tw13553885846633447036 tw3148071499706632878 tw1911546887331733056 tw6444121057585154177 tw3809451288439747852 tw6559677824356469155 tw5925075132231069611 tw11100394024699698055 tw4718636388577512863 tw18206068865938308735 tw13742303230334310505 tw8585474397092042678 tw10793127370942129819 tw13831371065255199185 tw11399256953171346420 tw4015888739340762796 tw1697088106011815192 tw13726134804778585830 tw15380915736536619781 tw5409952503455885290 tw10009852502498637739 tw3394172090001704946 tw11299708130972803048 tw13952513218406527134 tw9605870259464856645 tw13949379183074665321 tw13925383291940477014 tw226175790737006323 tw6925768928536139646 tw4745502217569702026 tw2745472520103507020 tw303755670284389557 tw3066855661132073028 tw6060313071549691234 tw8776600430255516990 tw3587260717829540558 tw5581546891263980196 tw14887522781345584766 tw6744757485981485748 tw2792555233744209185 tw7751101111670670985 tw16627752385525640802 tw4264516477325244664 tw13125388123356547123 tw17112324396175569675 tw3353818475207240787 tw7781468263168255759 tw6467808084040096435 tw7007990696512511819 tw18147134296093723136 tw10530291635144526046 tw7662550460756040696 tw12217558067750249057 tw17144411757700342329 tw1293882761804265553 tw11428330463636007473 tw3176972166627349455 tw13197117904213798198 tw16538364735375288721 tw6842968734766457384 tw1927362955873799923 tw9021943898129935571 tw13440088804513366027 tw10771712592368182444 tw3969351953744401429 tw731000334304245973 tw4646254999695865868 tw797215195083051257 tw4902179786180453669 tw7724959066926004303 tw14384216929096791532 tw3502125452209983332 tw271167241325506437 tw9886211193775045173 tw14114884976382912646 tw9338639802999601820 tw3742531329173388134 tw7926256131666376530 tw11762551704053805678 tw5728113496033231441 tw9488473717813173438 tw2114263385133141591 tw15771261731573959168 tw15986374518221570152 tw15359003891691334142 tw17789687491045264357 tw4983853170283602026 tw12714416943823226026 tw5618547688276736510 tw2275871446663510207 tw6538130520929812423 tw7403626481382331958 tw7907076718077087181 tw15938417218921083245 tw437979616255424942 tw1102850702330524992 tw7284177307153452969 tw3126781783741979618 tw10635278308383435042 tw5453926038513766241 tw12686636610655797252 tw8002478156164112422 tw15788250914138339910 tw4454915866929326240 tw12555219124252139366 tw17379403165864038502 tw3332569085098666088 tw4808999578111464592 tw10833645401354428598 tw1939721478330127869 tw3794482234926708852 tw15989838816656844206 tw13694930184369369034
 tw4666763662895028 tw1593815970820390700 tw2585829766219895974 tw9065130548979117458 tw5496837239530599476 tw18106966039241848677 tw1383150870400333645 tw17080220880001892816 tw3256807770698942261 tw10127851735733185487 tw12553884233337923185 tw8283167210645286678 tw14737227802451838060 tw437632200925181135 tw17049760825049335037 tw17253091800357451415 tw3961439402892908793 tw9736066463674860468 tw6065676703733493057 tw2374402175756762517 tw10921153731040994463 tw626022705642418739 tw9454355927953644741 tw2069299710820686071 tw15545462100440548882 tw5633486490335156415 tw11467761511936139371 tw9300999908593580271 tw15385390454800099398 tw11531176698317729664 tw16615331133550691555 tw10341247779519594233 tw14795073065595192742 tw11644977512728114035 tw16083956446305854487 tw14434174013124637460 tw2037802829595132882 tw3678287425055391899 tw8583866078583322481 tw12812731594951875076 tw1649144910555132951 tw14388273308918911562 tw6521684874034402431 tw3158569886146799994 tw895929283020588739 tw15938336624992060525 tw6563668592831862842 tw13590251233648227698 tw17488074337798244373 tw15373554633030423605 tw14559058066937215377 tw7082988630462295336 tw6045907582170342044 tw10446643763153664016 tw17560028998083721814 tw10209293692403235627 tw11960489609233645932 tw4609554597935142520 tw6393360931489911448 tw2421837008444070974 tw5529971850945543815 tw15679412274946083230 tw6522898118175774652 tw14194413610934239852 tw16960587391287669059 tw9540376812106524669 tw12466871488543236947 tw5038808948690308624 tw15002863148587691187 tw10535459407962431760 tw2565119344730302141 tw8232954466090937411 tw2295705054224115550 tw2000439373661184194 tw4014252449789722381 tw12084087519217676313 tw12420814778798947201 tw10467187873921684583 tw12893998689208690669 tw18370785919414025870 tw2396984689199459228 tw17548431497832005714 tw7319579637802042452 tw15989045894028269114 tw5233664512533814729 tw5303752800231764633 tw10338754910168376726 tw1603099766570402622 tw5526314744986289942 tw13957977221215598646 tw14804299564318293094 tw3313602758200792021 tw9805425568910641082 tw2431312753470221186 tw10360444690332917290 tw10086520838204951326 tw13752532372427290267 tw3363634589203534467 tw5363895325874430366 tw7766376958931619987 tw1599341056886875175 tw11687439593997790610 tw1176901741223480995 tw2779899054034806399 tw15071613320186544415 tw3727338459141767021 tw7545829546095913080 tw14858521685411348497 tw10252786520702392221 tw1813622096835790639 tw15800225027425693267 tw11218369290720956511 tw10661728819585302179 tw16587853599752438352 tw12661571797867455762 tw1718347515334482393 tw12124438118062316055 tw616369182279780893 tw4132585608807511512 tw4355711026344042855 tw1221805371052301838 tw11606366634573481431 tw4282819042626907138 tw9737906995816742622 tw8730737648219099394 tw8937000419075021511 tw14957738837616411548 tw9314481796109316197 tw8207752223787217410 tw16928728550385185104 tw11714430594239591998 tw2243971953042969543 tw17879946651586658008 tw8874559777800996623
 tw3565923296638133995 tw2811974557568072833 tw3441739615498292686 tw15834074091873736292 tw6107250303187602349 tw2330288395393411837 tw12078959751939876833 tw12057378140952267205 tw14889881581732085930 tw12522428108087850954 tw6338671576880576658 tw13794743822030084712 tw1003108359898021455 tw7837820511909360058 tw15979059693867007329 tw4680747623806741839 tw7948093188655558419 tw4595978748838343989 tw4998313411038110554 tw16735148959171619649 tw8543493749310434124 tw11355120182658967656 tw12926532147927406552 tw18093236796821372606 tw10997711917587798933 tw13320173204601439353 tw14513969364717561317 tw3240379100822985000 tw10043597623293741817 tw8918929805007440456 tw1078067920747293745 tw18184534959459729425 tw8292012939423589544 tw16228374658987825311 tw3513763261454990537 tw6925112757769768803 tw3463979240562270435 tw10763364995265496894 tw17469074252937842464 tw13358145178998348763 tw3241811003243329130 tw11754830293910231067 tw11286976413542019980 tw14413228340882352778 tw10441617448054648337 tw8637779224968509906 tw5805462577887174991 tw10433961648980994163 tw519709434477389943 tw1747954368829415714 tw9142780272110666679 tw16362476789654662495 tw8910730022411086494 tw942803338254620946 tw12566497970702096003 tw12547577690518279113 tw17540244287628374545 tw10123978332308440845 tw15569824950417282125 tw12520302046468862838 tw5418756586682311472 tw1017081876928254867 tw17322390140231970794 tw15175497705316931097 tw3916255339166909573 tw9004833676747846818 tw17901365731518395942 tw4788657617321456596 tw1815282682247310308 tw15151397699368657090 tw13836595315927057550 tw10670803503125265765 tw4069475966695733396 tw18295055515043420260 tw14327882155444158955 tw4047377696958626645 tw3815694368562828072 tw16592226378791435622 tw8697125826390390494 tw11448700688885744704 tw7289155965776056705 tw18346757878868473535 tw12619045785917528912 tw13409091443112691200 tw9887592237320375730 tw11376179687190357112 tw7927622571894528449 tw15903627124920619651 tw13205437745804949134 tw17251696053363721399 tw12878262064875149504 tw5916690850078485232 tw8182419346537518476 tw14407370356878990737 tw2682690107385639366 tw5747814106976682196 tw17076756327152515935 tw3982759069951107147 tw15114747743722726312 tw17949044333443780364 tw11571496473713866634 tw16897308766999651096 tw4930085872338856153 tw11126882524105446792 tw7083029066353021576 tw15869741384789707044 tw16123226324075067629 tw9747558285139570346 tw5253892470402774046 tw4895127485079534065 tw18086941129572348960 tw457350111370426658 tw9641596728914254931 tw9276976510850641026 tw13106327014911299706 tw10498059510441241658 tw1660556051687070854 tw9594137251573236940 tw92934657885196680 tw16917291698416727344 tw12939035918229897292 tw10082301822111173103 tw2088425726007191285 tw220022482693280022 tw10830537756082459369 tw6267610288916569761 tw3179934967000405916 tw353058187728687156 tw1512581590983424379 tw12295178568936253687 tw12554485034512661626 tw14641268562200256126 tw3788055118895862296 tw10189695357798664159
 tw10786310231292948468 tw1339360377411125776 tw10206633453065899430 tw6310919974714000409 tw3614768892626866460 tw3362918069177419405 tw118047483798375405 tw1994658420601745198 tw17272909317068425187 tw8897749081093239248 tw2331070825533302091 tw10492185352368245433 tw8556204972487675564 tw16644489802404231643 tw6914141405780618108 tw9741845027219094080 tw9958845979249390951 tw6051181358009199103 tw17149651694386633567 tw11974482853895799932 tw8029410732032282822 tw9146135131371187402 tw16518761456514661500 tw7035895467568309898 tw8602144807186601203 tw14164604338202446769 tw612330010102381878 tw7548740342956746529 tw12684766360339225706 tw257274637917240201 tw14209956576305445861 tw11620070787059795633 tw4442835518783851326 tw13039924060274067680 tw11869055205852626824 tw11763328711084804086 tw13030313465038836190 tw16188494543072463597 tw7369419628581339711 tw16720510453420008047 tw6199872454559723481 tw9688196282904175644 tw14867677772483854881 tw11157737377293701059 tw13856869089142382743 tw11682753631510400576 tw9263035374577889324 tw13493507811869855472 tw12552498001617278019 tw15451707860293438129 tw2230023925851104242 tw13931631349639114051 tw17560955675443541036 tw13650059251330767259 tw8390106568044185452 tw12662881371430677941 tw3049793944705541543 tw14094317299888245268 tw11425239212604810188 tw1405692031637544260 tw5044628685359204045 tw10705745115359417022 tw7537015720985824426 tw17471263283060950405 tw10859623300549764553 tw2981097596925612711 tw587794568128118563 tw6603374660174136303 tw9123894268438205243 tw12017461596745673731 tw7523849769206240897 tw15122667035449498130 tw15440580321122136054 tw7068663893735444525 tw14564604114553562213 tw2612118074920787827 tw15850116424249258151 tw6631983050597147450 tw5051863688577754129 tw1783508554295120509 tw11458114821715318555 tw11497330994152809548 tw632266548072497969 tw2489213590064472701 tw14666286097928269149 tw17963991636427197835 tw1910591880099809987 tw11256661762568110928 tw4289743120140004095 tw9754688216004556975 tw16534979802838004121 tw2212770921115280711 tw15572377682775082324 tw10711753092283785776 tw4272254836579782724 tw15821414448892858698 tw7904447586705659743 tw10689372659910412714 tw9154960321873318913 tw7867566024915024678 tw8720649288926765803 tw8820216754422836420 tw3486170092583882552 tw5097059652521641813 tw1893694970815293717 tw16334526287867017722 tw4939101685220478269 tw17558109223853914137 tw3527073099414150211 tw10152796966812039831 tw2425545416090614179 tw7734899998539692477 tw10263497396214650819 tw12966582928323464807 tw595232532293730515 tw7107805982308074406 tw10282965566420054594 tw6872441821302392857 tw3554823606890362637 tw5343862839319052078 tw16819202498890433740 tw18355177949695988053 tw10513112901584869312 tw17814542061202576653 tw2367016415666043927 tw12784705932286753967 tw5776107614049155502 tw16943902316271868427 tw9527570127720563011 tw17156476880904976965 tw1012462650277796947 tw17468260150266811707 tw16577326315502121093 tw10920034443154268021
 tw8896017657702960961 tw13219939349261579663 tw14176413628458136838 tw7360899021733363229 tw4272501346231594195 tw12534590858213804681 tw9783221707759990203 tw9894421448599397481 tw3386439990249953506 tw795146357600347569 tw17621173537739795071 tw16461777783295542218 tw5664261715467850221 tw294441562006322679 tw6126234782828592211 tw5648907114652702131 tw13876086525657235711 tw15044769258365682589 tw8440854317908387765 tw13307057366088411294 tw1347901312271891740 tw10126769298818207977 tw13009979582680286678 tw9206826878268929344 tw7714960761120705001 tw11628725762791903030 tw6062836474276630791 tw11713077687122249414 tw4814840848750548318 tw7821714530083098670 tw11103996944786969383 tw14351814731376638318 tw10612458886470789565 tw3145626233638813335 tw5855497991951920499 tw8318768527427651056 tw2097992604812685492 tw2317580299595759347 tw2071013722174803114 tw1570512377081654368 tw4348673979378902449 tw13008682075593205075 tw5248677688677791014 tw10104104636635937301 tw11858149500153328193 tw12463558457279498307 tw1212042866695179978 tw17312612339198524961 tw4510921413846840087 tw15855231751622612949 tw11904865051897859655 tw434943777156218935 tw4504349932567258936 tw9953884690785170246 tw6754685042869958601 tw7677181750225557636 tw17201071315184447966 tw953330349203440287 tw6334718843977077377 tw8873261532697847966 tw12365654175593788825 tw7595487322844283201 tw16158900909566477991 tw15951938843666852687 tw11243173238199550795 tw5142704378415230305 tw14248114446584822816 tw9048562984343410443 tw10855820684831058820 tw2868705660692109246 tw17702434524174541559 tw251064296004665086 tw10217506535798698213 tw6806195830809875099 tw1121324095743515843 tw13847137719566321992 tw1171231108230057530 tw306883967662124037 tw69746496299500083 tw15673381851052908812 tw14489566831515329091 tw11629753332878718689 tw17952935248694193542 tw12523475028178712603 tw15711395249332134070 tw18164204191139574233 tw4645077030468217335 tw13242739908486876538 tw7419974663382901365 tw18384650888342545876 tw8790113718675532980 tw1418543230284690100 tw11638742506176411175 tw16858330274892018826 tw2197951859240496436 tw10548169994625723006 tw18285449694708269139 tw12369047784337138941 tw16493985643326230605 tw17923110395904436796 tw14856382916737742789 tw7022304743377689630 tw735694557479990610 tw15890340362313066060 tw11730099566470341162 tw7965474298202426063 tw17937116127844182943 tw1827363510366046935 tw14604267028063108558 tw4128015329270963387 tw2332015490773837276 tw11226058825559922535 tw6696371365183210703 tw3703401202494456827 tw10722343629399165850 tw4068876302134038695 tw17129783876145078473 tw14012070975471889401 tw7402957521752490632
 tw1239593615101586043 tw5706573102616584259 tw18218344956384629516 tw1612414223945565456 tw17139977935747222547 tw6966799061703406666 tw3929274262963132707 tw14664948821563002550 tw16087820871631791 tw10384910468965415403 tw15976135310409546516 tw13965217839543749305 tw95976213980748789 tw11923017486263235948 tw6844194281619482518 tw8407362396585061868 tw2073171393313811712 tw6258780416592891984 tw13259089553336273349 tw13314912309185928069 tw5019219250161429992 tw7759502856804087190 tw3668246986694672256 tw16467032618053548315 tw3553778729975632015 tw1580130745790955904 tw1548923799600786689 tw17952160326983666977 tw8255196219946009174 tw1139953424334808504 tw12541523414505234533 tw8760351604288289080 tw10676075494925543124 tw17354837768244019013 tw13239337725134401445 tw8391607649185749851 tw774777088097795184 tw11972910742290745591 tw15156052207799051216 tw17223065503296765201 tw3852393628200710984 tw13772611626808425552 tw8577055494026331749 tw9321985830717537081 tw7088592633555644768 tw7155499800306225919 tw10736945191871834125 tw2684176263291989750 tw11757620410222457927 tw3779439687498662964 tw17835958150748499614 tw12288871461036552867 tw15141778900819081838 tw11522972036859922663 tw6715226914381689076 tw3060780219215980472 tw14847039848749199094 tw4705317058406207731 tw14187154494475299685 tw10757458112250736832 tw8362468724382722097 tw7828476030562405356 tw3437992423366190123 tw9338246187142676833 tw16574023036951185495 tw10312371985872880112 tw1258886811700329311 tw18008278976895521400 tw8045919971145167794 tw11070445687170770617 tw2499085292921226105 tw15141287667525101760 tw6276383717988087420 tw8184721005689447540 tw2056664795979109269 tw13846043679495257881 tw12336861481239221937 tw4810108401858078801 tw5918767682205110184 tw645664633548796749 tw86168691761304568 tw7910421549260591804 tw11585659079276391579 tw15564949359987455840 tw4407827829278506707 tw16234088855765119536 tw17336717760946856212 tw4216200810442605105 tw14606289923597461090
 tw8195757023906515131 tw17372435584833663616 tw8280906313787618587 tw7027951916976223931:AAF)
open PySem PySem.W PyProof.Rows
local macro_rules| `(tactic|walk_at $s)=>do
 let x:=AA8 `KX
 let g:=AA8 `G
 match s.getString with
 | "t"=> `(tactic|repeat' first|exact Mi.ba|exact Mi.aN|exact Mi.g9|exact Mi.aQ|exact Paired.nil|refine' Paired.cons ⟨⟨_,rfl⟩,?_⟩ ?_|refine' Paired.cons ?_ ?_|(refine' Mi.eH ?l ?z ?_;(case l=>k_is);(case z=>decide)))
 | "k"=> `(tactic|(dsimp only[L2.KOf];refine' Mi.fq $x $g ?e ?r;(case e=>k_is);(case r=>walk_at "t")))
 | "h"=> `(tactic|repeat (first|exact xN|refine' And.intro ⟨_,_,rfl,rfl⟩ ?_))
 | "p"=> `(tactic|(dsimp only[L2.KOf];refine' Mi.dX $x $g ?e ?l ?hk ?hne ?hp;(case e=>k_is);(case l=>k_is);(case hk=>walk_at "h");(case hne=>decide);(case hp=>walk_at "t")))
 | "f"=> `(tactic|(dsimp only[L2.KOf];refine' Mi.aP $x $g ?e ?l ?hk ?hne ?hp;(case e=>k_is);(case l=>k_is);(case hk=>walk_at "h");(case hne=>decide);(case hp=>(repeat (refine' Paired.cons ⟨⟨_,rfl⟩,_,rfl,?q⟩ ?_;(case q=>k_is)));exact Paired.nil)))
 | "x"=> `(tactic|(dsimp only[L2.KOf];refine' Mi.mV $x $g ?e ?q;(case e=>k_is);(case q=>k_exc)))
 | "m"=> `(tactic|(dsimp only[L2.KOf];refine' Mi.fP $x $g ?e ?t;(case e=>k_is);(case t=>(repeat (refine' Mi.gf ?a ?b ?c ?_;(case a=>k_is);(case b=>kts_exm);(case c=>decide)));exact Mi.all_nil)))
 | "z"=> `(tactic|(refine' PySem.W.mg_none_of $x $g ?z;(case z=>k_is)))
 | "a"=> `(tactic|(refine' Mi.kL ?t1 ?t2 ?t3 ?t4 ?t5 ?t6 ?t7 ?t8 ?t9 ?u1 ?u2 ?u3;(case t1=>k_is);(case t2=>k_is);(case t3=>rfl);(case t4=>k_is);(case t5=>rfl);(case t6=>rfl);(case t7=>rfl);(case t8=>rfl);(case t9=>rfl);(case u1=>rfl);(case u2=>rfl);(case u3=>decide)))
 |w=> `(tactic|case $(AA8 w.toName):ident=>k_is)
set_option maxRecDepth 100000 in
set_option maxHeartbeats 0 in
theorem PySem.Challenge.cw_sharetrail_k71_a_leader_deed_by_deed_holds : PySem.Challenge.rw_sharetrail_k71_a_leader_deed_by_deed.Holds := by
 w_on;o_law;k_head;(case hw=>w_witness2)
 k_fill
 refine Mi.walk (l:=PySem.Challenge.rw_sharetrail_k71_a_leader_deed_by_deed) rfl rfl (by decide) (by decide) rfl rfl ?F
 case F=>
  intro w mg h KX G
  refine⟨?T,?_⟩
  case T=>
   intro z hz
   rcases List.mem_cons.mp hz with e|hz
   .subst e
    walk_at "a"
   cases hz
  have iN:Mi.QJ (L2.KOf KX) mg "ALL" Mi.OW:=by walk_at "k"
  have R8:Mi.QJ (L2.KOf KX) mg "MAKERS" Mi.BS:=by walk_at "k"
  have Kz:Mi.QJ (L2.KOf KX) mg "MOST_DEEDS" Mi.Fj:=by walk_at "k"
  have K8:Mi.QJ (L2.KOf KX) mg "MOST_FIRST" Mi.Eb:=by walk_at "k"
  have Jt:Mi.QJ (L2.KOf KX) mg "MOST_THROWS" Mi.E5:=by walk_at "k"
  have Pw:Mi.QJ (L2.KOf KX) mg "NOTHING" Mi.Dt:=by walk_at "k"
  have Jp:Mi.QJ (L2.KOf KX) mg "UNLIKE" Mi.Bs:=by walk_at "k"
  have KZ:Mi.i9 (L2.KOf KX) w mg "FORMS" Mi.El:=by walk_at "p"
  have Qp:Mi.mL w (L2.KOf KX) mg "PARTS" [("partner","is_partner"),("kind","is_kind"),("load","is_load_number"),("number","is_trade_number"),("pieces","are_pieces"),("worths","are_worths"),("share","is_sold_share")]:=by walk_at "f"
  have J7:Mi.XcD (L2.KOf KX) mg "NoDeed":=by walk_at "x"
  have NM:Mi.XcD (L2.KOf KX) mg "NoNumber":=by walk_at "x"
  have HV:Mi.XcD (L2.KOf KX) mg "TooMany":=by walk_at "x"
  have Jz:Mi.XiR (L2.KOf KX) mg "NotDone" "TrailError" "NotDone.__init__" Mi.ER:=by
   dsimp only[L2.KOf]
   refine' Mi.gc KX G ?j1 ?j2 ?j3 ?jn ?jm ?j5 ?je ?j7 ?j8 ?j9 ?j10 ?j11 ?j12 ?j13 ?jl ?jo ?jc ?jk
   walk_at "j1"
   walk_at "j2"
   walk_at "j3"
   walk_at "jn"
   (case jm=>simp)
   walk_at "j5"
   (case je=>k_exc)
   walk_at "j7"
   walk_at "j8"
   walk_at "j9"
   walk_at "j10"
   walk_at "j11"
   walk_at "j12"
   walk_at "j13"
   walk_at "jl"
   (case jo=>rfl)
   walk_at "jc"
   walk_at "jk"
  have J3:Mi.XmD (L2.KOf KX) mg ["NoDeed","NotDone","TooMany","NoNext","NothingDone"] "NoDeed":=by walk_at "m"
  have Jq:Mi.XmD (L2.KOf KX) mg ["NoDeed","NotDone","TooMany","NoNext","NothingDone"] "NoNext":=by walk_at "m"
  have HM:Mi.XmD (L2.KOf KX) mg ["NoDeed","NotDone","TooMany","NoNext","NothingDone"] "NotDone":=by walk_at "m"
  have D5:Mi.XmD (L2.KOf KX) mg ["NoDeed","NotDone","TooMany","NoNext","NothingDone"] "NothingDone":=by walk_at "m"
  have HW:Mi.XmD (L2.KOf KX) mg ["NoDeed","NotDone","TooMany","NoNext","NothingDone"] "TooMany":=by walk_at "m"
  have Ao:Mi.ClD (L2.KOf KX) "Leader" ["kept","earlier"]:=by
   dsimp only[L2.KOf]
   refine' Mi.iW ?oa ?ob ?oc ?od ?oe ?on
   walk_at "oa"
   walk_at "ob"
   walk_at "oc"
   walk_at "od"
   walk_at "oe"
   case on=>
    refine' Mi.UC ?nh ?nt
    (case nh=>k_is)
    case nt=>
     refine' Mi.UC ?nh ?nt
     (case nh=>k_is)
     case nt=>
      exact Mi.jV
  have Bn:Mi.MkS (L2.KOf KX) mg "Leader" "Leader.__init__" Mi.Bn:=by
   dsimp only[L2.KOf]
   refine' Mi.gC KX G ?ma ?mb ?mc ?md ?me ?ml ?mo ?mk
   walk_at "ma"
   walk_at "mb"
   walk_at "mc"
   walk_at "md"
   walk_at "me"
   walk_at "ml"
   walk_at "mo"
   walk_at "mk"
  have A6:Mi.MeS (L2.KOf KX) "Leader" "turn_to" "Leader.turn_to" Mi.A6:=by
   dsimp only[L2.KOf]
   refine' Mi.Rz Ao ?ma ?mb ?mc ?ml ?mo ?mk
   walk_at "ma"
   walk_at "mb"
   walk_at "mc"
   walk_at "ml"
   walk_at "mo"
   walk_at "mk"
  have Bj:Mi.MeS (L2.KOf KX) "Leader" "do" "Leader.do" Mi.Bj:=by
   dsimp only[L2.KOf]
   refine' Mi.Rz Ao ?ma ?mb ?mc ?ml ?mo ?mk
   walk_at "ma"
   walk_at "mb"
   walk_at "mc"
   walk_at "ml"
   walk_at "mo"
   walk_at "mk"
  have Ba:Mi.MeS (L2.KOf KX) "Leader" "book" "Leader.book" Mi.Ba:=by
   dsimp only[L2.KOf]
   refine' Mi.Rz Ao ?ma ?mb ?mc ?ml ?mo ?mk
   walk_at "ma"
   walk_at "mb"
   walk_at "mc"
   walk_at "ml"
   walk_at "mo"
   walk_at "mk"
  have BA:Mi.MeS (L2.KOf KX) "Leader" "theirs" "Leader.theirs" Mi.BA:=by
   dsimp only[L2.KOf]
   refine' Mi.Rz Ao ?ma ?mb ?mc ?ml ?mo ?mk
   walk_at "ma"
   walk_at "mb"
   walk_at "mc"
   walk_at "ml"
   walk_at "mo"
   walk_at "mk"
  have z_abs:mg "abs"=none:=by walk_at "z"
  have z_all:mg "all"=none:=by walk_at "z"
  have z_bool:mg "bool"=none:=by walk_at "z"
  have z_enumerate:mg "enumerate"=none:=by walk_at "z"
  have z_int:mg "int"=none:=by walk_at "z"
  have z_isinstance:mg "isinstance"=none:=by walk_at "z"
  have z_len:mg "len"=none:=by walk_at "z"
  have z_list:mg "list"=none:=by walk_at "z"
  have z_min:mg "min"=none:=by walk_at "z"
  have z_range:mg "range"=none:=by walk_at "z"
  have z_sorted:mg "sorted"=none:=by walk_at "z"
  have z_str:mg "str"=none:=by walk_at "z"
  have z_sum:mg "sum"=none:=by walk_at "z"
  have z_tuple:mg "tuple"=none:=by walk_at "z"
  have z_zip:mg "zip"=none:=by walk_at "z"
  refine⟨⟨z_abs,z_all,z_bool,z_enumerate,z_int,z_isinstance,z_len,z_list,z_min,z_range,z_sorted,z_str,z_sum,z_tuple,z_zip⟩,iN,R8,Kz,K8,Jt,Pw,Jp,KZ,Qp,J7,NM,HV,Jz,J3,Jq,HM,D5,HW,Ao,Bn,A6,Bj,Ba,BA,?_,?_,?_,?_,?_,?_,?_,?_,?_,?_,?_,?_,?_,?_,?_,?_,?_,?_,?_,?_,?_,?_,?_,?_,?_,?_,?_,?_,?_,?_,?_,?_,?_,?_,?_,?_,?_,?_,?_,?_,?_,?_,?_,?_,?_,?_,?_,?_,?_,?_,?_,?_,?_,?_,?_,?_,?_,?_,?_,?_,?_,?_,?_,?_,?_,?_,?_,?_,?_,?_,?_,?_,?_,?_,?_,?_,?_,?_,?_,?_,?_,?_,?_,?_,?_,?_,?_,?_,?_,?_,?_,?_,?_⟩
  all_goals (refine' Mi.fM KX G ?a ?l ?c ?k;(case a=>k_is);(case l=>k_is);(case c=>k_is);(case k=>k_is))
end
