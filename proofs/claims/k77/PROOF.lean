import PyProof.Rows.All
import Wide.All
import OpenK.AllK
import Wide.FinOn
import Lean
import PyProof.EqAt
import PyProof.EqKinds
import PyProof.TupleCall
import PyProof.Draws
import PyProof.EnumMake
import PyProof.EnumFor
import PyProof.ZipIter
import PyProof.ListMulRoad
import PyProof.NeData
import PyProof.SumWalkG
import KE.KSortedM
import PyProof.StrCalls2
import KE.KIntText
import PyProof.StrLawsTight
import PyProof.StrLawsIdx
import PyProof.StrLawsFirst
import PyProof.StrLawsOcc
import PySem.Challenge.RW_sharetrail_k77_books_written_and_read
set_option Elab.async false
set_option linter.all false
set_option maxRecDepth 100000
set_option maxHeartbeats 4000000
set_option exponentiation.threshold 10000
set_option compiler.extract_closed false
open _root_ renaming List->Wp,Option->vi,of_decide_eq_true->v3,if_pos->wU,or_false->wW,if_neg->wy,Bool->xD,decide_eq_true_eq->xE,decide_eq_true->xp,decide_eq_false->yQ,False->yV,beq_eq_false_iff_ne->yn,String->yo,beq_iff_eq->AAV,if_false->AAe,Array->AAn,True->ABE,if_true->ABH,beq_self_eq_true->ACA,not_or->ACv,autoParam->xz
open Array renaming getElem?_eq_some_iff->yz,length_toList->zO,getElem?_toList->AAp,getElem?_eq_getElem->ABk,all_toList->ACD,toList_append->ADL
open Bool renaming and_eq_true->vn,false_ne_true->wu,or_eq_true->xq,noConfusion->yc,eq_iff_iff->AAU,false_eq_true->AAX,not_eq_true'->ABu,and_eq_false_iff->ACn
open False renaming elim->yk
open ForInStep renaming yield->AA5
open Function renaming comp_def->xH
open Int renaming toNat_of_nonneg->wL,natAbs_natCast->wx,lt_of_le_of_lt->xJ,mul_pos->xg,emod_nonneg->ym,emod_lt_of_pos->y3,lt_of_lt_of_le->y7,toNat_natCast->zC,natAbs_mul->zS,le_of_lt->zd,lt_trans->ze,mul_le_mul_of_nonneg_right->AAx,fmod_eq_emod_of_nonneg->ABS,add_le_of_le_sub_right->ABZ,fdiv_eq_ediv_of_nonneg->ABb,natAbs_ediv_le_natAbs->ABl,mul_ediv_cancel_left->AB1,sub_self->ACL,pow_succ->ACb,min_eq_left->ACd,ofNat_toNat->ACf,natCast_mul->ACi,mul_nonneg->AC3,natAbs_of_nonneg->AC4,le_refl->AC6,natCast_nonneg->ADW
open Lean renaming TSyntax->ACU,MacroM->AC1
open Lean.Syntax renaming mkApp->AAi
open List renaming mem_cons->ve,getElem?_append_left->vg,mem_cons_of_mem->vh,getElem?_set_ne->vj,getElem?_eq_getElem->vk,not_mem_nil->vo,mem_cons_self->vp,mem_map->vq,getElem?_eq_some_iff->vt,size_toArray->vv,getElem?_set_self->vx,map_cons->v5,nil_append->v7,getD_eq_getElem?_getD->v8,replicate->wB,mem_append->wF,mem_of_getElem?->wH,getElem?_map->wJ,getElem?_concat_length->wK,mem_singleton->wN,map_map->wR,sum_cons->wX,length_map->wY,length_append->wc,cons_append->wg,filterMap_cons->wm,mem_append_right->wq,getElem?_append_right->xB,range->xI,map_nil->xQ,lookup_cons->xS,length_cons->xT,drop_eq_getElem_cons->xi,replicate_succ->x9,append_nil->yJ,drop_eq_nil_of_le->yO,length_set->yR,prefix_rfl->yS,map_append->yT,getElem?_eq_none->yY,lookup->yg,nodup_cons->yl,take_of_length_le->yp,mem_iff_getElem?->y8,mem_or_eq_of_mem_set->zA,flatten_cons->zD,append_assoc->zE,length_take->zP,take_length->zT,getElem?_zipWith_eq_some->zW,of_mem_zip->zg,ext_getElem?->zt,mem_range->zu,length->zy,getElem_mem->AAG,map_set->AAH,all_cons->AAO,any_cons->AAP,mem_filter->AAQ,length_nil->AAS,lookup_append->AAW,range'->AAa,reverse_cons->AAg,zipWith->AAk,mem_range'_1->AAl,length_filter_le->AAq,length_drop->AAt,all_eq_true->AAy,mem_append_left->AA0,eq_nil_of_length_eq_zero->AA3,length_pos_iff->ABC,map_eq_nil_iff->ABD,prefix_append->ABc,mapM_cons->ABe,zip_cons_cons->ABg,filter_append->ABi,getElem?_zip_eq_some->ABj,any_eq_false->ABo,getElem?_inj->ABs,nodup_append->ABt,map_take->AB2,getElem?_replicate->AB6,getElem?_cons_succ->ACB,filter_cons_of_pos->ACE,filter_cons_of_neg->ACF,foldl->ACO,range_succ_eq_map->ACQ,zipWith_cons_cons->ACY,forIn_cons->ACh,length_singleton->ACm,set_append_right->ACo,forIn_nil->ACt,drop_eq_nil_iff->ACx,set_append_left->AC5,mem_of_mem_take->AC7,map_congr_left->ADJ,getElem?_range->ADK,mem_filterMap->ADS,set_cons_zero->ADb
open List.MergeSort.Internal renaming splitInTwo->ADc
open Nat renaming le_trans->va,lt_of_lt_of_le->vd,le_refl->vf,mul_le_mul_right->wC,lt_of_le_of_lt->wO,pow_le_pow_right->wQ,ne_of_lt->wZ,mul_one->xF,le_succ_of_le->xG,le_mul_of_pos_right->xV,mul_assoc->xY,pow_lt_pow_right->xh,mul_comm->xk,mul_le_mul_left->xt,zero_le->yB,lt_irrefl->yD,pow_succ->yK,lt_trans->yN,mul_pos->yU,le_of_lt->ye,div_lt_of_lt_mul->yh,le_add_right->yr,pos_of_ne_zero->y2,mul_le_mul->y4,pow_add->zV,le_of_succ_le->zq,mod_lt->AAC,min_le_right->AAs,two_pow_pos->ABB,ne_of_gt->ABG,gcd->ABO,mul_lt_mul_of_pos_right->ABQ,one_lt_two_pow->ABh,add_comm->ACP,zero_add->ACS,gcd_comm->ACX,lt_or_ge->ACa,min_eq_left->ACe,sub_succ_lt_self->ACy
open Ne renaming symm->xv
open Option renaming some->Gc,map_eq_some_iff->yq,bind_some->AAw,map->ADZ
open Option.some renaming inj->yI
open PyProof.Rows renaming slot_tuple_getitem->xC,envOfC->xR,assignInOrder_cons->zX,callWith_type1->zo,IntsAre->AAN,AllBare->AAY,boot_str->AAj,joinParts_cons->ABL,assignInOrder_nil->ABn,subscriptTail_builtinR->ACK,boot_isinstance->ACj,entry_tuple_getitem->ADD,assign_Tuple->ADO,args_tuple_getitem->ADU,boot_tuple->ADa
open PyProof.Rows.IsTup renaming new->zU
open PySem renaming wpAny_bind->vb,Value->vm,Shared->vw,Addr->vy,wpAny_pure->v9,starEach->wD,Stmt->wV,Program->xK,Expr->xM,mem_of_lookup->xP,wpAny_holding->xW,Heap->xZ,wpAny_pyIter_list->xu,World->xy,wpAny_field->yA,wpAny_callSpecial?_slot->yL,wpAny_truthy_bool->yM,wpAny_call_entry->ya,wpAny_pyIter_tuple->yb,wpAny_newObj_type->yi,Around->yt,wpAny_mono->yu,wpAny_setField_rec->yy,wpAny_passesOwn->zB,call_meets->zK,IsPair->zL,wpAny_getItem_str_slice->zQ,wpAny_pyNext_list_item->zY,wpAny_Call_Name_kw->zZ,typeIs_str->zc,wpAny_standAt->zk,Scope->zv,wpAny_setField->z9,wpAny_seqItems->AAA,wpAny_execs_cons->AAD,DictEntry->AAE,wpAny_binaryOp_repeat_ref->AAK,wpAny_execs_nil->AAR,FuncData->AAc,wpAny_pyNext_list_end->AAo,typeIs_int->AAu,Keyword->AAz,wpAny_updateSeq_pair->AA2,post_val_or_str->AA9,Builtin->ABJ,IsZip->ABa,slot_list_getitem->ABp,wpAny_getItem_list_slice->ABw,wpAny_comprehension_free->ABx,wpAny_onRaise->ABy,NameKind->AB5,noFill_tuple_add->AB7,wpAny_rule->ACG,codeAny_mono->ACH,IsPart->ACJ,wpAny_pyIter_listiter->ACl,intBits_le_iff->ACw,boot_len->AC2,seq_tuple_add->ADM,evalPart_none->ADN
open PySem.AutoSeq1 renaming wpAny_loadPart'->wM
open PySem.Builtin renaming divisionGoesByPylong->ABA
open PySem.Builtin.List renaming listTooLong->yF
open PySem.Builtin.Slice renaming slicePlaces->y9,sliceAdjust->AAJ,sliceApplied->ABW
open PySem.Builtin.SmallTypes renaming nextOf->we,ownedTupleIsFree->yH,ownedTupleHandOut->AAL
open PySem.Builtin.Str renaming occurrences->xU,partsBetween->yf,strSub->y0,strKind->ADI,padded->ADd
open PySem.Builtin.Tuple renaming tupleExact->zJ,tupleItemsOf->ABX,tupleTooMany->ABd
open PySem.Calls renaming Name_function_global->zx,loadGlobal_global->AB4,callWith_builtin->ACN,evalArgs_plain->ACr
open PySem.Challenge renaming pw_sharetrail_k77_books_written_and_read->AA4
open PySem.EntryCells renaming newEntry->ADH
open PySem.F renaming slot_str_join->xN,type_str_join->xO,slot_str_split->xf,type_str_split->yP,slot_tuple_iterator_next->yx,slot_str_getitem->zM,slot_int_rmul->zh,args_tuple_add_2->AAM,entry_tuple_add->AAZ,slot_tuple_add->AAd,slot_list_append->AAf,slot_tuple_mul->AAv,args_tuple_iterator_next_1->AA6,slot_zip_next->AA8,entry_tuple_iterator_next->ABI,slot_str_startswith->ABM,type_str_startswith->ABN,args_str_split_2->ABf,args_int_rmul_2->ABq,entry_str_split->ABv,type_list_append->AB0,slot_int_index->AB8,entry_int_rmul->AB9,slot_str_partition->ACC,plainAttrs_str->ACT,slot_str_zfill->ACV,type_str_zfill->ACW,fills_int_mul->ACg,args_list_extend_2->ACs,excBase_ValueError->ACz,entry_list_extend->ADE,slot_list_iter->ADG,slot_list_extend->ADX,args_tuple_mul_2->ADY
open PySem.Heap renaming get?_push_of_some->vc,lt_size->vz,get?_push_size->wI,get?_update_other->xj,size_push->yG,get?_update_self->yW,SameBut->ABF,IsTuple->ABK,ExtBut->ABr,IsList->ACu
open PySem.Heap.IsSliceOf renaming new->ADV
open PySem.Heap.SameBut renaming update->ADF
open PySem.NameKind renaming free->xX,cell->zm
open PySem.Obj renaming mapFields->xr,isFreed_of_fields->yX,data_mapFields->yw,mapSeq->ABY
open PySem.PassesOwn renaming never->AAT
open PySem.PyData renaming strOk->x8,canLayAll0->AAh,depth->ABP,depthAll->ACk
open PySem.SeqAt.EqAt renaming int_str->ADP,str_int->ADQ
open PySem.Shared renaming heap->zF
open PySem.Str renaming ofString->vY,join->wG,length_append->wd,empty->yZ,length->z8,append_assoc->AAI,ofString_eq_toList->ACZ
open PySem.StrLaws renaming strSub_toList->ACp
open PySem.Txt renaming split->yC,isdigit->zG,isascii->zH,startswith->zR,zfill->AAF,slice_le->ACR,join->AC0,slice->ADC
open PySem.Value renaming ref->w9,none->xA,isStrOf->zI,str->AAr,bool->ABR,int->AB3,type->ADR
open PySem.W renaming Frag->vZ,nsIn->xn,kia_one->xo,keepIn->yE,kitOne->yv,mg_of->zN,fnOf->zb,exmOne->AAB,findIn->AAb,OpenLaw->AA1,KeysLit->AA7,callWith_K->ABU,codeIn->ABV,methodObj->ABm,excIn->ABz,cellsFrom_some->ACI,instObj->ACc,lookIn->ACq,kitx_tuple->ADT
open Rat renaming mul_le_mul_of_nonneg_right->yd,intCast_eq_zero_iff->yj,le_of_lt->AAm,le_refl->AC8,num_nonneg->AC9
open Sum renaming inl->ADA,inr->ADB
open True renaming intro->ABT
theorem xLT(h:True:=by first|exact .inl rfl|exact .inr rfl|assumption):True:=h
def xL:=xLT._auto_1
theorem wwT(h:True:=by decide):True:=h
def ww:=wwT._auto_1
theorem wvT(h:True:=by intro _;rfl):True:=h
def wv:=wvT._auto_1
theorem wpT(h:True:=by rfl):True:=h
def wp:=wpT._auto_1
theorem wnT(h:True:=by intro _; rfl):True:=h
def wn:=wnT._auto_1
theorem wfT(h:True:=by with_unfolding_all rfl):True:=h
def wf:=wfT._auto_1
theorem wTT(h:True:=by exact λ_ _=>rfl):True:=h
def wT:=wTT._auto_1
theorem wST(h:True:=by first|exact Or.inl rfl|exact Or.inr rfl):True:=h
def wS:=wST._auto_1
theorem wPT(h:True:=by first|exact .inl rfl|exact .inr rfl):True:=h
def wP:=wPT._auto_1
theorem wET(h:True:=by first|exact Or.inl rfl|exact Or.inr (Or.inl rfl)|exact Or.inr (Or.inr rfl)):True:=h
def wE:=wET._auto_1
theorem v6T(h:True:=by decide+kernel):True:=h
def v6:=v6T._auto_1
theorem v4T(h:True:=by exact λ_ _ _ _ _ _ _=>rfl):True:=h
def v4:=v4T._auto_1
theorem u8T(h:True:=by first|decide|lia):True:=h
def u8:=u8T._auto_1
theorem utT(h:True:=by exact rfl):True:=h
def ut:=utT._auto_1
open PyProof.Rows (boot_isinstance boot_int boot_bool boot_tuple boot_str boot_list boot_abs boot_all boot_any boot_sum boot_max boot_min boot_range boot_enumerate boot_zip boot_sorted boot_set boot_divmod)
noncomputable section
namespace L2
open PySem PySem.Spec PyProof.Rows
abbrev Key:=Sum Int Str
noncomputable def Vr:Key->vm->xD
 | .inl k,v=>Value.isInt k v
 | .inr x,v=>zI x v
noncomputable def vF(w:xy):Key->Int
 | .inl k=>hashInt k
 | .inr x=>hashStr w x
theorem CY:∀{k:Key} {v:vm},Vr k v=true->(∃i t,k=ADA i/\v=AB3 i t)\/(∃x t,k=ADB x/\v=AAr x t)
 | .inl i,v,h=>by
   obtain⟨t,e⟩:=Value.isInt_shape (k:=i) (v:=v) h
   exact .inl ⟨i,t,rfl,e⟩
 | .inr x,v,h=>by
   obtain⟨t,e⟩:=Value.isStrOf_shape (x:=x) (v:=v) h
   exact .inr ⟨x,t,rfl,e⟩
def Wq(i:Int)(t:Tok):Vr (.inl i) (.int i t)=true:=by simp[Vr,Value.isInt]
def Xl(x:Str)(t:Tok):Vr (.inr x) (.str x t)=true:=by simp[Vr,zI]
def ju(a b:Int):decide ((ADA a:Key)=ADA b)=(a==b):=by
 by_cases e:a=b
 .subst e;simp
 .have h:¬(ADA a:Key)=ADA b:=λq=>e (Sum.inl.inj q)
  rw[yQ h]
  exact(yn.mpr e).symm
def lW(a b:Str):decide ((ADB a:Key)=ADB b)=decide (a=b):=by
 by_cases e:a=b
 .subst e;simp
 .have h:¬(ADB a:Key)=ADB b:=λq=>e (Sum.inr.inj q)
  rw[yQ h,yQ e]
def j9(a:Int)(b:Str):decide ((ADA a:Key)=ADB b)=false:=yQ (λq=>nomatch q)
def kP(a:Str)(b:Int):decide ((ADB a:Key)=ADA b)=false:=yQ (λq=>nomatch q)
noncomputable def G6(prog:xK)(w:xy):PySem.KeyKind prog w Key where
 is:=Vr
 hash:=vF w
 inj:=λv a b ha hb=>by
  rcases CY ha with⟨i,t,rfl,rfl⟩|⟨x,t,rfl,rfl⟩
  .rcases CY hb with⟨j,u,rfl,e⟩|⟨y,u,rfl,e⟩
   .injection e with e1 _;rw[e1]
   .exact nomatch e
  .rcases CY hb with⟨j,u,rfl,e⟩|⟨y,u,rfl,e⟩
   .exact nomatch e
   .injection e with e1 _;rw[e1]
 byValue:=λk v h=>by
  rcases CY h with⟨i,t,rfl,rfl⟩|⟨x,t,rfl,rfl⟩<;>rfl
 pyHash:=λhv h=>by
  rcases CY hv with⟨i,t,rfl,rfl⟩|⟨x,t,rfl,rfl⟩
  .exact wpAny_pyHash_int h
  .exact wpAny_pyHash_str h
 eqBool:=λhu hv h=>by
  rcases CY hu with⟨i,t,rfl,rfl⟩|⟨x,t,rfl,rfl⟩
  .rcases CY hv with⟨j,u,rfl,rfl⟩|⟨y,u,rfl,rfl⟩
   .rw[ju]at h;exact wpAny_eqBool_int h
   .rw[j9]at h;exact ADP i t y u _ _ _ _ h
  .rcases CY hv with⟨j,u,rfl,rfl⟩|⟨y,u,rfl,rfl⟩
   .rw[kP]at h;exact ADQ x t j u _ _ _ _ h
   .rw[lW]at h;exact wpAny_eqBool_str h
 «strs» :=λk x t v h=>by
  rcases CY h with⟨i,u,rfl,e⟩|⟨y,u,rfl,e⟩
  .exact nomatch e
  .injection e with e1 _
   subst e1
   cases v<;>rfl
def TU prog w(i:Int)(t:Tok):(G6 prog w).is (.inl i) (.int i t)=true:=Wq i t
def SX prog w(x:Str)(t:Tok):(G6 prog w).is (.inr x) (.str x t)=true:=Xl x t
end L2
namespace L2
open PySem PySem.Spec PyProof.Rows
inductive V where
 |non|bl (b:xD)|int (i:Int)|str (x:Str)|byt (b:AAn UInt8)|flt (b:UInt64)|ref (a:vy)|ty (n:yo)
 deriving DecidableEq
def RelV:V->vm->Prop
 | .non,u=>u=xA
 | .bl b,u=>u=ABR b
 | .int i,u=>∃t,u=AB3 i t
 | .str x,u=>∃t,u=AAr x t
 | .byt b,u=>∃t,u=Value.bytes b t
 | .flt b,u=>∃t,u=Value.float b t
 | .ref a,u=>u=w9 a
 | .ty n,u=>u=ADR n
abbrev Vals:Wp V->Wp vm->Prop:=Paired RelV
def Vals.length{xs:Wp V}{us:Wp vm}(r:Vals xs us):xs.length=us.length:=Paired.length r
theorem Vals.get:∀{xs} {us} {i:Nat} {x:V},Vals xs us->xs[i]?=Gc x->∃u,us[i]?=Gc u/\RelV x u
 |_,_,_,_,.nil,e=>by simp at e
 |_,_,0,_,.cons r _,e=>by simp at e;subst e;exact⟨_,rfl,r⟩
 |_,_,i+1,x,.cons _ t,e=>by
  obtain⟨u,h1,h2⟩:=Vals.get (i:=i) (x:=x) t (by simpa using e)
  exact⟨u,by simpa using h1,h2⟩
theorem Vals.set(r:RelV x u):∀{xs} {us} i,Vals xs us->Vals (xs.set i x) (us.set i u)
 |_,_,_,.nil=>.nil
 |_,_,0,.cons _ t=>.cons r t
 |_,_,i+1,.cons q t=>.cons q (Vals.set r i t)
theorem Vals.append:∀{xs ys:Wp V} {us ws:Wp vm},Vals xs us->Vals ys ws->Vals (xs++ys) (us++ws)
 |_,_,_,_,.nil,s=>s
 |_,_,_,_,.cons r t,s=>.cons r (Vals.append t s)
theorem Vals.take:∀{xs} {us} (n:Nat),Vals xs us->Vals (xs.take n) (us.take n)
 |_,_,0,_=>.nil
 |_,_,_+1,.nil=>.nil
 |_,_,n+1,.cons r t=>.cons r (Vals.take n t)
theorem Vals.drop:∀{xs} {us} (n:Nat),Vals xs us->Vals (xs.drop n) (us.drop n)
 |_,_,0,r=>r
 |_,_,_+1,.nil=>.nil
 |_,_,n+1,.cons _ t=>Vals.drop n t
def bz:vi V->vi vm->Prop
 |some v,Gc u=>RelV v u
 |none,none=>ABE
 |_,_=>yV
def KV{κ:Type}:Wp (κ×V)->Wp (κ×vm)->Prop:=Paired λ(p:κ×V) (q:κ×vm)=>p.1=q.1/\RelV p.2 q.2
noncomputable def kV:Key->V
 | .inl i=>.int i
 | .inr x=>.str x
inductive HO where
 |lst (xs:Wp V)
 |tup (xs:Wp V)
 |dK (kvs:Wp (Key×V))|dT (kvs:Wp (Wp Key×V))
 |set (S:Int->xD) (n:Nat)
 |ins (C dx:vy) (fs:Wp (Str×V))
 |own (x:vy)
 |xd (fs:Wp (Str×V))
 |met (f x:vy)
 |rng (lo hi:Int)
 |frz (o:Obj) (u:HO)
 |tbl (ps:AAn vm)
 |ext (φ:xZ->Prop)
abbrev Hp:=vy->vi HO
noncomputable def upd(H:Hp)(a:vy)(o:HO):Hp:=λb=>if b=a then Gc o else H b
def B7{o:HO}:upd H a o a=Gc o:=by unfold upd;rw[wU rfl]
def Ay{o:HO}(h:b≠a):upd H a o b=H b:=by unfold upd;rw[wy h]
def BG{H:Hp}{o:HO}(h:H a=Gc o)(h':H b=none):a≠b:=by
 intro e;subst e;rw[h]at h';cases h'
section
variable(P:xK)(w:xy)
def EO(H:Hp)(h:xZ)(a:vy):HO->Prop
 | .lst xs=>xs.length<=sizeLine/\∃(its:Wp vm) (n:Nat),Vals xs its/\h.get? a=Gc {cls:=.type "list",data:=.seq its.toArray n}
 | .tup xs=>xs.length<=sizeLine/\∃its:Wp vm,Vals xs its/\IsTup h a its.toArray
 | .dK kvs=>kvs.length<=sizeLine/\(a==sysModules)=false/\∃vs,KV kvs vs/\h.DictOf (G6 P w) a vs
 | .dT kvs=>kvs.length<=sizeLine/\(a==sysModules)=false/\∃xs:Wp (Wp Key×vy×vm),
    Paired (λ(p:Wp Key×V) (q:Wp Key×vy×vm)=>p.1=q.1/\H q.2.1=Gc (.tup (p.1.map kV))/\RelV p.2 q.2.2) kvs xs/\
    ∃o es ep,h.get? a=Gc o/\o.ExactDict/\o.data=.dict es ep/\es.toList=xs.map (entryOfKey (tupleKind (G6 P w)))/\(xs.map (·.1)).Nodup
 | .set S n=>h.SetOf (intKind P w) a S n
 | .ins C dx fs=>H dx=Gc (.own a)/\fs.length<=1000/\dx≠a/\h.get? a=Gc (ACc C dx)/\
    ∃mA,h.Ns1 dx mA/\(∀f,bz (fs.lookup f) (mA f))/\PySem.Within mA (fs.map (·.1))
 | .own _=>∃o,h.get? a=Gc o
 | .xd fs=>∃mA,h.Ns1 a mA/\∀f,bz (fs.lookup f) (mA f)
 | .rng lo hi=>∃t u v,h.get? a=Gc {cls:=.type "range",data:=.fields #[.int lo t,.int hi u,.int 1 v]}
 | .frz o u=>h.get? a=Gc o/\EO H h a u
 | .tbl ps=>h.get? a=Gc {cls:=.none,data:=.fields ps}
 | .met f x=>h.get? a=Gc (ABm (.ref f) (.ref x))
 | .ext φ=>φ h/\(∃o,h.get? a=Gc o)/\∀h1 h2:xZ,φ h1->(∀o,h1.get? a=Gc o->h2.get? a=Gc o)->φ h2
def HOk(H:Hp)(h:xZ):Prop:=∀a o,H a=Gc o->EO P w H h a o
end
section
variable{P:xK}{w:xy}{H H':Hp}{h h':xZ}{a:vy}{o:HO}
def EO.lt(x:EO P w H h a o):a<h.objs.size:=by
 cases o with
 |lst xs=>obtain⟨_,_,_,_,e⟩:=x;exact vz e
 |tup xs=>obtain⟨_,_,_,p⟩:=x;exact p.lt
 |dK kvs=>obtain⟨_,_,_,_,o,_,_,e,_⟩:=x;exact vz e
 |dT kvs=>obtain⟨_,_,_,_,o,_,_,e,_⟩:=x;exact vz e
 |set S n=>obtain⟨o,_,_,_,e,_⟩:=x;exact vz e
 |ins C dx fs=>obtain⟨_,_,_,e,_⟩:=x;exact vz e
 |own y=>obtain⟨_,e⟩:=x;exact vz e
 |xd fs=>obtain⟨_,⟨_,_,_,e,_⟩,_⟩:=x;exact vz e
 |rng lo hi=>obtain⟨_,_,_,e⟩:=x;exact vz e
 |frz ob u=>obtain⟨e,_⟩:=x;exact vz e
 |tbl ps=>exact vz (show h.get? a=Gc _ from x)
 |met f y=>exact vz (show h.get? a=Gc _ from x)
 |ext φ=>obtain⟨_,⟨_,e⟩,_⟩:=x;exact vz e
theorem Paired.sZ{α β:Type}{F G:α->β->Prop}:∀{l₁} {l₂:Wp β},Paired F l₁ l₂->(∀a b,F a b->G a b)->Paired G l₁ l₂
 |_,_,.nil,_=>.nil
 |_,_,.cons r t,f=>.cons (f _ _ r) (Paired.sZ t f)
def EO.Zw(x:EO P w H h a o)(k:∀b u,(b=a\/H b=Gc (.own a))->h.get? b=Gc u->h'.get? b=Gc u)(ho:∀b,H b=Gc (.own a)->H' b=Gc (.own a))(ht:∀b xs,H b=Gc (.tup xs)->H' b=Gc (.tup xs)):EO P w H' h' a o:=by
 induction o with
 |lst xs=>obtain⟨z,its,n,r,e⟩:=x;exact⟨z,its,n,r,k _ _ (.inl rfl) e⟩
 |tup xs=>obtain⟨z,its,r,ob,e,c⟩:=x;exact⟨z,its,r,ob,k _ _ (.inl rfl) e,c⟩
 |dK kvs=>obtain⟨z,y,vs,r,ob,es,ep,e,c⟩:=x;exact⟨z,y,vs,r,ob,es,ep,k _ _ (.inl rfl) e,c⟩
 |dT kvs=>
  obtain⟨z,y,xs,r,ob,es,ep,e,c⟩:=x
  exact⟨z,y,xs,Paired.sZ r λp q z=>⟨z.1,ht _ _ z.2.1,z.2.2⟩,ob,es,ep,k _ _ (.inl rfl) e,c⟩
 |set S n=>obtain⟨ob,es,ep,t,e,c⟩:=x;exact⟨ob,es,ep,t,k _ _ (.inl rfl) e,c⟩
 |ins C dx fs=>
  obtain⟨d,z,ne,e,mA,⟨od,es,ep,e2,c⟩,r⟩:=x
  exact⟨ho _ d,z,ne,k _ _ (.inl rfl) e,mA,⟨od,es,ep,k _ _ (.inr d) e2,c⟩,r⟩
 |own y=>obtain⟨ob,e⟩:=x;exact⟨ob,k _ _ (.inl rfl) e⟩
 |xd fs=>obtain⟨mA,⟨od,es,ep,e,c⟩,r⟩:=x;exact⟨mA,⟨od,es,ep,k _ _ (.inl rfl) e,c⟩,r⟩
 |rng lo hi=>obtain⟨t,u,v,e⟩:=x;exact⟨t,u,v,k _ _ (.inl rfl) e⟩
 |frz ob u ih=>obtain⟨e,q⟩:=x;exact⟨k _ _ (.inl rfl) e,ih q⟩
 |tbl ps=>
  have e:h.get? a=Gc {cls:=.none,data:=.fields ps}:=x
  show h'.get? a=Gc {cls:=.none,data:=.fields ps}
  exact k a _ (.inl rfl) e
 |met f y=>
  have e:h.get? a=Gc (ABm (.ref f) (.ref y)):=x
  show h'.get? a=Gc (ABm (.ref f) (.ref y))
  exact k a _ (.inl rfl) e
 |ext φ=>obtain⟨p,⟨o,e⟩,st⟩:=x;exact⟨st _ _ p λo q=>k _ _ (.inl rfl) q,⟨o,k _ _ (.inl rfl) e⟩,st⟩
def HOk.lt(x:HOk P w H h)(e:H a=Gc o):a<h.objs.size:=(x a o e).lt
def HOk.fresh(x:HOk P w H h)(e:h.objs.size<=a):H a=none:=by
 cases q:H a with
 |none=>rfl
 |some u=>exact absurd (vd (x.lt q) e) (yD _)
def HOk.kept(x:HOk P w H h)(k:∀b u,h.get? b=Gc u->h'.get? b=Gc u):HOk P w H h':=λa o e=>
 (x a o e).Zw (λb u _ q=>k b u q) (λ_ q=>q) λ_ _ q=>q
def HOk.laid(x:HOk P w H h)(k:∀b u,h.get? b=Gc u->h'.get? b=Gc u)(hp:h.objs.size<=a)(new:EO P w (upd H a o) h' a o):HOk P w (upd H a o) h':=λb u e=>by
 have hn:=x.fresh hp
 by_cases hb:b=a
 .subst hb;rw[B7]at e;cases e;exact new
 .rw[Ay hb]at e
  exact(x b u e).Zw (λc v _ q=>k c v q) (λc q=>by rw[Ay (BG q hn)];exact q) λc xs q=>by rw[Ay (BG q hn)];exact q
end
def Rd(H:Hp)(a:vy)(u:HO):Prop:=H a=Gc u\/∃o,H a=Gc (.frz o u)
def Rd.ok(r:Rd H a u)(x:HOk P w H h):EO P w H h a u:=by
 rcases r with r|⟨o,r⟩
 .exact x a u r
 .obtain⟨_,q⟩:=x a _ r
  exact q
def Mut:vi HO->Prop
 |some (.lst _)=>ABE
 |some (.dK _)=>ABE
 |some (.dT _)=>ABE
 |some (.set _ _)=>ABE
 |some (.ins _ _ _)=>ABE
 |some (.ext _)=>ABE
 |_=>yV
section
variable{P:xK}{w:xy}{H:Hp}{h h':xZ}{x e:vy}{o':HO}
def HOk.write(ok:HOk P w H h)(mu:Mut (H x))(he:e=x\/H e=Gc (.own x))(k:∀b u,b≠e->h.get? b=Gc u->h'.get? b=Gc u)(heo:∃u,h'.get? e=Gc u)(new:EO P w (upd H x o') h' x o'):HOk P w (upd H x o') h':=λb u q=>by
 have nown:∀c y,H c=Gc (.own y)->c≠x:=λc y r z=>by subst z;rw[r]at mu;exact mu
 have ntup:∀c xs,H c=Gc (.tup xs)->c≠x:=λc xs r z=>by subst z;rw[r]at mu;exact mu
 by_cases hb:b=x
 .subst hb;rw[B7]at q;cases q;exact new
 .rw[Ay hb]at q
  by_cases hbe:b=e
  .have q':H b=Gc (.own x):=by
    rcases he with z|z
    .exact absurd (hbe.trans z) hb
    .rw[hbe];exact z
   rw[q]at q';cases q'
   obtain⟨v,hv⟩:=heo
   exact⟨v,by rw[hbe];exact hv⟩
  .refine(ok b u q).Zw (λc v hc r=>k c v ?_ r) (λc r=>by rw[Ay (nown c b r)];exact r) λc xs r=>by rw[Ay (ntup c xs r)];exact r
   rcases hc with rfl|hc
   .exact hbe
   .rintro rfl
    rcases he with z|z
    .exact nown c b hc z
    .rw[hc]at z;cases z;exact hb rfl
end
structure Un(fs ex:Wp vy)(H H':Hp)(h h':xZ):Prop where
 keep:∀b o,h.get? b=Gc o->H b=none->b∉fs->b∉ex->h'.get? b=Gc o
 slot:∀b o,h.get? b=Gc o->H b=none->b∈fs->b∉ex->∃sl,h'.get? b=Gc {o with slots:=sl}
 free:∀b o,h.get? b=Gc o->H b=none->b∉ex->H' b=none
 there:∀b o,h.get? b=Gc o->b∉ex->∃o',h'.get? b=Gc o'
 ae:∀b xs,H b=Gc (.tup xs)->H' b=Gc (.tup xs)
 ZK:∀b o u,H b=Gc (.frz o u)->H' b=Gc (.frz o u)
 Zg:∀b ps,H b=Gc (.tbl ps)->∃more,H' b=Gc (.tbl (ps++more))
section
variable{fs fs' ex ex':Wp vy}{H H1 H2:Hp}{h h1 h2 h':xZ}{a x e:vy}{o:HO}
def Un.any(u:Un fs ex H H1 h h1){b:vy}{ob:Obj}(q:h.get? b=Gc ob)(n:H b=none)(hx:b∉ex):∃sl,h1.get? b=Gc {ob with slots:=sl}:=by
 by_cases hb:b∈fs
 .exact u.slot b ob q n hb hx
 .exact⟨ob.slots,u.keep b ob q n hb hx⟩
def Un.kept(k:∀b u,h.get? b=Gc u->h'.get? b=Gc u):Un fs ex H H h h':=
 ⟨λb ob q _ _ _=>k b ob q,λb ob q _ _ _=>⟨ob.slots,k b ob q⟩,λ_ _ _ n _=>n,λb ob q _=>⟨ob,k b ob q⟩,λ_ _ q=>q,λ_ _ _ q=>q,λ_ ps q=>⟨#[],by rw[q];simp⟩⟩
def Un.refl:Un fs ex H H h h:=Un.kept λ_ _ q=>q
theorem Un.laid(k:∀b u,h.get? b=Gc u->h'.get? b=Gc u)(hp:h.objs.size<=a)(hn:H a=none):Un fs ex H (upd H a o) h h' where
 keep:=λb u q _ _ _=>k b u q
 slot:=λb u q _ _ _=>⟨u.slots,k b u q⟩
 free:=λb u q n _=>by rw[Ay (wZ (vd (vz q) hp))];exact n
 there:=λb u q _=>⟨u,k b u q⟩
 ae:=λb xs q=>by rw[Ay (BG q hn)];exact q
 ZK:=λb u xs q=>by rw[Ay (BG q hn)];exact q
 Zg:=λb ps q=>⟨#[],by rw[Ay (BG q hn),q];simp⟩
def Un.write(mu:Mut (H x))(he:e=x\/H e=Gc (.own x))(k:∀b u,b≠e->h.get? b=Gc u->h'.get? b=Gc u)(heo:∃u,h'.get? e=Gc u):Un fs ex H (upd H x o) h h':=by
 have hx:∀b,H b=none->b≠x:=λb n z=>by subst z;rw[n]at mu;exact mu
 have hb:∀b,H b=none->b≠e:=λb n z=>by
  subst z
  rcases he with r|r
  .exact hx b n r
  .rw[n]at r;cases r
 have hm:∀b u,H b=Gc u->¬Mut (Gc u)->b≠x:=λb u q nm z=>by subst z;rw[q]at mu;exact nm mu
 refine⟨λb u q n _ _=>k b u (hb b n) q,λb u q n _ _=>⟨u.slots,k b u (hb b n) q⟩,λb u q n _=>by rw[Ay (hx b n)];exact n,λb u q _=>?_,
  λb xs q=>by rw[Ay (hm b _ q λz=>z)];exact q,λb u xs q=>by rw[Ay (hm b _ q λz=>z)];exact q,λb ps q=>⟨#[],by rw[Ay (hm b _ q λz=>z),q];simp⟩⟩
 by_cases hbe:b=e
 .subst hbe;exact heo
 .exact⟨u,k b u hbe q⟩
end
noncomputable def trk(h:xZ)(H:Hp):Wp vy:=(xI h.objs.size).filter λa=>(H a).isSome
noncomputable def aH(h:xZ)(H:Hp):xZ:=PySem.W.hideAll h (trk h H)
def XT(h:xZ)(H:Hp):(aH h H).objs.size=h.objs.size:=PySem.W.hideAll_size _ _
def ZW{o:Obj}(e:h.get? b=Gc o)(n:H b=none):(aH h H).get? b=Gc o:=
 PySem.W.hideAll_get _ e λhm=>by
  have q:(H b).isSome=true:=(AAQ.mp hm).2
  rw[n]at q;simp at q
def gc{o:Obj}(e:(aH h H).get? b=Gc o):h.get? b=Gc o/\H b=none:=by
 have e':h.get? b=Gc o:=PySem.W.of_hideAll (trk h H) e
 refine⟨e',?_⟩
 cases q:H b with
 |none=>rfl
 |some x=>
  have hm:b∈trk h H:=AAQ.mpr ⟨zu.mpr (vz e'),by simp[q]⟩
  have z:(aH h H).get? b=none:=PySem.W.hideAll_none (trk h H) hm
  rw[z]at e;cases e
noncomputable def gZ(g h:xZ)(L:vy):Wp (vy×Obj):=(xI h.objs.size).filterMap λa=>if a=L\/(g.get? a).isSome=true then none else(h.get? a).map λo=>(a,o)
noncomputable def rest(g h:xZ)(L d:vy):Wp (vy×Obj):=(gZ g h L).filter λp=>decide (p.1≠d)
end L2
namespace L2
open PySem PySem.Spec PyProof.Rows
structure Mod(K:vZ)(mg:Str->vi vm)(base:xZ):Prop where
 kin:K.In base
 glob:base.Ns mainGlobals mg
 blt:∃mb,base.Ns builtinsNs mb/\∀x:Str,x≠ "__name__"->mb x=bootBuiltins x
 nolimit:base.NoLimit
structure Cx where
 prog:xK
 w:xy
 K:vZ
 mg:Str->vi vm
 base:xZ
 A:yt
 N:Wp Str
 s₀:vw
 H₀:Hp
 env:Env
 outer:Wp Env
 stack:Wp Env
 ex:Wp vy
 fn:Str->xD
 calm:xD
 pn:Wp (vy×Obj)
 xe:vm->vw->Prop
noncomputable def frs(l:Wp Env):Wp vy:=l.filterMap (·.frame)
abbrev Cx.fs(X:Cx):Wp vy:=frs X.outer
def Vis(sc:zv)(x:Str):Prop:=sc.names.lookup x=Gc .local\/sc.names.lookup x=Gc .cell\/sc.names.lookup x=Gc .free
def Loc(sc:zv)(x:Str):Prop:=sc.names.lookup x=Gc .local\/sc.names.lookup x=Gc .cell
def Look(env:Env)(h:xZ)(m:Str->vi vm)(x:Str)(u:vm):Prop:=
 (env.kindOf x=Gc .local/\m x=Gc u)\/((env.kindOf x=Gc .cell\/env.kindOf x=Gc .free)/\∃c,env.cells.lookup x=Gc c/\h.IsCell c (Gc u))
structure Cx.Ok(X:Cx):Prop where
 mod:Mod X.K X.mg X.base
 kind:X.env.scope.kind=.function
 glob:X.env.globals=mainGlobals
 blt:X.env.builtins=builtinsNs
 above:X.s₀.heap.objs.size<=X.env.locals
 inj:∀x y c,X.env.cells.lookup x=Gc c->X.env.cells.lookup y=Gc c->x=y
 has:∀x,(X.env.kindOf x=Gc .cell\/X.env.kindOf x=Gc .free)->∃c,X.env.cells.lookup x=Gc c
 cab:∀x c,X.fn x=true->X.env.cells.lookup x=Gc c->X.s₀.heap.objs.size<=c
 hd:X.calm=true->X.A.handled=none
 frames:X.A.frames=Gc X.stack
 stk:X.stack=X.outer\/(X.stack=X.env::X.outer/\X.env.frame=Gc X.env.locals)
 exf:∀b∈X.ex,b≠X.env.locals/\∀x c,X.env.cells.lookup x=Gc c->c≠b
 bs:∀b o,X.base.get? b=Gc o->X.s₀.heap.get? b=Gc o/\X.H₀ b=none
 bsz:X.base.objs.size<=X.s₀.heap.objs.size
 cT:∀b o,X.base.get? b=Gc o->b∉X.ex
 eX:∀b∈X.ex,b∉X.fs
 VO:X.s₀.heap.FunFrames X.base X.outer
 frf:∀b∈X.fs,X.H₀ b=none
structure Inv(X:Cx)(pins:Wp (vy×Obj))(σ:Wp (vi V))(H:Hp)(s:vw):Prop where
 ok:X.Ok
 os:s.os=X.s₀.os
 bare:AAY s.gens
 base:Un X.fs X.ex X.H₀ H X.s₀.heap s.heap
 loc:∃m,s.heap.Ns X.env.locals m/\∀(i:Nat) (x:Str) (v:V),X.N[i]?=Gc x->σ[i]?=Gc (Gc v)->Vis X.env.scope x->∃u,RelV v u/\Look X.env s.heap m x u
 cell:∀x c,X.env.cells.lookup x=Gc c->∃v,s.heap.IsCell c v
 free:H X.env.locals=none
 Lv:∀x c,X.env.cells.lookup x=Gc c->H c=none
 pin:∀p∈X.pn++pins,s.heap.get? p.1=Gc p.2/\H p.1=none/\p.1≠X.env.locals/\p.1∉X.fs/\∀v,p.2.data≠.cell v
 hok:HOk X.prog X.w H s.heap
 len:σ.length=X.N.length
section
variable{X:Cx}{pins:Wp (vy×Obj)}{σ:Wp (vi V)}{H H':Hp}{s:vw}{h':xZ}
def Cx.Ok.tW(ok:X.Ok){b:vy}{o:Obj}(e:X.base.get? b=Gc o):b∉X.fs:=λhb=>by
 have:=(ok.VO.mem hb).1
 rw[e]at this;cases this
def Inv.bs(I:Inv X pins σ H s):∀b o,X.base.get? b=Gc o->s.heap.get? b=Gc o/\H b=none:=λb o e=>
 ⟨I.base.keep b o (I.ok.bs b o e).1 (I.ok.bs b o e).2 (I.ok.tW e) (I.ok.cT b o e),I.base.free b o (I.ok.bs b o e).1 (I.ok.bs b o e).2 (I.ok.cT b o e)⟩
def Inv.bk(I:Inv X pins σ H s):∀b o,X.base.get? b=Gc o->s.heap.get? b=Gc o:=λb o e=>(I.bs b o e).1
def Inv.mod(I:Inv X pins σ H s):Mod X.K X.mg X.base:=I.ok.mod
def Inv.kIn(I:Inv X pins σ H s):X.K.In s.heap:=I.ok.mod.kin.keeps I.bk
def Inv.lt(I:Inv X pins σ H s):X.env.locals<s.heap.objs.size:=let⟨_,hn,_⟩:=I.loc;hn.lt
def Inv.sz(I:Inv X pins σ H s):X.s₀.heap.objs.size<=s.heap.objs.size:=va I.ok.above (ye I.lt)
def Inv.vE(I:Inv X pins σ H s){a:vy}(h:s.heap.objs.size<=a):a∉X.fs:=λhb=>by
 obtain⟨_,o,ho,_⟩:=I.ok.VO.mem hb
 exact absurd (vd (vz ho) (va I.sz h)) (yD _)
def Inv.cne(I:Inv X pins σ H s):∀x c,X.env.cells.lookup x=Gc c->c≠X.env.locals:=λx c e z=>by
 obtain⟨v,o,ho,hd⟩:=I.cell x c e
 obtain⟨m,⟨o',es,ep,ho',hd',_⟩,_⟩:=I.loc
 rw[z,ho']at ho;cases ho;rw[hd']at hd;cases hd
def Inv.VO(I:Inv X pins σ H s):s.heap.FunFrames X.base X.outer:=by
 have all:∀(l:Wp Env),(∀b∈frs l,b∈X.fs)->X.s₀.heap.FunFrames X.base l->s.heap.FunFrames X.base l:=by
  intro l
  induction l with
  |nil=>intro _ _;trivial
  |cons env r ih=>
   intro hs hl
   obtain⟨hk,⟨L,o,hf,hn,ho,hd⟩,hr⟩:=hl
   have hL:L∈X.fs:=hs L (by unfold frs;rw[wm,hf];exact vp)
   obtain⟨sl,e⟩:=I.base.slot L o ho (I.ok.frf L hL) hL λz=>I.ok.eX L z hL
   exact⟨hk,⟨L,_,hf,hn,e,hd⟩,ih (λb hb=>hs b (by unfold frs;rw[wm,hf];exact vh _ hb)) hr⟩
 exact all X.outer (λ_ hb=>hb) I.ok.VO
def Inv.stack(I:Inv X pins σ H s):s.heap.FunFrames X.base X.stack:=by
 rcases I.ok.stk with e|⟨e,hf⟩
 .rw[e];exact I.VO
 .rw[e]
  obtain⟨m,hn,_⟩:=I.loc
  refine .cons (by rw[I.ok.kind];decide) hf hn ?_ I.VO
  exact Heap.get?_none_of_le (va I.ok.bsz I.ok.above)
def Inv.Wz(I:Inv X pins σ H s):∀b∈frs X.stack,b∈X.env.locals::X.fs:=λb hb=>by
 rcases I.ok.stk with e|⟨e,hf⟩
 .rw[e]at hb;exact vh _ hb
 .rw[e]at hb
  unfold frs at hb
  rw[wm,hf]at hb
  exact hb
def Inv.Tp(I:Inv X pins σ H s):∀b∈frs X.stack,H b=none:=λb hb=>by
 rcases ve.mp (I.Wz b hb)with e|hb
 .rw[e];exact I.free
 .obtain⟨_,o,ho,_⟩:=I.ok.VO.mem hb
  exact I.base.free b o ho (I.ok.frf b hb) λz=>I.ok.eX b z hb
def Inv.step{ch:Wp vy}(I:Inv X pins σ H s)(hch:∀b∈ch,(b∈X.ex\/X.s₀.heap.objs.size<=b)/\b≠X.env.locals/\(∀x c,X.env.cells.lookup x=Gc c->c≠b)/\∀p∈X.pn++pins,p.1≠b)(keep:∀b o,b≠X.env.locals->b∉X.fs->b∉ch->s.heap.get? b=Gc o->H b=none->h'.get? b=Gc o)(slot:∀b o,b≠X.env.locals->b∈X.fs->b∉ch->s.heap.get? b=Gc o->H b=none->∃sl,h'.get? b=Gc {o with slots:=sl})(free:∀b o,b∉ch->s.heap.get? b=Gc o->H b=none->H' b=none)(there:∀b o,b∉ch->s.heap.get? b=Gc o->∃o',h'.get? b=Gc o')(ae:∀b xs,H b=Gc (.tup xs)->H' b=Gc (.tup xs))(ZK:∀b o u,H b=Gc (.frz o u)->H' b=Gc (.frz o u))(Zg:∀b ps,H b=Gc (.tbl ps)->∃more,H' b=Gc (.tbl (ps++more)))(ns:∀m,s.heap.Ns X.env.locals m->h'.Ns X.env.locals m)(hok:HOk X.prog X.w H' h')(hg:AAY g'):Inv X pins σ H' {s with heap:=h',gens:=g',drawn:=d',toks:=t'}:=by
 have neL:∀b o,X.s₀.heap.get? b=Gc o->b≠X.env.locals:=λb o e=>wZ (vd (vz e) I.ok.above)
 have neC:∀b o,X.s₀.heap.get? b=Gc o->b∉X.ex->b∉ch:=λb o e hx hb=>by
  rcases(hch b hb).1 with z|z
  .exact hx z
  .exact absurd (vd (vz e) z) (yD _)
 have cellK:∀x c,X.env.cells.lookup x=Gc c->∀v,s.heap.IsCell c v->h'.IsCell c v:=λx c e v ⟨o,ho,hd⟩=>by
  have nch:c∉ch:=λz=>(hch c z).2.2.1 x c e rfl
  by_cases hc:c∈X.fs
  .obtain⟨sl,q⟩:=slot c o (I.cne x c e) hc nch ho (I.Lv x c e)
   exact⟨_,q,hd⟩
  .exact⟨o,keep c o (I.cne x c e) hc nch ho (I.Lv x c e),hd⟩
 refine⟨I.ok,I.os,hg,⟨λb o e n hb hx=>?_,λb o e n hb hx=>?_,λb o e n hx=>?_,λb o e hx=>?_,λb xs e=>ae b xs (I.base.ae b xs e),λb o xs e=>ZK b o xs (I.base.ZK b o xs e),λb ps e=>?_⟩,?_,λx c e=>?_,?_,λx c e=>?_,λp hp=>?_,hok,I.len⟩
 .exact keep b o (neL b o e) hb (neC b o e hx) (I.base.keep b o e n hb hx) (I.base.free b o e n hx)
 .obtain⟨sl,e1⟩:=I.base.slot b o e n hb hx
  obtain⟨sl',e2⟩:=slot b _ (neL b o e) hb (neC b o e hx) e1 (I.base.free b o e n hx)
  exact⟨sl',e2⟩
 .obtain⟨o',e1⟩:=I.base.there b o e hx
  exact free b o' (neC b o e hx) e1 (I.base.free b o e n hx)
 .obtain⟨o',e1⟩:=I.base.there b o e hx
  exact there b o' (neC b o e hx) e1
 .obtain⟨m1,e1⟩:=I.base.Zg b ps e
  obtain⟨m2,e2⟩:=Zg b _ e1
  exact⟨m1++m2,by rw[e2,Array.append_assoc]⟩
 .obtain⟨m,hn,hl⟩:=I.loc
  refine⟨m,ns m hn,λi x v e1 e2 e3=>?_⟩
  obtain⟨u,r,l⟩:=hl i x v e1 e2 e3
  refine⟨u,r,?_⟩
  rcases l with l|⟨k,c,e,z⟩
  .exact .inl l
  .exact .inr ⟨k,c,e,cellK x c e _ z⟩
 .obtain⟨v,z⟩:=I.cell x c e
  exact⟨v,cellK x c e v z⟩
 .obtain⟨m,⟨o,_,_,ho,_⟩,_⟩:=I.loc
  exact free _ o (λz=>(hch _ z).2.1 rfl) ho I.free
 .obtain⟨v,o,ho,hd⟩:=I.cell x c e
  exact free c o (λz=>(hch c z).2.2.1 x c e rfl) ho (I.Lv x c e)
 .obtain⟨e,n,ne,nf,d⟩:=I.pin p hp
  have nch:p.1∉ch:=λz=>(hch p.1 z).2.2.2 p hp rfl
  exact⟨keep p.1 p.2 ne nf nch e n,free p.1 p.2 nch e n,ne,nf,d⟩
def Inv.un{t':Nat}(I:Inv X pins σ H s)(u:Un X.fs [] H H' s.heap h')(hok:HOk X.prog X.w H' h'):Inv X pins σ H' {s with heap:=h',toks:=t'}:=by
 obtain⟨m,⟨o,es,ep,ho,r⟩,_⟩:=id I.loc
 obtain⟨sl,hL⟩:=u.any ho I.free (by simp)
 exact I.step (g':=s.gens) (d':=s.drawn) (ch:=[]) (λ_ z=>nomatch z) (λb o _ hb _ e n=>u.keep b o e n hb (by simp)) (λb o _ hb _ e n=>u.slot b o e n hb (by simp)) (λb o _ e n=>u.free b o e n (by simp)) (λb o _ e=>u.there b o e (by simp)) u.ae u.ZK u.Zg (λm' hm=>by
  obtain⟨o',es',ep',ho',r'⟩:=hm
  rw[ho]at ho';cases ho'
  exact⟨_,es',ep',hL,r'⟩) hok I.bare
def Inv.call{ch:Wp vy}(I:Inv X pins σ H s)(u:Un (frs X.stack) ch H H' s.heap h')(hok:HOk X.prog X.w H' h')(hg:AAY g')(hch:∀b∈ch,(b∈X.ex\/X.s₀.heap.objs.size<=b)/\b≠X.env.locals/\(∀x c,X.env.cells.lookup x=Gc c->c≠b)/\∀p∈X.pn++pins,p.1≠b):Inv X pins σ H' {s with heap:=h',gens:=g',drawn:=d',toks:=t'}:=by
 obtain⟨m,⟨o,es,ep,ho,r⟩,_⟩:=id I.loc
 obtain⟨sl,hL⟩:=u.any ho I.free λz=>(hch _ z).2.1 rfl
 exact I.step (ch:=ch) hch (λb o hL hb hc e n=>u.keep b o e n (λz=>(ve.mp (I.Wz b z)).elim hL hb) hc) (λb o _ _ hc e n=>u.any e n hc) (λb o hc e n=>u.free b o e n hc) (λb o hc e=>u.there b o e hc) u.ae u.ZK u.Zg (λm' hm=>by
  obtain⟨o',es',ep',ho',r'⟩:=hm
  rw[ho]at ho';cases ho'
  exact⟨_,es',ep',hL,r'⟩) hok hg
def Inv.turned{t':Nat}{it:vy}(I:Inv X pins σ H s)(k:∀b o,b≠it->s.heap.get? b=Gc o->h'.get? b=Gc o)(hn:H it=none)(hL:it≠X.env.locals)(h1:it∈X.ex\/X.s₀.heap.objs.size<=it)(h2:∀x c,X.env.cells.lookup x=Gc c->c≠it)(h3:∀p∈X.pn++pins,p.1≠it):Inv X pins σ H {s with heap:=h',toks:=t'}:=by
 have nit:∀b u,H b=Gc u->b≠it:=λb u e z=>by rw[z,hn]at e;cases e
 refine I.step (g':=s.gens) (d':=s.drawn) (ch:=[it]) (λb hb=>?_) (λb o _ _ hc e _=>k b o (λz=>hc (by simp[z])) e) (λb o _ _ hc e _=>⟨o.slots,k b o (λz=>hc (by simp[z])) e⟩) (λ_ _ _ _ n=>n)
  (λb o hc e=>⟨o,k b o (λz=>hc (by simp[z])) e⟩) (λ_ _ e=>e) (λ_ _ _ e=>e) (λb ps e=>⟨#[],by rw[e];simp⟩) (λm hm=>?_) (λb u e=>?_) I.bare
 .have e:b=it:=by simpa using hb
  subst e
  exact⟨h1,hL,h2,h3⟩
 .obtain⟨o,es,ep,ho,r⟩:=hm
  exact⟨o,es,ep,k _ o (xv hL) ho,r⟩
 .refine(I.hok b u e).Zw (λc v hc q=>k c v ?_ q) (λ_ q=>q) λ_ _ q=>q
  rcases hc with z|z
  .rw[z];exact nit b u e
  .exact nit c _ z
def Inv.tok(I:Inv X pins σ H s)(t:Nat):Inv X pins σ H {s with toks:=t}:=I.un (h':=s.heap) (t':=t) Un.refl I.hok
def Inv.kept{t':Nat}(I:Inv X pins σ H s)(k:∀b u,s.heap.get? b=Gc u->h'.get? b=Gc u):Inv X pins σ H {s with heap:=h',toks:=t'}:=I.un (Un.kept k) (I.hok.kept k)
def Inv.laid{a:vy}{t':Nat}(I:Inv X pins σ H s)(k:∀b u,s.heap.get? b=Gc u->h'.get? b=Gc u)(hp:s.heap.objs.size<=a)(new:EO X.prog X.w (upd H a o) h' a o):Inv X pins σ (upd H a o) {s with heap:=h',toks:=t'}:=I.un (Un.laid k hp (I.hok.fresh hp)) (I.hok.laid k hp new)
def Inv.write{t':Nat}(I:Inv X pins σ H s)(mu:Mut (H x))(he:e=x\/H e=Gc (.own x))(k:∀b u,b≠e->s.heap.get? b=Gc u->h'.get? b=Gc u)(heo:∃u,h'.get? e=Gc u)(new:EO X.prog X.w (upd H x o) h' x o):Inv X pins σ (upd H x o) {s with heap:=h',toks:=t'}:=I.un (Un.write mu he k heo) (I.hok.write mu he k heo new)
def Inv.Xh{pins':Wp (vy×Obj)}(I:Inv X pins σ H s)(h:∀p∈pins',s.heap.get? p.1=Gc p.2/\H p.1=none/\p.1≠X.env.locals/\p.1∉X.fs/\∀v,p.2.data≠.cell v):Inv X pins' σ H s:=
 ⟨I.ok,I.os,I.bare,I.base,I.loc,I.cell,I.free,I.Lv,λp hp=>(wF.mp hp).elim (λz=>I.pin p (AA0 _ z)) (h p),I.hok,I.len⟩
def Uu{N:Wp Str}(hN:N.Nodup){i j:Nat}{x:Str}(a:N[i]?=Gc x)(b:N[j]?=Gc x):i=j:=by
 obtain⟨h1,e1⟩:=vt.mp a
 obtain⟨h2,e2⟩:=vt.mp b
 exact(List.getElem_inj hN).mp (e1.trans e2.symm)
def Qw(I:Inv X pins σ H s)(hN:X.N.Nodup)(hi:X.N[i]?=Gc x)(hx:Loc X.env.scope x)(r:RelV v u)(h:∀s',Inv X pins (σ.set i (Gc v)) H s'->(∃a,ABF a s.heap s'.heap/\(a=X.env.locals\/X.env.cells.lookup x=Gc a))->Q () s')(hf:xz (X.fn x=true\/X.env.scope.names.lookup x=Gc .local) xL):wpAny M A (storeName X.env x u) Q E s:=by
 obtain⟨m,hn,hl⟩:=id I.loc
 have hcls:(X.env.scope.kind== .class||(X.env.scope.kind== .module && X.env.locals !=X.env.globals))=false:=by rw[I.ok.kind];rfl
 have hiσ:i<σ.length:=by rw[I.len];exact(vt.mp hi).1
 have cne:=I.cne
 have tracked:∀{a:vy} {h':xZ},(∃o,s.heap.get? a=Gc o/\H a=none)->ABF a s.heap h'->HOk X.prog X.w H h':=λ{a h'} ha hs b ob e=>by
  obtain⟨_,_,hfree⟩:=ha
  refine(I.hok b ob e).Zw (λc w' hc q=>(hs.2 c ?_).trans q) (λ_ q=>q) λ_ _ q=>q
  rintro rfl
  rcases hc with rfl|hc
  .rw[hfree]at e;cases e
  .rw[hfree]at hc;cases hc
 rcases hx with hk|hk
 .refine wpAny_storeName_local hk hn (λh' hn' hs=>?_) hcls
  obtain⟨oL,_,_,hoL,_⟩:=id hn
  refine h _ ⟨I.ok,I.os,I.bare,⟨λb o e n hb hx=>?_,λb o e n hb hx=>?_,I.base.free,λb o e hx=>?_,I.base.ae,I.base.ZK,I.base.Zg⟩,⟨_,hn',λj y v' e1 e2 e3=>?_⟩,λy c e=>?_,I.free,I.Lv,λp hp=>?_,tracked ⟨oL,hoL,I.free⟩ hs,by simpa using I.len⟩ ⟨_,hs,.inl rfl⟩
  .exact(hs.2 b (wZ (vd (vz e) I.ok.above))).trans (I.base.keep b o e n hb hx)
  .obtain⟨sl,e1⟩:=I.base.slot b o e n hb hx
   exact⟨sl,(hs.2 b (wZ (vd (vz e) I.ok.above))).trans e1⟩
  .obtain⟨o',e1⟩:=I.base.there b o e hx
   exact⟨o',(hs.2 b (wZ (vd (vz e) I.ok.above))).trans e1⟩
  .by_cases hj:j=i
   .subst hj
    rw[hi]at e1;cases e1
    rw[vx hiσ]at e2
    cases e2
    exact⟨u,r,.inl ⟨hk,by simp⟩⟩
   .rw[vj (xv hj)]at e2
    obtain⟨u',r',q⟩:=hl j y v' e1 e2 e3
    refine⟨u',r',?_⟩
    rcases q with⟨k,e⟩|⟨k,c,e,z⟩
    .refine .inl ⟨k,?_⟩
     have:y≠x:=λe=>hj (Uu hN e1 (e▸hi))
     simp[this,e]
    .exact .inr ⟨k,c,e,z.sameBut hs (cne y c e)⟩
  .obtain⟨w',z⟩:=I.cell y c e
   exact⟨w',z.sameBut hs (cne y c e)⟩
  .obtain⟨e,n,ne,nf,d⟩:=I.pin p hp
   exact⟨(hs.2 p.1 ne).trans e,n,ne,nf,d⟩
 .have hfn:X.fn x=true:=by
   rcases hf with z|z
   .exact z
   .rw[z]at hk;cases hk
  obtain⟨c,hc⟩:=I.ok.has x (.inl hk)
  obtain⟨w',z⟩:=I.cell x c hc
  refine wpAny_storeName_cell I.ok.kind hk hc z (λh' hc' hs=>?_)
  obtain⟨oc,hoc,hocd⟩:=id z
  refine h {s with heap:=h'} ⟨I.ok,I.os,I.bare,⟨λb o e n hb hx=>?_,λb o e n hb hx=>?_,I.base.free,λb o e hx=>?_,I.base.ae,I.base.ZK,I.base.Zg⟩,⟨m,hn.sameBut hs (xv (cne x c hc)),λj y v' e1 e2 e3=>?_⟩,λy c' e=>?_,I.free,I.Lv,λp hp=>?_,tracked ⟨oc,hoc,I.Lv x c hc⟩ hs,by simpa using I.len⟩ ⟨c,hs,.inr hc⟩
  .exact(hs.2 b (wZ (vd (vz e) (I.ok.cab x c hfn hc)))).trans (I.base.keep b o e n hb hx)
  .obtain⟨sl,e1⟩:=I.base.slot b o e n hb hx
   exact⟨sl,(hs.2 b (wZ (vd (vz e) (I.ok.cab x c hfn hc)))).trans e1⟩
  .obtain⟨o',e1⟩:=I.base.there b o e hx
   exact⟨o',(hs.2 b (wZ (vd (vz e) (I.ok.cab x c hfn hc)))).trans e1⟩
  .by_cases hj:j=i
   .subst hj
    rw[hi]at e1;cases e1
    rw[vx hiσ]at e2
    cases e2
    exact⟨u,r,.inr ⟨.inl hk,c,hc,hc'⟩⟩
   .rw[vj (xv hj)]at e2
    obtain⟨u',r',q⟩:=hl j y v' e1 e2 e3
    refine⟨u',r',?_⟩
    rcases q with q|⟨k,c',e,z'⟩
    .exact .inl q
    .refine .inr ⟨k,c',e,z'.sameBut hs ?_⟩
     rintro rfl
     exact hj (Uu hN e1 (I.ok.inj _ _ _ e hc▸hi))
  .by_cases hcc:c'=c
   .subst hcc;exact⟨_,hc'⟩
   .obtain⟨w2,z2⟩:=I.cell y c' e
    exact⟨w2,z2.sameBut hs hcc⟩
  .obtain⟨e,n,ne,nf,d⟩:=I.pin p hp
   refine⟨(hs.2 p.1 ?_).trans e,n,ne,nf,d⟩
   intro q
   rw[q,hoc]at e
   have q':oc=p.2:=yI e
   exact d w' (by rw[<-q'];exact hocd)
def Mt(I:Inv X pins σ H s)(hN:X.N.Nodup)(hi:X.N[i]?=Gc x)(hx:Loc X.env.scope x)(r:RelV v u)(h:∀s',Inv X pins (σ.set i (Gc v)) H s'->Q () s')(hf:xz (X.fn x=true\/X.env.scope.names.lookup x=Gc .local) xL):wpAny M A (storeName X.env x u) Q E s:=
 Qw I hN hi hx r (λs' I' _=>h s' I') hf
def Inv.mP{s':vw}{ch:Wp vy}(I:Inv X pins σ H s)(ho:s'.os=s.os)(u:Un (frs X.stack) ch H H' s.heap s'.heap)(hok:HOk X.prog X.w H' s'.heap)(hg:AAY s'.gens)(hch:∀b∈ch,(b∈X.ex\/X.s₀.heap.objs.size<=b)/\b≠X.env.locals/\(∀x c,X.env.cells.lookup x=Gc c->c≠b)/\∀p∈X.pn++pins,p.1≠b):Inv X pins σ H' s':=by
 obtain⟨h',g',d',t',o'⟩:=s'
 have e:o'=s.os:=ho
 subst e
 exact I.call (g':=g') (t':=t') (d':=d') u hok hg hch
end
abbrev XK:=vm->vi vy->Hp->Prop
abbrev St:=Wp (vi V)
abbrev VK:=V->Hp->Prop
abbrev TE:=St->Hp->VK->Prop
abbrev TT:=St->Hp->(xD->Hp->Prop)->Prop
abbrev TA:=St->Hp->(Wp V->Hp->Prop)->Prop
structure Ends where
 nx:St->Hp->Prop
 rt:VK
 bk:St->Hp->Prop:=λ_ _=>yV
 ct:St->Hp->Prop:=λ_ _=>yV
abbrev TS:=Ends->St->Hp->Prop
def EP(X:Cx)(pins:Wp (vy×Obj))(σ:St)(Q:VK)(u:vm)(s':vw):Prop:=∃v H',Inv X pins σ H' s'/\RelV v u/\Q v H'
def TP(X:Cx)(pins:Wp (vy×Obj))(σ:St)(Q:xD->Hp->Prop)(b:xD)(s':vw):Prop:=∃H',Inv X pins σ H' s'/\Q b H'
def AP(X:Cx)(pins:Wp (vy×Obj))(σ:St)(Q:Wp V->Hp->Prop)(us:Wp vm)(s':vw):Prop:=∃vs H',Inv X pins σ H' s'/\Vals vs us/\Q vs H'
def SP(X:Cx)(pins:Wp (vy×Obj))(D:Ends)(f:Flow)(s':vw):Prop:=
 match f with
 | .next=>∃σ' H',Inv X pins σ' H' s'/\D.nx σ' H'
 | .brk=>∃σ' H',Inv X pins σ' H' s'/\D.bk σ' H'
 | .cont=>∃σ' H',Inv X pins σ' H' s'/\D.ct σ' H'
 | .ret u=>∃v σ' H',Inv X pins σ' H' s'/\RelV v u/\D.rt v H'
def PE(X:Cx)(e:xM)(t:TE):Prop:=
 ∀(pins:Wp (vy×Obj)) (s:vw) (σ:St) (H:Hp) (Q:VK),Inv X pins σ H s->t σ H Q->wpAny (model X.prog X.w) X.A (eval e X.env) (EP X pins σ Q) X.xe s
def PT(X:Cx)(e:xM)(t:TT):Prop:=
 ∀(pins:Wp (vy×Obj)) (s:vw) (σ:St) (H:Hp) (Q:xD->Hp->Prop),Inv X pins σ H s->t σ H Q->wpAny (model X.prog X.w) X.A (isTrue e X.env (eval e X.env)) (TP X pins σ Q) X.xe s
def PW(X:Cx)(e:xM)(t:TT):Prop:=
 ∀(whole:Sem vm) (pins:Wp (vy×Obj)) (s:vw) (σ:St) (H:Hp) (Q:xD->Hp->Prop),Inv X pins σ H s->t σ H Q->wpAny (model X.prog X.w) X.A (isTrue e X.env whole) (TP X pins σ Q) X.xe s
def PW.pt{t:TT}(h:PW X e t):PT X e t:=h _
def PA(X:Cx)(es:Wp xM)(t:TA):Prop:=
 ∀(pos:Pos) (pins:Wp (vy×Obj)) (s:vw) (σ:St) (H:Hp) (Q:Wp V->Hp->Prop),Inv X pins σ H s->t σ H Q->wpAny (model X.prog X.w) X.A (spliced (backTo pos (wD es X.env))) (AP X pins σ Q) X.xe s
def PS(X:Cx)(st:wV)(t:TS):Prop:=
 ∀(pins:Wp (vy×Obj)) (s:vw) (σ:St) (H:Hp) (D:Ends),Inv X pins σ H s->t D σ H->wpAny (model X.prog X.w) X.A (exec st X.env) (SP X pins D) X.xe s
def PSs(X:Cx)(st:Wp wV)(t:TS):Prop:=
 ∀(pins:Wp (vy×Obj)) (s:vw) (σ:St) (H:Hp) (D:Ends),Inv X pins σ H s->t D σ H->wpAny (model X.prog X.w) X.A (execs st X.env) (SP X pins D) X.xe s
def thn{t:Sem α}{Q Q':α->vw->Prop}(h:wpAny M A t Q E s)(hQ:∀a s,Q a s->Q' a s):wpAny M A t Q' E s:=yu h hQ λ_ _ x=>x
end L2
namespace L2
open PySem PySem.Spec PyProof.Rows
section
variable{X:Cx}
noncomputable def uj(i:Nat):TE:=λσ H Q=>∃v,σ[i]?=Gc (Gc v)/\Q v H
noncomputable def tC(v:V):TE:=λ_ H Q=>Q v H
def YC{pos:Pos}(hN:X.N[i]?=Gc x)(hv:Vis X.env.scope x)(hd:xz ((x==("__debug__":Str))=false) ww)(hcd:xz ((x==("__classdict__":Str))=false) ww):PE X (.Name x pos) (uj i):=by
 intro pins s σ H Q I h
 obtain⟨v,e,h⟩:=h
 obtain⟨m,hn,hl⟩:=I.loc
 obtain⟨u,r,l⟩:=hl i x v hN e hv
 have fin:EP X pins σ Q u s:=⟨v,H,I,r,h⟩
 rcases l with⟨hk,hm⟩|⟨hk,c,hc,hcell⟩
 .exact wpAny_Name (wpAny_loadName_local I.ok.kind hk hn hm fin) hd
 .rcases hk with hk|hk
  .exact wpAny_Name (wpAny_loadName_cell I.ok.kind hk hc hcell fin) hd
  .exact wpAny_Name (wpAny_loadName_free I.ok.kind hk hc hcell fin hcd) hd
def jU{i j pos}:PE X (.Constant (.int i) j pos) (tC (.int i)):=λ_ _ _ H _ I h=>wpAny_Constant_int ⟨.int i,H,I.tok _,⟨_,rfl⟩,h⟩
def pX{b j pos}:PE X (.Constant (.bool b) j pos) (tC (.bl b)):=λ_ _ _ H _ I h=>Constant_bool ⟨.bl b,H,I,rfl,h⟩
def lX{j pos}:PE X (.Constant .none j pos) (tC .non):=λ_ _ _ H _ I h=>Constant_none ⟨.non,H,I,rfl,h⟩
def cH{x j pos}:PE X (.Constant (.str x) j pos) (tC (.str x)):=λ_ _ _ H _ I h=>Calls.Constant_str ⟨.str x,H,I.tok _,⟨_,rfl⟩,h⟩
def Gl(X:Cx)(x:Str):Prop:=X.env.kindOf x=Gc .globalImplicit
def Pb{s:vw}{σ:St}(I:Inv X pins σ H s)(hg:Gl X x)(hm:X.mg x=Gc u)(h:Q u s)(hd:xz ((x==("__debug__":Str))=false) ww):wpAny (model X.prog X.w) X.A (eval (.Name x pos) X.env) Q E s:=
 zx I.ok.kind hg (AB4 (by rw[I.ok.glob];exact I.mod.glob.keeps I.bk) hm h) hd
def Ow{E:vm->vw->Prop}{σ:St}{u:vm}{pos:Pos}(I:Inv X pins σ H s)(hg:Gl X x)(hm:X.mg x=none)(hv:bootBuiltins x=Gc u)(h:Q u s)(hn:xz (x≠ "__name__") ww)(hd:xz ((x==("__debug__":Str))=false) ww):wpAny (model X.prog X.w) X.A (eval (.Name x pos) X.env) Q E s:=by
 obtain⟨mb,h1,h2⟩:=I.mod.blt
 exact zx I.ok.kind hg (Calls.loadGlobal_builtin (by rw[I.ok.glob];exact I.mod.glob.keeps I.bk) hm (by rw[I.ok.blt];exact h1.keeps I.bk) ((h2 x hn).trans hv) h) hd
def P6{pos:Pos}(hg:Gl X x)(hm:X.mg x=Gc u)(r:RelV v u)(hd:xz ((x==("__debug__":Str))=false) ww):PE X (.Name x pos) (tC v):=
 λ_ _ _ H _ I h=>Pb I hg hm ⟨v,H,I,r,h⟩ hd
def du{pos:Pos}(hg:Gl X x)(hm:X.mg x=none)(hv:bootBuiltins x=Gc u)(r:RelV v u)(hn:xz (x≠ "__name__") ww)(hd:xz ((x==("__debug__":Str))=false) ww):PE X (.Name x pos) (tC v):=
 λ_ _ _ H _ I h=>Ow I hg hm hv ⟨v,H,I,r,h⟩ hn hd
variable{a b:xM}{ta tb:TE}{pos:Pos}
noncomputable def tB(t:TE):TT:=λσ H Q=>t σ H λx H1=>∃c,x=.bl c/\Q c H1
def lu{e:xM}{t:TE}(h:PE X e t)(he:xz (∀whole,isTrue e X.env whole=(do let v<-whole;standAt e.pos;holding [v] (truthy v))) wv):PT X e (tB t):=by
 intro pins s σ H Q I hw
 refine isTrue_plain (thn (h pins s σ H _ I hw) λv s1 z=>?_) (he _)
 obtain⟨x,H1,I1,r1,q1⟩:=z
 obtain⟨d,rfl,q⟩:=q1
 cases r1
 exact yM ⟨H1,I1,q⟩
variable{tA tB':TT}{rest:Wp xM}
noncomputable def vA(t u:TT):TT:=λσ H Q=>t σ H λc H1=>if c=true then u σ H1 Q else Q false H1
noncomputable def tOr(t u:TT):TT:=λσ H Q=>t σ H λc H1=>if c=true then Q true H1 else u σ H1 Q
noncomputable def vG(t:TT):TT:=λσ H Q=>t σ H λc H1=>Q (!c) H1
def eQ(ha:PT X a tA):PW X (.BoolOp .And [a] pos) tA:=by
 intro wh pins s σ H Q I h
 refine isTrue_and (thn (ha pins s σ H Q I h) λc s1 e=>?_)
 cases c with
 |true=>exact isTrue_and_nil e
 |false=>exact e
def k7(ha:PT X a tA):PW X (.BoolOp .Or [a] pos) tA:=by
 intro wh pins s σ H Q I h
 refine isTrue_or (thn (ha pins s σ H Q I h) λc s1 e=>?_)
 cases c with
 |false=>exact isTrue_or_nil e
 |true=>exact e
def j5(ha:PT X a tA)(hb:PW X (.BoolOp .And (b::rest) pos) tB'):PW X (.BoolOp .And (a::b::rest) pos) (vA tA tB'):=by
 intro wh pins s σ H Q I h
 refine isTrue_and (thn (ha pins s σ H _ I h) λc s1 ⟨H1,I1,q1⟩=>?_)
 cases c with
 |true=>exact hb wh pins s1 σ H1 Q I1 q1
 |false=>exact⟨H1,I1,q1⟩
def rD(ha:PT X a tA)(hb:PW X (.BoolOp .Or (b::rest) pos) tB'):PW X (.BoolOp .Or (a::b::rest) pos) (tOr tA tB'):=by
 intro wh pins s σ H Q I h
 refine isTrue_or (thn (ha pins s σ H _ I h) λc s1 ⟨H1,I1,q1⟩=>?_)
 cases c with
 |true=>exact⟨H1,I1,q1⟩
 |false=>exact hb wh pins s1 σ H1 Q I1 q1
def jC(ha:PT X a tA):PT X (.UnaryOp .Not a pos) (vG tA):=by
 intro pins s σ H Q I h
 exact isTrue_not (ha pins s σ H (λc H1=>Q (!c) H1) I h)
noncomputable def qo(ta tb:TE):TE:=λσ H Q=>ta σ H λx H1=>∃c,x=.bl c/\if c=true then tb σ H1 Q else Q (.bl false) H1
noncomputable def tK(ta tb:TE):TE:=λσ H Q=>ta σ H λx H1=>∃c,x=.bl c/\if c=true then Q (.bl true) H1 else tb σ H1 Q
noncomputable def qW(ta:TE):TE:=λσ H Q=>ta σ H λx H1=>∃c,x=.bl c/\Q (.bl (!c)) H1
def kE{op}{t:TE}(h:PE X a t):PE X (.BoolOp op [a] pos) t:=λpins s σ H Q I hw=>BoolOp_one (h pins s σ H Q I hw)
def jh(ha:PE X a ta)(hb:PE X (.BoolOp .And (b::rest) pos) tb):PE X (.BoolOp .And (a::b::rest) pos) (qo ta tb):=by
 intro pins s σ H Q I h
 refine BoolOp_and (thn (ha pins s σ H _ I h) λv s1 z=>?_)
 obtain⟨x,H1,I1,r1,q1⟩:=z
 obtain⟨c,rfl,q1⟩:=q1
 cases r1
 refine yM ?_
 cases c with
 |true=>exact hb pins s1 σ H1 Q I1 q1
 |false=>exact⟨.bl false,H1,I1,rfl,q1⟩
def pY(ha:PE X a ta)(hb:PE X (.BoolOp .Or (b::rest) pos) tb):PE X (.BoolOp .Or (a::b::rest) pos) (tK ta tb):=by
 intro pins s σ H Q I h
 refine BoolOp_or (thn (ha pins s σ H _ I h) λv s1 z=>?_)
 obtain⟨x,H1,I1,r1,q1⟩:=z
 obtain⟨c,rfl,q1⟩:=q1
 cases r1
 refine yM ?_
 cases c with
 |false=>exact hb pins s1 σ H1 Q I1 q1
 |true=>exact⟨.bl true,H1,I1,rfl,q1⟩
def mJ(ha:PE X a ta):PE X (.UnaryOp .Not a pos) (qW ta):=by
 intro pins s σ H Q I h
 refine UnaryOp_ (thn (ha pins s σ H _ I h) λv s1 z=>?_)
 obtain⟨x,H1,I1,r1,q1⟩:=z
 obtain⟨c,rfl,q1⟩:=q1
 cases r1
 exact not_of (yM ⟨.bl (!c),H1,I1,rfl,q1⟩)
noncomputable def tIf(t:TT)(ta tb:TE):TE:=λσ H Q=>t σ H λc H1=>if c=true then ta σ H1 Q else tb σ H1 Q
def bD{c:xM}(hc:PT X c tA)(ha:PE X a ta)(hb:PE X b tb):PE X (.IfExp c a b pos) (tIf tA ta tb):=by
 intro pins s σ H Q I h
 refine wpAny_IfExp (thn (hc pins s σ H _ I h) λd s1 ⟨H1,I1,q1⟩=>?_)
 cases d with
 |true=>exact ha pins s1 σ H1 Q I1 q1
 |false=>exact hb pins s1 σ H1 Q I1 q1
end
end L2
namespace L2
open PySem PySem.Spec PyProof.Rows
def SqL(K:vZ)(H:Hp)(a:vy)(xs:Wp V):Prop:=
 Rd H a (.lst xs)∨
  ∃(o:Obj) (its:AAn vm) (n:Nat),K.lookup a=Gc o/\o.cls=.type "list" /\o.dict=none/\o.data=.seq its n/\its.size<=sizeLine/\Vals xs its.toList
def SqT(K:vZ)(H:Hp)(a:vy)(xs:Wp V):Prop:=
 Rd H a (.tup xs)∨
  ∃(o:Obj) (its:AAn vm) (n:Nat),K.lookup a=Gc o/\o.cls=.type "tuple" /\o.data=.seq its n/\its.size<=sizeLine/\Vals xs its.toList
noncomputable def uK:vm->vi V
 | .none=>Gc .non
 | .bool b=>Gc (.bl b)
 | .int i _=>Gc (.int i)
 | .str x _=>Gc (.str x)
 | .bytes b _=>Gc (.byt b)
 | .float b _=>Gc (.flt b)
 | .ref a=>Gc (.ref a)
 | .type n=>Gc (.ty n)
 |_=>none
def RelV.abs{x:V}{u:vm}(r:RelV x u):uK u=Gc x:=by
 cases x with
 |non=>cases r;rfl
 |bl _=>cases r;rfl
 |int _=>obtain⟨t,rfl⟩:=r;rfl
 |str _=>obtain⟨t,rfl⟩:=r;rfl
 |byt _=>obtain⟨t,rfl⟩:=r;rfl
 |flt _=>obtain⟨t,rfl⟩:=r;rfl
 |ref _=>cases r;rfl
 |ty _=>cases r;rfl
def RelV.inj{x y:V}{u:vm}(r:RelV x u)(q:RelV y u):x=y:=yI (r.abs.symm.trans q.abs)
theorem Vals.inj:∀{xs ys:Wp V} {us:Wp vm},Vals xs us->Vals ys us->xs=ys
 |_,_,_,.nil,.nil=>rfl
 |_,_,_,.cons r t,.cons r' t'=>by rw[r.inj r',Vals.inj t t']
section
variable{X:Cx}{pins:Wp (vy×Obj)}{σ:St}{H:Hp}{s:vw}{a:vy}{xs ys:Wp V}
def SqL.of{K:vZ}(h:H a=Gc (.lst xs)):SqL K H a xs:=.inl (.inl h)
def SqT.of{K:vZ}(h:H a=Gc (.tup xs)):SqT K H a xs:=.inl (.inl h)
def Inv.list(I:Inv X pins σ H s)(h:SqL X.K H a xs):∃its:Wp vm,Vals xs its/\PlainL s.heap a its.toArray/\xs.length<=sizeLine:=by
 rcases h with h|⟨o,its,n,hk,hc,hd,hs,hz,r⟩
 .obtain⟨z,its,n,r,e⟩:=h.ok I.hok
  exact⟨its,r,⟨_,n,e,rfl,rfl,rfl⟩,z⟩
 .refine⟨its.toList,r,⟨o,n,I.kIn a o hk,hc,hd,by simpa using hs⟩,?_⟩
  have e:=r.length
  simp only[zO]at e
  lia
def Inv.tuple(I:Inv X pins σ H s)(h:SqT X.K H a xs):∃its:Wp vm,Vals xs its/\IsTup s.heap a its.toArray/\xs.length<=sizeLine:=by
 rcases h with h|⟨o,its,n,hk,hc,hs,hz,r⟩
 .obtain⟨z,its,r,p⟩:=h.ok I.hok
  exact⟨its,r,p,z⟩
 .refine⟨its.toList,r,⟨o,I.kIn a o hk,hc,n,by simpa using hs⟩,?_⟩
  have e:=r.length
  simp only[zO]at e
  lia
def Inv.Uj(I:Inv X pins σ H s)(h:SqL X.K H a xs)(h':SqL X.K H a ys):xs=ys:=by
 obtain⟨its,r,⟨o,n,e,_,_,d⟩,_⟩:=I.list h
 obtain⟨its',r',⟨o',n',e',_,_,d'⟩,_⟩:=I.list h'
 rw[e]at e';cases e'
 rw[d]at d'
 injection d' with d1 _
 have:its=its':=by simpa using congrArg Array.toList d1
 subst this
 exact r.inj r'
def Inv.SA(I:Inv X pins σ H s)(h:SqT X.K H a xs)(h':SqT X.K H a ys):xs=ys:=by
 obtain⟨its,r,⟨o,e,_,n,d⟩,_⟩:=I.tuple h
 obtain⟨its',r',⟨o',e',_,n',d'⟩,_⟩:=I.tuple h'
 rw[e]at e';cases e'
 rw[d]at d'
 injection d' with d1 _
 have:its=its':=by simpa using congrArg Array.toList d1
 subst this
 exact r.inj r'
end
abbrev Cx.WW(X:Cx)(E:vm->vw->Prop):Cx:={X with xe:=E}
abbrev Cx.nox(X:Cx):Cx:=X.WW λ_ _=>yV
def Cx.Ok.WW{X:Cx}(ok:X.Ok)(E:vm->vw->Prop):(X.WW E).Ok:=
 ⟨ok.mod,ok.kind,ok.glob,ok.blt,ok.above,ok.inj,ok.has,ok.cab,ok.hd,ok.frames,ok.stk,ok.exf,ok.bs,ok.bsz,ok.cT,ok.eX,ok.VO,ok.frf⟩
def Cx.Ok.L5{X:Cx}{E:vm->vw->Prop}(ok:(X.WW E).Ok):X.Ok:=
 ⟨ok.mod,ok.kind,ok.glob,ok.blt,ok.above,ok.inj,ok.has,ok.cab,ok.hd,ok.frames,ok.stk,ok.exf,ok.bs,ok.bsz,ok.cT,ok.eX,ok.VO,ok.frf⟩
section
variable{X:Cx}{pins:Wp (vy×Obj)}{σ:St}{H:Hp}{s:vw}{E:vm->vw->Prop}
def Inv.WW(I:Inv X pins σ H s)(E:vm->vw->Prop):Inv (X.WW E) pins σ H s:=⟨I.ok.WW E,I.os,I.bare,I.base,I.loc,I.cell,I.free,I.Lv,I.pin,I.hok,I.len⟩
def Inv.L5(I:Inv (X.WW E) pins σ H s):Inv X pins σ H s:=⟨I.ok.L5,I.os,I.bare,I.base,I.loc,I.cell,I.free,I.Lv,I.pin,I.hok,I.len⟩
def SP.L5{s':vw}(h:SP (X.WW E) pins D f s'):SP X pins D f s':=by
 cases f with
 |next=>obtain⟨σ',H',I,q⟩:=h;exact⟨σ',H',I.L5,q⟩
 |brk=>obtain⟨σ',H',I,q⟩:=h;exact⟨σ',H',I.L5,q⟩
 |cont=>obtain⟨σ',H',I,q⟩:=h;exact⟨σ',H',I.L5,q⟩
 |ret u=>obtain⟨v,σ',H',I,r,q⟩:=h;exact⟨v,σ',H',I.L5,r,q⟩
def PSs.nox{st:Wp wV}{t:TS}(h:PSs X.nox st t):PSs X st t:=λpins s σ H D I hw=>
 yu (h pins s σ H D (I.WW _) hw) (λ_ _ q=>q.L5) λ_ _ z=>yk z
end
section
variable{X:Cx}{st:wV}{rest:Wp wV}{t u:TS}{e:xM}{te:TE}{pos:Pos}
noncomputable def oX:TS:=λD σ H=>D.nx σ H
noncomputable def um(t u:TS):TS:=λD σ H=>t {D with nx:=u D} σ H
def fF:PSs X [] oX:=λ_ _ σ H _ I h=>AAR ⟨σ,H,I,h⟩
def Tw(h1:PS X st t)(h2:PSs X rest u):PSs X (st::rest) (um t u):=by
 intro pins s σ H D I h
 refine AAD (thn (h1 pins s σ H {D with nx:=u D} I h) λf s1 q=>?_)
 cases f with
 |next=>
  obtain⟨σ',H',I',q⟩:=q
  exact h2 pins s1 σ' H' D I' q
 |ret v=>exact q
 |brk=>exact q
 |cont=>exact q
def Wn(h1:PS X st t):PSs X [st] t:=by
 intro pins s σ H D I h
 refine AAD (thn (h1 pins s σ H D I h) λf s1 q=>?_)
 cases f with
 |next=>exact AAR q
 |ret v=>exact q
 |brk=>exact q
 |cont=>exact q
def Inv.quiet{pins:Wp (vy×Obj)}{σ:St}{s:vw}(I:Inv X pins σ H s):interactive X.env=false:=by simp[interactive,I.ok.kind]
noncomputable def qE(te:TE):TS:=λD σ H=>te σ H λ_ H1=>D.nx σ H1
def fg(he:PE X e te)(hs:xz (swapsWith e none pos.line X.env=pure false) wp):PS X (.Expr e pos) (qE te):=by
 intro pins s σ H D I h
 exact wpAny_Expr_any (thn (he pins s σ H _ I h) λv s1 ⟨x,H1,I1,r1,q1⟩=>⟨σ,H1,I1,q1⟩) I.quiet hs
noncomputable def ue(te:TE):TS:=λD σ H=>te σ H D.rt
def b0(he:PE X e te):PS X (.Return (Gc e) pos) (ue te):=by
 intro pins s σ H D I h
 exact wpAny_Return_some (thn (he pins s σ H _ I h) λv s1 ⟨x,H1,I1,r1,q1⟩=>⟨x,σ,H1,I1,r1,q1⟩)
noncomputable def tU(c:TT)(t u:TS):TS:=λD σ H=>c σ H λb H1=>if b=true then t D σ H1 else u D σ H1
def qX{tc:TT}(hc:PT X c tc)(ha:PSs X a t)(hb:PSs X b u):PS X (.If c a b pos) (tU tc t u):=by
 intro pins s σ H D I h
 refine wpAny_If (thn (hc pins s σ H _ I h) λd s1 ⟨H1,I1,q1⟩=>?_)
 cases d with
 |true=>exact ha pins s1 σ H1 D I1 q1
 |false=>exact hb pins s1 σ H1 D I1 q1
end
abbrev TG:=V->St->Hp->(St->Hp->Prop)->Prop
abbrev TGs:=Wp V->St->Hp->(St->Hp->Prop)->Prop
def PG(X:Cx)(target:xM)(t:TG):Prop:=
 ∀(pins:Wp (vy×Obj)) (s:vw) (σ:St) (H:Hp) (v:V) (u:vm) (Q:St->Hp->Prop),Inv X pins σ H s->RelV v u->t v σ H Q->
  wpAny (model X.prog X.w) X.A (assign target X.env u) (λ_ s'=>∃σ' H',Inv X pins σ' H' s'/\Q σ' H') X.xe s
def PGs(X:Cx)(ts:Wp xM)(t:TGs):Prop:=
 ∀(pins:Wp (vy×Obj)) (s:vw) (σ:St) (H:Hp) (vs:Wp V) (us:Wp vm) (Q:St->Hp->Prop),Inv X pins σ H s->Vals vs us->t vs σ H Q->
  wpAny (model X.prog X.w) X.A (assignInOrder ((assignEach ts X.env).map (·.2)) us) (λ_ s'=>∃σ' H',Inv X pins σ' H' s'/\Q σ' H') X.xe s
abbrev qx:=V->V->V->Hp->(Hp->Prop)->Prop
def sT(X:Cx)(t:qx):Prop:=
 ∀(pins:Wp (vy×Obj)) (s:vw) (σ:St) (H:Hp) (o i v:V) (ov iv u:vm) (Q:Hp->Prop),Inv X pins σ H s->RelV o ov->RelV i iv->RelV v u->t o i v H Q->
  wpAny (model X.prog X.w) X.A (setItem ov iv u) (λ_ s'=>∃H',Inv X pins σ H' s'/\Q H') X.xe s
section
variable{X:Cx}{pos:Pos}
noncomputable def fK(i:Nat):TG:=λv σ H Q=>Q (σ.set i (Gc v)) H
def TC{i:Nat}{x:Str}(hN:X.N.Nodup)(hi:X.N[i]?=Gc x)(hx:Loc X.env.scope x)(hf:xz (X.fn x=true\/X.env.scope.names.lookup x=Gc .local) xL):PG X (.Name x pos) (fK i):=by
 intro pins s σ H v u Q I r h
 exact wpAny_assign_Name (Mt I hN hi hx r (λs' I'=>⟨_,H,I',h⟩) hf)
noncomputable def sO:TGs:=λvs σ H Q=>vs=[]/\Q σ H
noncomputable def kv(t:TG)(u:TGs):TGs:=λvs σ H Q=>∃v r,vs=v::r/\t v σ H λσ' H'=>u r σ' H' Q
def fA:PGs X [] sO:=by
 intro pins s σ H vs us Q I r h
 obtain⟨e,h⟩:=h
 subst e
 cases r
 exact ABn ⟨σ,H,I,h⟩
def ZS{u:TGs}(h1:PG X e t)(h2:PGs X es u)(hs:xz ((assignEach (e::es) X.env).map (·.2)=assign e X.env::(assignEach es X.env).map (·.2)) wp):PGs X (e::es) (kv t u):=by
 intro pins s σ H vs us Q I r h
 obtain⟨v,vr,e1,h⟩:=h
 subst e1
 cases r with
 |cons r rr=>
  rw[hs]
  refine zX (thn (h1 pins s σ H _ _ _ I r h) λ_ s1 z=>?_)
  obtain⟨σ1,H1,I1,q1⟩:=z
  exact h2 pins s1 σ1 H1 _ _ Q I1 rr q1
noncomputable def uz(K:vZ)(n:Nat)(t:TGs):TG:=λv σ H Q=>∃a xs,v=.ref a/\SqT K H a xs/\xs.length=n/\t xs σ H Q
def kC{es:Wp xM}{k:Nat}{n:Nat}(hc:X.calm=true)(h:PGs X es t)(hn:xz ((assignEach es X.env).length=n) wp)(hst:xz ((assignEach es X.env).findIdx? (·.1)=none) wp):PG X (.Tuple es k pos) (uz X.K n t):=by
 intro pins s σ H v u Q I r hw
 obtain⟨a,xs,e1,hq,hl,hw⟩:=hw
 subst e1
 cases r
 obtain⟨its,rv,ht,hz⟩:=I.tuple hq
 refine assign_Tuple_tuple (I.ok.hd hc) ht (by simp[hn,<-hl,rv.length]) hst λh' hx=>?_
 have I1:Inv X pins σ H {s with heap:=h'}:=I.kept (t':=s.toks) λb o e=>hx b o (wZ (vz e)) e
 exact h pins _ σ H xs _ Q I1 (by simpa using rv) hw
noncomputable def t8(to ti:TE)(t:qx):TG:=λv σ H Q=>to σ H λo H1=>ti σ H1 λi H2=>t o i v H2 λH3=>Q σ H3
def lG {t:qx}(ho:PE X o to)(hi:PE X i ti)(hs:sT X t)(ha:xz (∀v,assign (.Subscript o i pos) X.env v=(do
      let ov ← holding [v] (eval o X.env)
      let iv ← holding [v, ov] (eval i X.env)
      standAt pos
      holding [v, ov, iv] (setItem ov iv v)
      release [v, ov, iv] [])) wn) : PG X (.Subscript o i pos) (t8 to ti t) := by
  intro pins s σ H v u Q I r h
  rw [ha]
  refine vb (xW (thn (ho pins s σ H _ I h) fun ov s1 ⟨x, H1, I1, r1, q1⟩ => ?_))
  refine vb (xW (thn (hi pins s1 σ H1 _ I1 q1) fun iv s2 ⟨y, H2, I2, r2, q2⟩ => ?_))
  refine vb (zk (vb (xW (thn (hs pins s2 σ H2 x y v ov iv u _ I2 r1 r2 r q2) fun _ s3 ⟨H3, I3, q3⟩ => ?_))))
  exact wpAny_release ⟨σ, H3, I3, q3⟩
noncomputable def pJ(te:TE)(g:TG):TS:=λD σ H=>te σ H λx H1=>g x σ H1 D.nx
def X9{g:TG}(he:PE X e te)(hg:PG X tg g)(hs:xz (swapsWithSole [tg] e pos.line X.env=pure false) wp)(hw:xz (swappedStores [tg] e X.env=pure none) wp)(h1:xz ((assignEach [tg] X.env).map (·.2)=[assign tg X.env]) wp):PS X (.Assign [tg] e pos) (pJ te g):=by
 intro pins s σ H D I h
 refine wpAny_Assign_stores (thn (he pins s σ H _ I h) λv s1 z=>?_) hs hw
 obtain⟨x,H1,I1,r1,q1⟩:=z
 rw[h1]
 exact thn (hg pins s1 σ H1 x v _ I1 r1 q1) λ_ s2 q=>q
def dC(hN:X.N.Nodup)(hi:X.N[i]?=Gc x)(hx:Loc X.env.scope x)(he:PE X e te)(hs:xz (swapsWith e (Gc (.Name x pos')) pos.line X.env=pure false) wp)(hf:xz (X.fn x=true\/X.env.scope.names.lookup x=Gc .local) xL):PS X (.Assign [.Name x pos'] e pos) (pJ te (fK i)):=by
 intro pins s σ H D I h
 refine wpAny_Assign_Name (thn (he pins s σ H _ I h) λv s1 z=>?_) hs
 obtain⟨y,H1,I1,r1,q1⟩:=z
 exact Mt I1 hN hi hx r1 (λs2 I2=>⟨_,H1,I2,q1⟩) hf
noncomputable def uN(i j:Nat)(ta:TA):TS:=λD σ H=>ta σ H λvs H1=>∃v w,vs=[v,w]/\D.nx ((σ.set i (Gc v)).set j (Gc w)) H1
def jF{kt k2 pt2}(hc:X.calm=true)(hN:X.N.Nodup)(hi:X.N[i]?=Gc x)(hj:X.N[j]?=Gc y)(hij:i≠j)(hx:X.env.scope.names.lookup x=Gc .local)(hy:X.env.scope.names.lookup y=Gc .local)(ha:PA X [a,b] ta)(hw:swappedStores [.Tuple [.Name x px,.Name y py] kt pt] (.Tuple [a,b] k2 pt2) X.env=pure (Gc [x,y]))(hs:xz (swapsWithSole [.Tuple [.Name x px,.Name y py] kt pt] (.Tuple [a,b] k2 pt2) pos.line X.env=pure false) wp):PS X (.Assign [.Tuple [.Name x px,.Name y py] kt pt] (.Tuple [a,b] k2 pt2) pos) (uN i j ta):=by
 intro pins s σ H D I h
 rw[exec_Assign_arm]
 refine vb (zk ?_)
 rw[hs]
 refine vb (v9 ?_)
 rw[wy (by decide)]
 refine vb (Tuple_ (thn (ha _ pins s σ H _ I h) λus s1 z=>?_))
 obtain⟨vs,H1,I1,r1,q1⟩:=z
 obtain⟨v,w,e1,q1⟩:=q1
 subst e1
 obtain⟨u1,u2,rfl,rv,rw'⟩:∃u1 u2,us=[u1,u2]/\RelV v u1/\RelV w u2:=by
  cases r1 with
  |cons p q=>
   cases q with
   |cons p' q'=>
    cases q'
    exact⟨_,_,rfl,p,p'⟩
 refine yi ?_ (by show 2<=sizeLine;decide)
 have I2:Inv X pins σ H1 {s1 with heap:=s1.heap.push {cls:=.type "tuple",data:=.seq [u1,u2].toArray}}:=I1.kept (t':=s1.toks) λb o e=>vc _ e
 rw[hw]
 refine vb (v9 ?_)
 show wpAny (model X.prog X.w) X.A (do rule "assign.swapped-stores"; let items<-unpackItems (.ref s1.heap.objs.size) 2 none;assignInOrder [λv=>bindName X.env y v,λv=>bindName X.env x v] items.reverse;pure Flow.next) _ _ _
 refine vb (ACG (vb (unpackItems_tuple (items:= #[u1,u2]) (I.ok.hd hc) (zU s1.heap _) λh' hx'=>?_)))
 have I3:=I2.kept (h':=h') (t':=s1.toks) λb o e=>hx' b o (wZ (vz e)) e
 show wpAny _ _ (assignInOrder [λv=>bindName X.env y v,λv=>bindName X.env x v] [u2,u1] >>= λ_=>pure Flow.next) _ _ _
 refine vb (zX (wpAny_bindName (Mt I3 hN hj (.inl hy) rw' (λs2 I4=>?_) (.inr hy))))
 refine zX (wpAny_bindName (Mt I4 hN hi (.inl hx) rv (λs3 I5=>ABn (v9 ?_)) (.inr hx)))
 rw[List.set_comm _ _ (xv hij)]at I5
 exact⟨_,H1,I5,q1⟩
end
section
variable{X:Cx}{pos:Pos}
noncomputable def lK(c:TT)(tb:TS):TS:=λD σ H=>∃W:Nat->St->Hp->Prop,(∃m,W m σ H)/\∀m σ H,W m σ H->
 c σ H λb H1=>if b=true then∃N:St->Hp->Prop,(∀σ' H',N σ' H'->∃m',m'<m/\W m' σ' H')/\tb {D with nx:=N,ct:=N,bk:=D.nx} σ H1 else D.nx σ H1
def ba{tb:TS}(hp:PassesOwn (model X.prog X.w) X.A X.env X.xe)(hc:PT X c tc)(hb:PSs X body tb):PS X (.While c body [] pos) (lK tc tb):=by
 intro pins s σ H D I h
 obtain⟨W,⟨m0,w0⟩,turn⟩:=h
 refine wpAny_While (codeAny_whileLoop (λn s'=>∃σ' H',Inv X pins σ' H' s'/\W n σ' H') ?_ m0 ⟨σ,H,I,w0⟩)
 rintro n s1 ⟨σ1,H1,I1,w1⟩
 refine zB hp (thn (hc pins s1 σ1 H1 _ I1 (turn n σ1 H1 w1)) λb s2 ⟨H2,I2,q2⟩=>?_)
 cases b with
 |true=>
  obtain⟨N,hN,q2⟩:=q2
  rw[wU rfl]
  refine zB hp (thn (hb pins s2 σ1 H2 _ I2 q2) λf s3 q3=>?_)
  cases f with
  |next=>
   obtain⟨σ3,H3,I3,n3⟩:=q3
   obtain⟨m',hm,w3⟩:=hN σ3 H3 n3
   exact⟨m',hm,σ3,H3,I3,w3⟩
  |cont=>
   obtain⟨σ3,H3,I3,n3⟩:=q3
   obtain⟨m',hm,w3⟩:=hN σ3 H3 n3
   exact⟨m',hm,σ3,H3,I3,w3⟩
  |brk=>exact q3
  |ret v=>exact q3
 |false=>
  rw[wy wu]
  exact AAR ⟨σ1,H2,I2,q2⟩
end
structure It where
 go:Nat->Hp->Prop
 yld:Nat->Hp->V->Hp->Prop
 stop:Nat->Hp->Prop
def SW(X:Cx)(pins:Wp (vy×Obj))(H:Hp)(b:vy):Prop:=
 H b=none/\b≠X.env.locals/\b∉X.fs/\(b∈X.ex\/X.s₀.heap.objs.size<=b)/\(∀x c,X.env.cells.lookup x=Gc c->c≠b)/\∀p∈X.pn++pins,p.1≠b
def Inv.gM{pins:Wp (vy×Obj)}{σ:St}{b:vy}(I:Inv X pins σ H s)(hb:s.heap.objs.size<=b)(hn:H' b=none):SW X pins H' b:=by
 refine⟨hn,ABG (vd I.lt hb),I.vE hb,.inr (va I.sz hb),λx c e z=>?_,λp hp z=>?_⟩
 .obtain⟨v,q⟩:=I.cell x c e
  exact absurd (vd q.lt (by rw[z];exact hb)) (yD _)
 .exact absurd (vd (vz (I.pin p hp).1) (by rw[z];exact hb)) (yD _)
structure Turn(P:xK)(w:xy)(K:vZ)(tg:xM)(J:It)(fp:Wp vy)(it:vy)(tn:Nat->xZ->Prop):Prop where
 mem:it∈fp
 obj:∀i h,tn i h->∀b∈fp,∃o,h.get? b=Gc o/\∀v,o.data≠.cell v
 keep:∀i h h',tn i h->(∀b∈fp,∀o,h.get? b=Gc o->h'.get? b=Gc o)->tn i h'
 item:∀(X:Cx),X.prog=P->X.w=w->X.K=K->X.calm=true->∀(i:Nat) (pins:Wp (vy×Obj)) (s:vw) (σ:St) (H:Hp) (E:vm->vw->Prop),Inv X pins σ H s->(∀b∈fp,SW X pins H b)->tn i s.heap->J.go i H->
  wpAny (model P w) X.A (pyNext (.ref it)) (λr s1=>∃u,r=Gc u/\
   wpAny (model P w) X.A (letOwnedTupleGo tg (.ref it) u) (λ_ s2=>∃x H',Inv X pins σ H' s2/\RelV x u/\J.yld i H x H'/\tn (i+1) s2.heap/\∀b∈fp,H' b=none) E s1) E s
 done:∀(X:Cx),X.prog=P->X.w=w->X.K=K->X.calm=true->∀(i:Nat) (pins:Wp (vy×Obj)) (s:vw) (σ:St) (H:Hp) (E:vm->vw->Prop),Inv X pins σ H s->(∀b∈fp,SW X pins H b)->tn i s.heap->J.stop i H->
  wpAny (model P w) X.A (pyNext (.ref it)) (λr s1=>r=none/\Inv X pins σ H s1) E s
 self:∀(A:yt) (i:Nat) (s:vw) (Q:vm->vw->Prop) (E:vm->vw->Prop),tn i s.heap->Q (.ref it) s->wpAny (model P w) A (pyIter (.ref it)) Q E s
abbrev TI:=St->Hp->(It->Hp->Prop)->Prop
def PIE(X:Cx)(pins:Wp (vy×Obj))(σ:St)(tg:xM)(R:It->Hp->Prop)(itv:vm)(s2:vw):Prop:=
 ∃(it:vy) (fp:Wp vy) (tn:Nat->xZ->Prop) (J:It) (H':Hp),itv=.ref it/\Inv X pins σ H' s2/\Turn X.prog X.w X.K tg J fp it tn/\tn 0 s2.heap/\(∀b∈fp,SW X pins H' b)/\R J H'
def PI(X:Cx)(tg iter:xM)(wi:TI):Prop:=
 ∀(pins:Wp (vy×Obj)) (s:vw) (σ:St) (H:Hp) (R:It->Hp->Prop),Inv X pins σ H s->wi σ H R->
  wpAny (model X.prog X.w) X.A (eval iter X.env) (λv s1=>wpAny (model X.prog X.w) X.A (pyIter v) (PIE X pins σ tg R) X.xe s1) X.xe s
def dj(ho:s.heap.get? it=Gc o)(hc:o.cls=.type n)(hd:o.data=.fields vs)(hn:["enumerate","zip","dict_itemiterator","dict_reverseitemiterator","odict_iterator","itertools.zip_longest","itertools.pairwise"].contains n=false)(hQ:Q () s):wpAny M A (letOwnedTupleGo tg (.ref it) u) Q E s:=by
 unfold letOwnedTupleGo
 cases tg<;>first
  |exact v9 hQ
  |(cases u<;>first
     |exact v9 hQ
     |(refine vb (wpAny_load ho ?_)
       rw[hc,hd]
       show wpAny M A (if(["enumerate","zip","dict_itemiterator","dict_reverseitemiterator","odict_iterator","itertools.zip_longest","itertools.pairwise"].contains n && vs[0]?==Gc (rawInt _))=true then _ else _) Q E s
       rw[wy (by intro h;rw[hn,Bool.false_and]at h;cases h)]
       exact v9 hQ))
noncomputable def Itl(K:vZ)(a:vy):It:=
 ⟨λi H=>∃xs x,SqL K H a xs/\xs[i]?=Gc x,λi H x H'=>H'=H/\∀xs,SqL K H a xs->xs[i]?=Gc x,λi H=>∃xs,SqL K H a xs/\xs.length<=i⟩
noncomputable def Itt(K:vZ)(a:vy):It:=
 ⟨λi H=>∃xs x,SqT K H a xs/\xs[i]?=Gc x,λi H x H'=>H'=H/\∀xs,SqT K H a xs->xs[i]?=Gc x,λi H=>∃xs,SqT K H a xs/\xs.length<=i⟩
noncomputable def Itr(lo:Int)(n:Nat):It:=⟨λi _=>i<n,λi H x H'=>H'=H/\x=.int (lo+i),λi _=>n<=i⟩
theorem W9{K:vZ}(a it:vy):Turn P w K tg (Itl K a) [it] it (λi h=>h.IsListIter it a i) where
 mem:=by simp
 obj:=λi h st b hb=>by
  have e:b=it:=by simpa using hb
  subst e
  obtain⟨o,e,c,d⟩:=st
  exact⟨o,e,λv z=>by rw[d]at z;cases z⟩
 keep:=λi h h' st k=>st.at λo e=>k it (by simp) o e
 item:=by
  intro X hP hw hK hc i pins s σ H E I hf st hg
  subst hP hw hK
  obtain⟨xs,x,hq,hx⟩:=hg
  obtain⟨its,rv,p,hz⟩:=I.list hq
  obtain⟨u,hu,ru⟩:=rv.get hx
  obtain⟨f0,f1,f2,f3,f4,f5⟩:=hf it (by simp)
  refine zY st p.isList (x:=u) (by simpa using hu) λh' st' sb=>?_
  have I1:Inv X pins σ H {s with heap:=h'}:=I.turned (t':=s.toks) (λb o hb e=>(sb.2 b hb).trans e) f0 f1 f3 f4 f5
  obtain⟨o,e,c,d⟩:=id st'
  exact⟨u,rfl,dj (s:={s with heap:=h'}) e c d (by decide) ⟨x,H,I1,ru,⟨rfl,λys hy=>by rw[I.Uj hy hq];exact hx⟩,st',λb hb=>(hf b hb).1⟩⟩
 done:=by
  intro X hP hw hK hc i pins s σ H E I hf st hg
  subst hP hw hK
  obtain⟨xs,hq,hx⟩:=hg
  obtain⟨its,rv,p,hz⟩:=I.list hq
  obtain⟨f0,f1,f2,f3,f4,f5⟩:=hf it (by simp)
  have hl:=rv.length
  exact AAo (I.ok.hd hc) st p.isList (by simp;lia) λh' eb=>⟨rfl,I.turned (t':=s.toks) (λb o hb e=>eb b o hb e) f0 f1 f3 f4 f5⟩
 self:=λ_ _ _ _ _ st h=>ACl st h
theorem VF{K:vZ}(a it:vy):Turn P w K tg (Itt K a) [it] it (λi h=>h.IsTupleIter it a i) where
 mem:=by simp
 obj:=λi h st b hb=>by
  have e:b=it:=by simpa using hb
  subst e
  obtain⟨o,e,c,d⟩:=st
  exact⟨o,e,λv z=>by rw[d]at z;cases z⟩
 keep:=λi h h' st k=>st.at λo e=>k it (by simp) o e
 item:=by
  intro X hP hw hK hc i pins s σ H E I hf st hg
  subst hP hw hK
  obtain⟨xs,x,hq,hx⟩:=hg
  obtain⟨its,rv,p,hz⟩:=I.tuple hq
  obtain⟨u,hu,ru⟩:=rv.get hx
  obtain⟨f0,f1,f2,f3,f4,f5⟩:=hf it (by simp)
  refine wpAny_pyNext_tuple_item st (show s.heap.IsTuple a its.toArray from p) (x:=u) (by simpa using hu) λh' st' sb=>?_
  have I1:Inv X pins σ H {s with heap:=h'}:=I.turned (t':=s.toks) (λb o hb e=>(sb.2 b hb).trans e) f0 f1 f3 f4 f5
  obtain⟨o,e,c,d⟩:=id st'
  exact⟨u,rfl,dj (s:={s with heap:=h'}) e c d (by decide) ⟨x,H,I1,ru,⟨rfl,λys hy=>by rw[I.SA hy hq];exact hx⟩,st',λb hb=>(hf b hb).1⟩⟩
 done:=by
  intro X hP hw hK hc i pins s σ H E I hf st hg
  subst hP hw hK
  obtain⟨xs,hq,hx⟩:=hg
  obtain⟨its,rv,p,hz⟩:=I.tuple hq
  obtain⟨f0,f1,f2,f3,f4,f5⟩:=hf it (by simp)
  have hl:=rv.length
  exact wpAny_pyNext_tuple_end (I.ok.hd hc) st (show s.heap.IsTuple a its.toArray from p) (by simp;lia) λh' eb=>⟨rfl,I.turned (t':=s.toks) (λb o hb e=>eb b o hb e) f0 f1 f3 f4 f5⟩
 self:=λ_ _ _ _ _ st h=>wpAny_pyIter_tupleiter st h
theorem VU{K:vZ} it lo n:Turn P w K tg (Itr lo n) [it] it (λi h=>IsRangeIter h it (lo+(i:Nat)*1) ((n:Int)-(i:Nat)) 1) where
 mem:=by simp
 obj:=λi h st b hb=>by
  have e:b=it:=by simpa using hb
  subst e
  exact⟨_,st,λv z=>by
   have z':Data.fields _=Data.cell v:=z
   cases z'⟩
 keep:=λi h h' st k=>k it (by simp) _ st
 item:=by
  intro X hP hw hK hc i pins s σ H E I hf st hg
  subst hP hw hK
  obtain⟨f0,f1,f2,f3,f4,f5⟩:=hf it (by simp)
  have W:=Walks.range (prog:=X.prog) (w:=X.w) (I.ok.hd hc) it lo 1 n
  refine W.item i s _ _ hg st λv h' tk hv st' kk=>?_
  obtain⟨t,rfl⟩:=hv
  have I1:Inv X pins σ H {s with heap:=h',toks:=tk}:=I.turned (λb o hb e=>kk b o (by simpa using hb) e) f0 f1 f3 f4 f5
  refine⟨_,rfl,dj (s:={s with heap:=h',toks:=tk}) (n:="range_iterator") st' rfl rfl (by decide) ⟨.int (lo+i),H,I1,⟨t,?_⟩,⟨rfl,rfl⟩,st',λb hb=>(hf b hb).1⟩⟩
  rw[Int.mul_one]
 done:=by
  intro X hP hw hK hc i pins s σ H E I hf st hg
  subst hP hw hK
  obtain⟨f0,f1,f2,f3,f4,f5⟩:=hf it (by simp)
  exact wpAny_pyNext_range_end (I.ok.hd hc) st (by have:n<=i:=hg;lia) λh' eb=>⟨rfl,I.turned (t':=s.toks) (λb o hb e=>eb b o hb e) f0 f1 f3 f4 f5⟩
 self:=λ_ _ _ _ _ st h=>wpAny_pyIter_rangeiter st h
end L2
namespace L2
open PySem PySem.Spec PyProof.Rows
section
variable{X:Cx}{tg:xM}
def Zi{σ:St}{lo hi:Int}(I:Inv X pins σ H s)(h1: -(2^62)<=lo)(h2:lo<2^62)(h3: -(2^62)<=hi)(h4:hi<2^62)(q:R (Itr lo (hi-lo).toNat) H):wpAny (model X.prog X.w) X.A (pyIter (.ref s.heap.objs.size)) (PIE X pins σ tg R) E {s with heap:=s.heap.push {cls:=.type "range",data:=.fields #[.int lo t,.int hi u,.int 1 v]},toks:=tk}:=by
 refine wpAny_pyIter_range (IsRange.new ..) (small_one h1 h2 h3 h4) ?_
 have I1:Inv X pins σ H {s with heap:=s.heap.push {cls:=.type "range",data:=.fields #[.int lo t,.int hi u,.int 1 v]},toks:=tk}:=I.kept λb o e=>vc _ e
 refine⟨(s.heap.push {cls:=.type "range",data:=.fields #[.int lo t,.int hi u,.int 1 v]}).objs.size,[(s.heap.push {cls:=.type "range",data:=.fields #[.int lo t,.int hi u,.int 1 v]}).objs.size],_,_,H,rfl,
  I1.kept (t':=tk) λb o e=>vc _ e,VU _ lo (hi-lo).toNat,?_,λb hb=>?_,q⟩
 .have e1:lo+((0:Nat):Int)*1=lo:=by simp
  have e2:(((hi-lo).toNat:Nat):Int)-((0:Nat):Int)=Builtin.Range.rangeSize lo hi 1:=by rw[rangeSize_one];split<;>lia
  show IsRangeIter _ _ (lo+((0:Nat):Int)*1) ((((hi-lo).toNat:Nat):Int)-((0:Nat):Int)) 1
  rw[e1,e2]
  exact wI _ rfl
 .have e:b=(s.heap.push {cls:=.type "range",data:=.fields #[.int lo t,.int hi u,.int 1 v]}).objs.size:=by simpa using hb
  subst e
  exact I1.gM (vf _) (I1.hok.fresh (vf _))
noncomputable def rE(ta:TA):TI:=λσ H R=>ta σ H λvs H1=>∃j:Int,vs=[.int j]/\ -(2^62)<=j/\j<2^62/\R (Itr 0 j.toNat) H1
def Xb{p pos:Pos}(hg:Gl X "range")(hm:X.mg "range"=none)(ha:PA X [a] ta)(hs:xz (wD [a] X.env=[(false,eval a X.env)]) wp):PI X tg (.Call (.Name "range" p) [a] [] pos) (rE ta):=by
 intro pins s σ H R I h
 refine Call_ (Ow I hg hm boot_range (zo (thn (ha pos pins s σ H _ I h) λus s1 z=>?_) hs rfl))
 obtain⟨vs,H1,I1,r1,q1⟩:=z
 obtain⟨j,e,q1,q2,q⟩:=q1
 subst e
 cases r1 with
 |cons r rr=>
  cases rr
  obtain⟨t,rfl⟩:=r
  exact call_range_1 (Zi I1 (by lia) (by lia) q1 q2 (by simpa using q))
noncomputable def uH(wi:TI)(g:TG)(tb:TS):TS:=λD σ H=>wi σ H λJ H1=>∃W:Nat->Nat->St->Hp->Prop,(∃m,W 0 m σ H1)/\∀i m σ H,W i m σ H->
 (J.stop i H/\D.nx σ H)\/(J.go i H/\∃N:St->Hp->Prop,(∀σ' H',N σ' H'->∃m',m'<m/\W (i+1) m' σ' H')/\∀x H',J.yld i H x H'->g x σ H' λσ2 H2=>tb {D with nx:=N,ct:=N,bk:=D.nx} σ2 H2)
noncomputable def Qj(fp:Wp vy)(h:xZ):Wp (vy×Obj):=fp.filterMap λb=>(h.get? b).map λo=>(b,o)
def JY{o:Obj}(hb:b∈fp)(e:h.get? b=Gc o):(b,o)∈Qj fp h:=ADS.mpr ⟨b,hb,by rw[e];rfl⟩
def Wo{p:vy×Obj}(hp:p∈Qj fp h):p.1∈fp/\h.get? p.1=Gc p.2:=by
 obtain⟨b,hb,e⟩:=ADS.mp hp
 cases q:h.get? b with
 |none=>rw[q]at e;cases e
 |some o=>
  rw[q]at e
  have e':(b,o)=p:=yI e
  subst e'
  exact⟨hb,q⟩
def Inv.pinned{σ:St}(I:Inv X pins σ H s)(hf:∀b∈fp,SW X pins H b)(ho:∀b∈fp,∃o,s.heap.get? b=Gc o/\∀v,o.data≠.cell v):Inv X (pins++Qj fp s.heap) σ H s:=
 I.Xh λp hp=>(wF.mp hp).elim (λz=>I.pin p (wq _ z)) λz=>by
  obtain⟨hb,e⟩:=Wo z
  obtain⟨f0,f1,f2,_⟩:=hf p.1 hb
  obtain⟨o,e',d⟩:=ho p.1 hb
  rw[e]at e';cases e'
  exact⟨e,f0,f1,f2,d⟩
def Inv.Mp{pins pl:Wp (vy×Obj)}{σ:St}{s:vw}(I:Inv X (pins++pl) σ H s):Inv X pins σ H s:=I.Xh λp hp=>I.pin p (wq _ (AA0 _ hp))
def jB(hp:PassesOwn (model X.prog X.w) X.A X.env X.xe)(hc:X.calm=true)(hi:PI X tg iter wi)(hg:PG X tg g)(hb:PSs X body tb)(hs:xz (∀x,foldedSetIterable iter X.env x=pure x) wv):PS X (.For tg iter body [] pos) (uH wi g tb):=by
 intro pins s σ H D I h
 refine wpAny_For (thn (hi pins s σ H _ I h) λv s1 h1=>thn h1 λitv s2 h2=>?_) hs
 obtain⟨it,fp,tn,J,H2,e,I2,T,st2,f2,W,⟨m0,w0⟩,turn⟩:=h2
 subst e
 have stat:∀{H':Hp},(∀b∈fp,H' b=none)->∀b∈fp,SW X pins H' b:=λhn b hb=>⟨hn b hb,(f2 b hb).2⟩
 refine codeAny_forLoop_any (λn s'=>∃i σ' H',Inv X pins σ' H' s'/\tn i s'.heap/\(∀b∈fp,H' b=none)/\W i n σ' H') ?_ m0 ⟨0,σ,H2,I2,st2,λb hb=>(f2 b hb).1,w0⟩
 rintro n s3 ⟨i,σ3,H3,I3,st3,fr3,w3⟩
 rcases turn i n σ3 H3 w3 with⟨stop,qn⟩|⟨go,N,hN,step⟩
 .refine zB hp (thn (T.done X rfl rfl rfl hc i pins s3 σ3 H3 X.xe I3 (stat fr3) st3 stop) λr s4 ⟨hr,I4⟩=>?_)
  subst hr
  exact AAR ⟨σ3,H3,I4,qn⟩
 .refine zB hp (thn (T.item X rfl rfl rfl hc i pins s3 σ3 H3 X.xe I3 (stat fr3) st3 go) λr s4 ⟨u,hr,h4⟩=>?_)
  subst hr
  refine zB hp (thn h4 λ_ s5 z=>?_)
  obtain⟨x,H5,I5,r5,y5,st5,fr5⟩:=z
  have I5':=I5.pinned (stat fr5) (T.obj _ _ st5)
  refine zB hp (thn (hg _ s5 σ3 H5 x u _ I5' r5 (step x H5 y5)) λ_ s6 z=>?_)
  obtain⟨σ6,H6,I6,q6⟩:=z
  refine zB hp (thn (hb _ s6 σ6 H6 _ I6 q6) λf s7 q7=>?_)
  have again:∀{σ7:St} {H7:Hp},Inv X (pins++Qj fp s5.heap) σ7 H7 s7->N σ7 H7->∃m,m<n/\∃i σ' H',Inv X pins σ' H' s7/\tn i s7.heap/\(∀b∈fp,H' b=none)/\W i m σ' H':=λ{σ7 H7} I7 n7=>by
   obtain⟨m',hm,w7⟩:=hN σ7 H7 n7
   refine⟨m',hm,i+1,σ7,H7,I7.Mp,T.keep _ _ _ st5 λb hb o e=>(I7.pin (b,o) (wq _ (wq _ (JY hb e)))).1,λb hb=>?_,w7⟩
   obtain⟨o,e,d⟩:=T.obj _ _ st5 b hb
   exact(I7.pin (b,o) (wq _ (wq _ (JY hb e)))).2.1
  cases f with
  |next=>obtain⟨σ7,H7,I7,n7⟩:=q7;exact again I7 n7
  |cont=>obtain⟨σ7,H7,I7,n7⟩:=q7;exact again I7 n7
  |brk=>obtain⟨σ7,H7,I7,q7⟩:=q7;exact⟨σ7,H7,I7.Mp,q7⟩
  |ret v=>obtain⟨x7,σ7,H7,I7,r7,q7⟩:=q7;exact⟨x7,σ7,H7,I7.Mp,r7,q7⟩
end
end L2
namespace L2
open PySem PySem.Spec PyProof.Rows
abbrev R2:=V->V->Hp->VK->Prop
def OpR(X:Cx)(f:vm->vm->Sem vm)(r:R2):Prop:=
 ∀(pins:Wp (vy×Obj)) (s:vw) (σ:St) (H:Hp) (x y:V) (v u:vm) (Q:VK),Inv X pins σ H s->RelV x v->RelV y u->r x y H Q->
  wpAny (model X.prog X.w) X.A (f v u) (EP X pins σ Q) X.xe s
def UnR(X:Cx)(f:vm->Sem vm)(r:V->Hp->VK->Prop):Prop:=
 ∀(pins:Wp (vy×Obj)) (s:vw) (σ:St) (H:Hp) (x:V) (v:vm) (Q:VK),Inv X pins σ H s->RelV x v->r x H Q->
  wpAny (model X.prog X.w) X.A (f v) (EP X pins σ Q) X.xe s
def Cv(X:Cx)(f:vm)(r:Wp V->Hp->VK->Prop):Prop:=
 ∀(pins:Wp (vy×Obj)) (s:vw) (σ:St) (H:Hp) (xs:Wp V) (us:Wp vm) (Q:VK),Inv X pins σ H s->Vals xs us->r xs H Q->
  wpAny (model X.prog X.w) X.A (call f us) (EP X pins σ Q) X.xe s
noncomputable def tOp(r:R2)(ta tb:TE):TE:=λσ H Q=>ta σ H λx H1=>tb σ H1 λy H2=>r x y H2 Q
noncomputable def tUn(r:V->Hp->VK->Prop)(ta:TE):TE:=λσ H Q=>ta σ H λx H1=>r x H1 Q
noncomputable def rI(C:Int->Int->Prop)(g:Int->Int->V):R2:=λx y H Q=>∃i j,x=.int i/\y=.int j/\C i j/\Q (g i j) H
noncomputable def rI0(g:Int->Int->V):R2:=λx y H Q=>∃i j,x=.int i/\y=.int j/\Q (g i j) H
def rU(g:Int->V):V->Hp->VK->Prop:=λx H Q=>∃i,x=.int i/\Q (g i) H
section
variable{X:Cx}{a b c:xM}{ta tb tc:TE}{pos:Pos}
def oq(ha:PE X a ta)(hb:PE X b tb){σ:St}{R:V->V->Hp->Prop}(I:Inv X pins σ H s)(h:ta σ H λx H1=>tb σ H1 λy H2=>R x y H2){f:vm->vm->Sem vm}(hf:∀v u s2 x y H2,Inv X pins σ H2 s2->RelV x v->RelV y u->R x y H2->wpAny (model X.prog X.w) X.A (f v u) Q X.xe s2):wpAny (model X.prog X.w) X.A (eval a X.env) (λv s₁=>wpAny (model X.prog X.w) X.A (eval b X.env) (λu s₂=>wpAny (model X.prog X.w) X.A (f v u) Q X.xe s₂) X.xe s₁) X.xe s:=by
 refine thn (ha pins s σ H _ I h) λv s1 z=>?_
 obtain⟨x,H1,I1,r1,q1⟩:=z
 refine thn (hb pins s1 σ H1 _ I1 q1) λu s2 z=>?_
 obtain⟨y,H2,I2,r2,q2⟩:=z
 exact hf v u s2 x y H2 I2 r1 r2 q2
def qu{op:Operator}{r:R2}(ho:OpR X (binaryOp op) r)(ha:PE X a ta)(hb:PE X b tb):PE X (.BinOp a op b pos) (tOp r ta tb):=by
 intro pins s σ H Q I h
 exact wpAny_BinOp (oq ha hb I h λv u s2 x y H2 I2 rx ry q=>ho pins s2 σ H2 x y v u Q I2 rx ry q)
def pH{op:UnaryOp}{r:V->Hp->VK->Prop}(ho:UnR X (unaryOp op) r)(ha:PE X a ta):PE X (.UnaryOp op a pos) (tUn r ta):=by
 intro pins s σ H Q I h
 exact UnaryOp_ (thn (ha pins s σ H _ I h) λv s1 ⟨x,H1,I1,r1,q1⟩=>ho pins s1 σ H1 x v Q I1 r1 q1)
def opI{C:Int->Int->Prop}{g:Int->Int->Int}(rule:∀i j (t u:Tok) s Q E,C i j->Q (.int (g i j) s.toks) {s with toks:=s.toks+1}->wpAny (model X.prog X.w) X.A (f (.int i t) (.int j u)) Q E s):OpR X f (rI C λi j=>.int (g i j)):=by
 intro pins s σ H x y v u Q I rx ry h
 obtain⟨i,j,rfl,rfl,hc,q⟩:=h
 obtain⟨t,rfl⟩:=rx
 obtain⟨t',rfl⟩:=ry
 exact rule i j t t' s _ _ hc ⟨.int (g i j),H,I.tok _,⟨_,rfl⟩,q⟩
def rg{g:Int->Int->Int}(rule:∀i j (t u:Tok) s Q E,Q (.int (g i j) s.toks) {s with toks:=s.toks+1}->wpAny (model X.prog X.w) X.A (f (.int i t) (.int j u)) Q E s):OpR X f (rI0 λi j=>.int (g i j)):=by
 intro pins s σ H x y v u Q I rx ry h
 obtain⟨i,j,rfl,rfl,q⟩:=h
 obtain⟨t,rfl⟩:=rx
 obtain⟨t',rfl⟩:=ry
 exact rule i j t t' s _ _ ⟨.int (g i j),H,I.tok _,⟨_,rfl⟩,q⟩
def nC{g:Int->Int->xD}(rule:∀i j (t u:Tok) s Q E,Q (.bool (g i j)) s->wpAny (model X.prog X.w) X.A (f (.int i t) (.int j u)) Q E s):OpR X f (rI0 λi j=>.bl (g i j)):=by
 intro pins s σ H x y v u Q I rx ry h
 obtain⟨i,j,rfl,rfl,q⟩:=h
 obtain⟨t,rfl⟩:=rx
 obtain⟨t',rfl⟩:=ry
 exact rule i j t t' s _ _ ⟨.bl (g i j),H,I,rfl,q⟩
def uX(i j:Int):Prop:=0<=j/\j<=1000000/\i.natAbs<2^64
def og(i j:Int):Prop:=(-(2^64)<i/\i<2^64)\/(-(2^64)<j/\j<2^64)
def og.ok{i j:Int}(h:og i j):IntMulOk i j:=by
 rcases h with⟨h1,h2⟩|⟨h1,h2⟩
 .exact .of_left (intBits_le_64 h1 h2)
 .exact .of_right (intBits_le_64 h1 h2)
def kR:OpR X (binaryOp .Add) (rI0 λi j=>.int (i+j)):=rg λ_ _ _ _ _ _ _ q=>add_int q
def jd:OpR X (binaryOp .Sub) (rI0 λi j=>.int (i-j)):=rg λ_ _ _ _ _ _ _ q=>sub_int q
def cw:OpR X (binaryOp .Mult) (rI og λi j=>.int (i*j)):=opI λ_ _ _ _ _ _ _ hc q=>mul_int q hc.ok
def kB:OpR X (binaryOp .Mod) (rI (λ_ j=>0<j) λi j=>.int (i % j)):=opI λi j _ _ _ _ _ hc q=>by
 have h1:(0:Int)<j:=hc
 exact mod_int' (by lia) (by rw[ABS i (by lia)];exact q)
def ki:OpR X (binaryOp .Pow) (rI uX λi j=>.int (i^j.toNat)):=opI λ_ _ _ _ _ _ _ hc q=>pow_int_small hc.1 hc.2.1 hc.2.2 q
def unI{g:Int->Int}(rule:∀i (t:Tok) s Q E,Q (.int (g i) s.toks) {s with toks:=s.toks+1}->wpAny (model X.prog X.w) X.A (f (.int i t)) Q E s):UnR X f (rU λi=>.int (g i)):=by
 intro pins s σ H x v Q I rx h
 obtain⟨i,rfl,q⟩:=h
 obtain⟨t,rfl⟩:=rx
 exact rule i t s _ _ ⟨.int (g i),H,I.tok _,⟨_,rfl⟩,q⟩
def lB:UnR X (unaryOp .USub) (rU λi=>.int (-i)):=unI λ_ _ _ _ _ q=>neg_int q
end
section
variable{X:Cx}{a b c:xM}{ta tb tc:TE}{pos:Pos}
def c7{σ:St}(I:Inv X pins σ H s)(q:Q (.bl k) H)(e:k=k'):EP X pins σ Q (.bool k') s:=by
 subst e
 exact⟨.bl k,H,I,rfl,q⟩
def pO:OpR X (compareOp .Lt) (rI0 λi j=>.bl (decide (i<j))):=nC λ_ _ _ _ _ _ _ q=>lt_int q
def gE:OpR X (compareOp .LtE) (rI0 λi j=>.bl (decide (i<=j))):=nC λ_ _ _ _ _ _ _ q=>le_int q
def pP:OpR X (compareOp .Gt) (rI0 λi j=>.bl (decide (j<i))):=nC λ_ _ _ _ _ _ _ q=>gt_int q
def qA:OpR X (compareOp .GtE) (rI0 λi j=>.bl (decide (j<=i))):=nC λ_ _ _ _ _ _ _ q=>ge_int q
def jq:OpR X (compareOp .Is) (λx y H Q=>y=.non/\Q (.bl (decide (x=.non))) H):=by
 intro pins s σ H x y v u Q I rx ry h
 obtain⟨rfl,q⟩:=h
 cases ry
 refine is_none_gen (c7 I q ?_)
 cases x<;>first
  |(cases rx;rfl)
  |(obtain⟨t,rfl⟩:=rx;rfl)
def fc:OpR X (compareOp .IsNot) (λx y H Q=>y=.non/\Q (.bl (!decide (x=.non))) H):=by
 intro pins s σ H x y v u Q I rx ry h
 obtain⟨rfl,q⟩:=h
 cases ry
 refine isnot_none_gen (c7 I q ?_)
 cases x<;>first
  |(cases rx;rfl)
  |(obtain⟨t,rfl⟩:=rx;rfl)
def d8{op:CmpOp}{r:R2}(ho:OpR X (compareOp op) r)(ha:PE X a ta)(hb:PE X b tb)(hm:behindInMarks op b=false):PE X (.Compare a [op] [b] pos) (tOp r ta tb):=by
 intro pins s σ H Q I h
 exact wpAny_Compare1 (oq ha hb I h λv u s2 x y H2 I2 rx ry q=>ho pins s2 σ H2 x y v u Q I2 rx ry q) hm
noncomputable def kf(t:TE):TT:=λσ H Q=>t σ H λx H'=>∃k,x=.bl k/\Q k H'
def YU{op:CmpOp}{r:R2}(ho:OpR X (compareOp op) r)(ha:PE X a ta)(hb:PE X b tb)(hm:behindInMarks op b=false):PT X (.Compare a [op] [b] pos) (kf (tOp r ta tb)):=by
 intro pins s σ H Q I h
 refine wpAny_isTrue_Compare1 (thn (ha pins s σ H _ I h) λv s1 ⟨x,H1,I1,r1,q1⟩=>thn (hb pins s1 σ H1 _ I1 q1) λu s2 ⟨y,H2,I2,r2,q2⟩=>
  thn (ho pins s2 σ H2 x y v u _ I2 r1 r2 q2) λc s3 ⟨z,H3,I3,r3,k,e,q3⟩=>?_) hm
 subst e
 cases r3
 exact yM ⟨H3,I3,q3⟩
noncomputable def cJ(r r':R2)(ta tb tc:TE):TE:=λσ H Q=>ta σ H λx H1=>tb σ H1 λy H2=>r x y H2 λz H3=>∃k,z=.bl k/\
 (if k=true then tc σ H3 λw' H4=>r' y w' H4 Q else Q (.bl false) H3)
def bP{op op':CmpOp}{r r':R2}(ho:OpR X (compareOp op) r)(ho':OpR X (compareOp op') r')(ha:PE X a ta)(hb:PE X b tb)(hc:PE X c tc)(hm:xz (lastMarks [op,op'] [b,c]=false) wf):PE X (.Compare a [op,op'] [b,c] pos) (cJ r r' ta tb tc):=by
 intro pins s σ H Q I h
 refine Compare_chain (thn (ha pins s σ H _ I h) λv s1 ⟨x,H1,I1,r1,q1⟩=>chain_link (thn (hb pins s1 σ H1 _ I1 q1) λu s2 ⟨y,H2,I2,r2,q2⟩=>
  thn (ho pins s2 σ H2 x y v u _ I2 r1 r2 q2) λd s3 ⟨z,H3,I3,r3,k,e,q3⟩=>?_)) hm
 subst e
 cases r3
 refine yM ?_
 cases k with
 |false=>exact ite_ff ⟨.bl false,H3,I3,rfl,q3⟩
 |true=>exact ite_tt (chain_last (thn (hc pins s3 σ H3 _ I3 q3) λw' s4 ⟨z',H4,I4,r4,q4⟩=>ho' pins s4 σ H4 y z' u w' Q I4 r2 r4 q4))
def PY:(sizeLine:Nat)<2^63:=by rw[sizeLine_eq];decide
def Vl:OpR X (binaryOp .Add) (λx y H Q=>∃i j,x=.str i/\y=.str j/\i.length+j.length<=sizeLine/\Q (.str (i++j)) H):=by
 intro pins s σ H x y v u Q I rx ry h
 obtain⟨i,j,rfl,rfl,hz,q⟩:=h
 obtain⟨t,rfl⟩:=rx
 obtain⟨t',rfl⟩:=ry
 exact add_str (λt' tk=>⟨.str (i++j),H,I.tok _,⟨_,rfl⟩,q⟩) hz
def vals1{x:V}{us:Wp vm}(r:Vals [x] us):∃u,us=[u]/\RelV x u:=by
 cases r with
 |cons r1 r2=>cases r2;exact⟨_,rfl,r1⟩
def vals2{x y:V}{us:Wp vm}(r:Vals [x,y] us):∃u w',us=[u,w']/\RelV x u/\RelV y w':=by
 cases r with
 |cons r1 r2=>
  cases r2 with
  |cons r3 r4=>cases r4;exact⟨_,_,rfl,r1,r3⟩
def aB:Cv X (.builtin "abs") (λxs H Q=>∃i,xs=[.int i]/\Q (.int (if i<0 then-i else i)) H):=by
 intro pins s σ H xs us Q I r h
 obtain⟨i,rfl,q⟩:=h
 obtain⟨u,rfl,t,rfl⟩:=vals1 r
 exact call_abs_int λu tk=>⟨.int (if i<0 then-i else i),H,I.tok _,⟨_,rfl⟩,q⟩
def Yv(hc:X.calm=true):Cv X (.builtin "max") (λxs H Q=>∃i j,xs=[.int i,.int j]/\Q (.int (if j>i then j else i)) H):=by
 intro pins s σ H xs us Q I r h
 obtain⟨i,j,rfl,q⟩:=h
 obtain⟨u,w',rfl,⟨t,rfl⟩,⟨t',rfl⟩⟩:=vals2 r
 refine max_two_ints (I.ok.hd hc) λh' tk k=>⟨_,H,I.kept k,?_,q⟩
 by_cases hj:j>i
 .rw[wU hj,wU hj];exact⟨_,rfl⟩
 .rw[wy hj,wy hj];exact⟨_,rfl⟩
def WJ(hc:X.calm=true):Cv X (.builtin "min") (λxs H Q=>∃i j,xs=[.int i,.int j]/\Q (.int (if j<i then j else i)) H):=by
 intro pins s σ H xs us Q I r h
 obtain⟨i,j,rfl,q⟩:=h
 obtain⟨u,w',rfl,⟨t,rfl⟩,⟨t',rfl⟩⟩:=vals2 r
 refine min_two_ints (I.ok.hd hc) λh' tk k=>⟨_,H,I.kept k,?_,q⟩
 by_cases hj:j<i
 .rw[wU hj,wU hj];exact⟨_,rfl⟩
 .rw[wy hj,wy hj];exact⟨_,rfl⟩
def SJ:Cv X (.type "int") (λxs H Q=>(∃i,xs=[.int i]/\Q (.int i) H)\/∃k,xs=[.bl k]/\Q (.int (if k then 1 else 0)) H):=by
 intro pins s σ H xs us Q I r h
 rcases h with⟨i,rfl,q⟩|⟨k,rfl,q⟩
 .obtain⟨u,rfl,t,rfl⟩:=vals1 r
  exact call_int_int ⟨.int i,H,I,⟨_,rfl⟩,q⟩
 .obtain⟨u,rfl,r1⟩:=vals1 r
  cases r1
  exact call_int_bool ⟨.int (if k then 1 else 0),H,I.tok _,⟨_,rfl⟩,q⟩
def Q9:Cv X (.type "str") (λxs H Q=>∃i,xs=[.int i]/\i.natAbs.log2<1920/\Q (.str (toString i)) H):=by
 intro pins s σ H xs us Q I r h
 obtain⟨i,rfl,hz,q⟩:=h
 obtain⟨u,rfl,t,rfl⟩:=vals1 r
 exact PySem.P.str_of_int hz ⟨.str _,H,I.tok _,⟨_,rfl⟩,q⟩
end
end L2
namespace L2
open PySem PySem.Spec PyProof.Rows
structure pz(h:xZ)(x dx C:vy)(mA:Str->vi vm):Prop where
 obj:h.get? x=Gc (ACc C dx)
 ns:h.Ns1 dx mA
 ne:dx≠x
def Xz{h:xZ}{mA:Str->vi vm}(n:h.Ns1 dx mA):∃od,h.get? dx=Gc od/\∀name,ACq name od=Gc (mA name):=by
 obtain⟨o,es,ep,ho,hd,hk,_,hm⟩:=n
 refine⟨o,ho,λname=>?_⟩
 have e:=hm name
 unfold nsFind findBy at e
 rw[<-Array.find?_toList]at e
 unfold ACq
 rw[hd]
 dsimp only
 split
 .rename_i y q
  rw[q]at e
  exact congrArg Gc e
 .rename_i q
  rw[q]at e
  have a:es.toList.any (·.refKey)=false:=by
   rw[ABo]
   intro y hy
   obtain⟨z,t,hkey⟩:=hk y (Array.mem_toList_iff.mp hy)
   simp[DictEntry.refKey,hkey]
  have a':¬es.toList.any (·.refKey)=true:=by rw[a];exact wu
  rw[wy a']
  exact congrArg Gc e
def pz.look{mA:Str->vi vm}(I:pz h x dx C mA):∃od,PySem.W.InstAt h x (ACc C dx) C (Gc od)/\∀name,ACq name od=Gc (mA name):=
 let⟨od,ho,hl⟩:=Xz I.ns
 ⟨od,⟨I.obj,rfl,rfl,ho⟩,hl⟩
section
variable{prog:xK}{w:xy}{A:yt}{E:vm->vw->Prop}{s:vw}{K:vZ}{x dx C f:vy}{mA:Str->vi vm}{name:Str}{v:vm}
end
section
variable{P:xK}{w:xy}{H H':Hp}{h h':xZ}{a C dx:vy}{fs fs':Wp (Str×V)}
def gw(hok:HOk P w H h)(e:H a=Gc (.ins C dx fs)):∃mA,pz h a dx C mA/\(∀f,bz (fs.lookup f) (mA f))/\PySem.Within mA (fs.map (·.1))/\fs.length<=1000/\H dx=Gc (.own a):=by
 obtain⟨d,z,ne,ob,mA,n,r,q⟩:=(show EO P w H h a (.ins C dx fs)from hok a _ e)
 exact⟨mA,⟨ob,n,ne⟩,r,q,z,d⟩
end
structure Cls(K:vZ)(C:vy):Prop where
 pg:PySem.W.plainGet K C yZ=true
 hd:PySem.W.hasDictIn K C=true
 po:PySem.W.plainOver K C=true
 sa:AAb K (.ref C) "__setattr__"=Gc (Gc (.builtin "object.__setattr__"))
def Cls.get{K:vZ}(c:Cls K C)(f:Str):PySem.W.plainGet K C f=true:=c.pg
structure Con(K:vZ)(C:vy)(f:Str)(v:V)(u:vm):Prop where
 at_:AAb K (.ref C) f=Gc (Gc u)
 rel:RelV v u
 get:PySem.W.specialIn K u "__get__"=Gc none
 cp:PySem.W.copiedNames.contains f=false
structure Meth(K:vZ)(C:vy)(m:Str)(f:vy):Prop where
 at_:AAb K (.ref C) m=Gc (Gc (.ref f))
 fn:PySem.W.isFn K (.ref f)=true
 kp:yE K (.ref f)=true
section
variable{X:Cx}{pins:Wp (vy×Obj)}{σ:St}{H:Hp}{s:vw}{a C dx:vy}{fs:Wp (Str×V)}{f:Str}{v:V}{A:yt}{E:vm->vw->Prop}
end
section
variable{X:Cx}{o e value:xM}{f:Str}{pos pos' tpos:Pos}{ta tv:TE}
end
section
variable{X:Cx}{pins:Wp (vy×Obj)}{σ:St}{H:Hp}{s:vw}{A:yt}{E:vm->vw->Prop}{Q:vm->vw->Prop}{c:vm}{b:xD}
inductive V6(K:vZ)(H:Hp):V->vm->Prop where
 |non:V6 K H .non (.type "NoneType")
 |bl (x:xD):V6 K H (.bl x) (.type "bool")
 |int (i:Int):V6 K H (.int i) (.type "int")
 |str (x:Str):V6 K H (.str x) (.type "str")
 |flt (x:UInt64):V6 K H (.flt x) (.type "float")
 |lst {a:vy} {xs:Wp V} (e:H a=Gc (.lst xs)):V6 K H (.ref a) (.type "list")
 |frz {a:vy} {o:Obj} {xs:Wp V} (e:H a=Gc (.frz o (.lst xs))):V6 K H (.ref a) (.type "list")
 |tup {a:vy} {xs:Wp V} (e:H a=Gc (.tup xs)):V6 K H (.ref a) (.type "tuple")
 |dK {a:vy} {kvs:Wp (Key×V)} (e:H a=Gc (.dK kvs)):V6 K H (.ref a) (.type "dict")
 |dT {a:vy} {kvs:Wp (Wp Key×V)} (e:H a=Gc (.dT kvs)):V6 K H (.ref a) (.type "dict")
 |ins {a C dx:vy} {fs:Wp (Str×V)} (e:H a=Gc (.ins C dx fs)) (cl:Cls K C) (ha:AAb K (.ref C) "__class__"=Gc (Gc (.builtin "object.__class__")))
   (hn:PySem.W.specialIn K (.builtin "object.__class__") "__get__"=Gc (Gc (.builtin "getset_descriptor.__get__"))) (htk:PySem.W.takesIn K (.builtin "object.__class__")=Gc true)
   (hm:PySem.W.mroIn K C (.type "object")=Gc true):V6 K H (.ref a) (.ref C)
def GO{x:V}{u t:vm}(I:Inv X pins σ H s)(rx:RelV x u)(ty:V6 X.K H x t)(e:yv X.K t c=Gc b)(h:∀tk,Q (.bool b) {s with toks:=tk}):wpAny (model X.prog X.w) A (call (.builtin "isinstance") [u,c]) Q E s:=by
 cases ty with
 |non=>cases (show u=xA from rx);exact xo PySem.W.kitx_none I.kIn ABT e (λz=>nomatch z) h
 |bl y=>cases (show u=ABR y from rx);exact xo PySem.W.kitx_bool I.kIn ABT e (λz=>nomatch z) h
 |int i=>obtain⟨t,q⟩:=(show∃t,u=AB3 i t from rx);cases q;exact xo PySem.W.kitx_int I.kIn ABT e (λz=>nomatch z) h
 |str y=>obtain⟨t,q⟩:=(show∃t,u=AAr y t from rx);cases q;exact xo PySem.W.kitx_str I.kIn ABT e (λz=>nomatch z) h
 |flt y=>obtain⟨t,q⟩:=(show∃t,u=Value.float y t from rx);cases q;exact xo PySem.W.kitx_float I.kIn ABT e (λz=>nomatch z) h
 | @lst a xs ea=>
   cases (show u=w9 a from rx)
   obtain⟨_,_,n,_,h1⟩:=(show EO X.prog X.w H s.heap a (.lst xs)from I.hok a _ ea)
   exact xo PySem.W.kitx_list I.kIn ⟨_,h1,rfl⟩ e (λz=>nomatch z) h
 | @frz a ob xs ea=>
   cases (show u=w9 a from rx)
   obtain⟨_,_,_,n,_,h1⟩:=(show EO X.prog X.w H s.heap a (.frz ob (.lst xs))from I.hok a _ ea)
   exact xo PySem.W.kitx_list I.kIn ⟨_,h1,rfl⟩ e (λz=>nomatch z) h
 | @tup a xs ea=>
   cases (show u=w9 a from rx)
   obtain⟨_,_,_,p⟩:=(show EO X.prog X.w H s.heap a (.tup xs)from I.hok a _ ea)
   obtain⟨o,h1,h2,_⟩:=p
   exact xo ADT I.kIn ⟨o,h1,h2⟩ e (λz=>nomatch z) h
 | @dK a kvs ea=>
   cases (show u=w9 a from rx)
   obtain⟨_,_,vs,_,p⟩:=(show EO X.prog X.w H s.heap a (.dK kvs)from I.hok a _ ea)
   obtain⟨o,es,ep,h1,h2,_⟩:=p
   exact xo PySem.W.kitx_dict I.kIn ⟨o,h1,h2.1⟩ e (λz=>nomatch z) h
 | @dT a kvs ea=>
   cases (show u=w9 a from rx)
   obtain⟨_,_,xs,_,o,es,ep,h1,h2,_⟩:=(show EO X.prog X.w H s.heap a (.dT kvs)from I.hok a _ ea)
   exact xo PySem.W.kitx_dict I.kIn ⟨o,h1,h2.1⟩ e (λz=>nomatch z) h
 | @ins a C dx fs ea cl ha hn htk hm=>
   cases (show u=w9 a from rx)
   obtain⟨mA,O,_⟩:=gw I.hok ea
   obtain⟨od,J,_⟩:=O.look
   exact xo (PySem.W.kitx_own (cl.get _) cl.hd ha hn htk hm) I.kIn J e (λz=>nomatch z) h
end
end L2
namespace L2
open PySem PySem.Spec PyProof.Rows
structure K0(k:Nat)(A:yt):Prop where
 hd:A.handled=none
 dp:A.depth+3*k+5<recursionLimit
 un:A.units+16*k+200<cLine
def K0.mono{j k:Nat}{A:yt}(r:K0 k A)(h:j<=k):K0 j A:=⟨r.hd,by have:=r.dp;lia,by have:=r.un;lia⟩
def K0.deeper(r:K0 (k+1) A)(env:Env):K0 k (A.deeper env):=
 ⟨r.hd,by have:=r.dp;show A.depth+1+3*k+5<_;lia,by have:=r.un;show A.units+3+16*k+200<_;lia⟩
def K0.depth{k:Nat}{A:yt}(r:K0 k A):A.depth<recursionLimit:=by have:=r.dp;lia
noncomputable def rV:TA:=λ_ H Q=>Q [] H
noncomputable def mL(ta:TE)(tr:TA):TA:=λσ H Q=>ta σ H λx H1=>tr σ H1 λxs H2=>Q (x::xs) H2
section
variable{X:Cx}{e:xM}{es:Wp xM}{te:TE}{t:TA}{pos:Pos}
def Xs:PA X [] rV:=λ_ _ _ _ H Q I h=>Calls.spliced_nil ⟨[],H,I,.nil,h⟩
def QS(ha:PE X e te)(hr:PA X es t)(hs:xz (wD (e::es) X.env=(false,eval e X.env)::wD es X.env) wp):PA X (e::es) (mL te t):=by
 intro pos pins s σ H Q I h
 rw[hs]
 show wpAny _ _ (spliced ((false,eval e X.env)::backTo pos (wD es X.env))) _ _ s
 refine Calls.spliced_cons (thn (ha pins s σ H _ I h) λu s1 z=>?_)
 obtain⟨x,H1,I1,r1,q1⟩:=z
 exact thn (hr pos pins s1 σ H1 _ I1 q1) λus s2 ⟨xs,H2,I2,r2,q2⟩=>⟨x::xs,H2,I2,.cons r1 r2,q2⟩
noncomputable def uB(t:TA):TE:=λσ H Q=>t σ H λxs H1=>xs.length<=sizeLine/\∀p,H1 p=none->Q (.ref p) (upd H1 p (.tup xs))
noncomputable def uu(t:TA):TE:=λσ H Q=>t σ H λxs H1=>xs.length<=sizeLine/\∀p,H1 p=none->Q (.ref p) (upd H1 p (.lst xs))
def jb{x1}(h:PA X es t):PE X (.Tuple es x1 pos) (uB t):=by
 intro pins s σ H Q I hq
 refine wpAny_Tuple_spliced (thn (h pos pins s σ H _ I hq) λus s1 ⟨xs,H1,I1,r,z,q⟩=>⟨by rw[<-r.length];exact z,?_⟩)
 have hf:H1 s1.heap.objs.size=none:=I1.hok.fresh (vf _)
 refine⟨.ref s1.heap.objs.size,upd H1 s1.heap.objs.size (.tup xs),I1.laid (t':=s1.toks) (λb u e=>vc _ e) (vf _) ?_,rfl,q _ hf⟩
 exact⟨z,us,r,⟨_,wI _ rfl,rfl,_,rfl⟩⟩
def mO(h:PA X es t):PE X (.List es pos) (uu t):=by
 intro pins s σ H Q I hq
 refine wpAny_List_spliced (thn (h pos pins s σ H _ I hq) λus s1 ⟨xs,H1,I1,r,z,q⟩=>⟨by rw[<-r.length];exact z,?_⟩)
 have hf:H1 s1.heap.objs.size=none:=I1.hok.fresh (vf _)
 refine⟨.ref s1.heap.objs.size,upd H1 s1.heap.objs.size (.lst xs),I1.laid (t':=s1.toks) (λb u e=>vc _ e) (vf _) ?_,rfl,q _ hf⟩
 exact⟨z,us,0,r,wI _ rfl⟩
end
abbrev Sp:=Wp V->Hp->VK->XK->Prop
abbrev CXT:=Wp Env->Hp->vw->XK->vm->vw->Prop
structure nW(P:xK)(w:xy)(K:vZ)(mg:Str->vi vm)(base:xZ)(A:yt)(outer:Wp Env)(s:vw)(H:Hp):Prop where
 frames:A.frames=Gc outer
 mod:Mod K mg base
 bs:∀b o,base.get? b=Gc o->s.heap.get? b=Gc o/\H b=none
 bsz:base.objs.size<=s.heap.objs.size
 VO:s.heap.FunFrames base outer
 frf:∀b∈frs outer,H b=none
 hok:HOk P w H s.heap
 bare:AAY s.gens
def CE(outer:Wp Env)(P:xK)(w:xy)(H:Hp)(s:vw)(Q:VK)(u:vm)(s':vw):Prop:=
 ∃v H',s'.os=s.os/\AAY s'.gens/\Un (frs outer) [] H H' s.heap s'.heap/\HOk P w H' s'.heap/\RelV v u/\Q v H'
def CR(CX:CXT)(outer:Wp Env)(P:xK)(w:xy)(H:Hp)(s:vw)(Q:VK)(E:XK)(r:Result)(s':vw):Prop:=
 match r with
 | .ok (.ret u)=>CE outer P w H s Q u s'
 | .ok _=>yV
 | .error e=>CX outer H s E e s'
structure OO(P:xK)(w:xy)(K:vZ)(mg:Str->vi vm)(base:xZ)(CX:CXT)(k:Nat)(f:vy)(fd:AAc)(ps:Wp Str)(sp:Sp):Prop where
 len:∀vs H Q E,sp vs H Q E->vs.length=ps.length
 run:∀(A:yt) (outer:Wp Env) (s:vw) (H:Hp) (args:Args) (us:Wp vm) (vs:Wp V) (Q:VK) (E:XK),K0 k A->nW P w K mg base A outer s H->BindsTo s fd args (ps.zip us)->Vals vs us->sp vs H Q E->
  codeAny (model P w) A (.call (.ref f) args) (CR CX outer P w H s Q E) s
def OO.mono{K:vZ}(F:OO P w K mg base CX j f fd ps sp)(h:j<=k):OO P w K mg base CX k f fd ps sp:=⟨F.len,λA outer s H args us vs Q E hr=>F.run A outer s H args us vs Q E (hr.mono h)⟩
def OO.imp{K:vZ}(F:OO P w K mg base CX k f fd ps sp)(h:∀vs H Q E,sp' vs H Q E->sp vs H Q E):OO P w K mg base CX k f fd ps sp':=
 ⟨λvs H Q E q=>F.len vs H Q E (h _ _ _ _ q),λA outer s H args us vs Q E hr he hb hv hs=>F.run A outer s H args us vs Q E hr he hb hv (h _ _ _ _ hs)⟩
section
variable{X:Cx}{pins:Wp (vy×Obj)}{σ:St}{H:Hp}{s s':vw}
def Inv.rJ(I:Inv X pins σ H s):nW X.prog X.w X.K X.mg X.base X.A X.stack s H:=
 ⟨I.ok.frames,I.ok.mod,I.bs,va I.ok.bsz I.sz,I.stack,I.Tp,I.hok,I.bare⟩
def Inv.after{Q:VK}{u:vm}(I:Inv X pins σ H s)(h:CE X.stack X.prog X.w H s Q u s'):EP X pins σ Q u s':=by
 obtain⟨v,H',os,bare,un,hok,r,q⟩:=h
 obtain⟨hh,g,d,t,os'⟩:=s'
 obtain rfl:os'=s.os:=os
 exact⟨v,H',I.call (h':=hh) (g':=g) (d':=d) (t':=t) (ch:=[]) un hok bare (λb z=>absurd z (by simp)),r,q⟩
end
noncomputable def gz(sp:Sp)(dvs:Wp V)(E:XK)(t:TA):TE:=λσ H Q=>t σ H λvs H1=>sp (vs++dvs) H1 Q E
def Binds(K:vZ)(fd:AAc)(ps:Wp Str)(ds:Wp vm):Prop:=
 ∀(s:vw) (us:Wp vm),K.In s.heap->(us++ds).length=ps.length->BindsTo s fd ⟨us,[]⟩ (ps.zip (us++ds))
def Binds.all{K:vZ}(h:∀us:Wp vm,us.length=ps.length->bindArgs fd ⟨us,[]⟩=pure (ps.zip us)):Binds K fd ps []:=λs us _ hl=>by
 rw[yJ]at hl⊢
 exact .of_eq (h us hl)
def Passes(CX:CXT)(X:Cx)(E:XK):Prop:=∀(pins:Wp (vy×Obj)) (σ:St) (H:Hp) (s:vw) (e:vm) (s':vw),Inv X pins σ H s->CX X.stack H s E e s'->X.xe e s'
section
variable{X:Cx}{CX:CXT}{k:Nat}{f C:vy}{fd:AAc}{ps:Wp Str}{sp:Sp}{dvs:Wp V}{ds:Wp vm}{E:XK}{x m:Str}{p pos apos:Pos}{e o:xM}{es:Wp xM}{ta:TE}{t:TA}
def cD{σ:St}(F:OO X.prog X.w X.K X.mg X.base CX k f fd ps sp)(hr:K0 k X.A)(hb:Binds X.K fd ps ds)(hd:Vals dvs ds)(hx:Passes CX X E)(I:Inv X pins σ H s)(r:Vals vs us)(h:sp (vs++dvs) H Q E):wpAny (model X.prog X.w) X.A (call (.ref f) us) (EP X pins σ Q) X.xe s:=by
 have r2:Vals (vs++dvs) (us++ds):=r.append hd
 have hl:(us++ds).length=ps.length:=by rw[<-r2.length];exact F.len _ _ _ _ h
 refine wpAny_call (ACH (F.run X.A X.stack s H ⟨us,[]⟩ (us++ds) (vs++dvs) Q E hr I.rJ (hb s us I.kIn hl) r2 h) λr s' hq=>?_)
 cases r with
 |error e=>exact hx pins σ H s e s' I hq
 |ok fl=>
  cases fl with
  |ret u=>exact I.after hq
  |next=>exact yk hq
  |brk=>exact yk hq
  |cont=>exact yk hq
def gu(F:OO X.prog X.w X.K X.mg X.base CX k f fd ps sp)(hr:K0 k X.A)(hg:Gl X x)(hm:X.mg x=Gc (.ref f))(hk:yE X.K (.ref f)=true)(hb:Binds X.K fd ps ds)(hd:Vals dvs ds)(hx:Passes CX X E)(ha:PA X (e::es) t)(hdb:xz ((x==("__debug__":Str))=false) ww)(he:xz (wD (e::es) X.env=(false,eval e X.env)::wD es X.env) wp)(hpl:xz ((backTo pos (wD es X.env)).any (·.1)=false) wp):PE X (.Call (.Name x p) (e::es) [] pos) (gz sp dvs E t):=by
 intro pins s σ H Q I h
 refine zZ (Pb I hg hm ?_ hdb)
 refine ABU (h₀:=X.base) I.ok.mod.kin hk (thn (ha pos pins s σ H _ I h) λus s1 ⟨vs,H1,I1,r,q⟩=>⟨I1.kIn,?_⟩) he hpl
 exact cD F hr hb hd hx I1 r q
structure Mk(K:vZ)(C f:vy):Prop where
 makes:PySem.W.makesIn K C=true
 init:AAb K (.ref C) "__init__"=Gc (Gc (.ref f))
 fn:PySem.W.isFn K (.ref f)=true
 kp:yE K (.ref C)=true
end
section
variable{X:Cx}{CX:CXT}{k:Nat}{f C:vy}{fd:AAc}{ps ks:Wp Str}{sp:Sp}{E:XK}{x m:Str}{p pos apos kpos:Pos}{e o:xM}{es:Wp xM}{kws:Wp AAz}{te ta:TE}{t tk:TA}{nm:vi Str}
structure sC(K:vZ)(fd:AAc)(ps ks:Wp Str)(g:Wp vm->Wp vm->Wp vm)(gV:Wp V->Wp V->Wp V):Prop where
 to:∀(s:vw) (us ws:Wp vm),K.In s.heap->(g us ws).length=ps.length->BindsTo s fd ⟨us,ks.zip ws⟩ (ps.zip (g us ws))
 rel:∀{vs:Wp V} {us:Wp vm} {zs:Wp V} {ws:Wp vm},Vals vs us->Vals zs ws->Vals (gV vs zs) (g us ws)
variable{g:Wp vm->Wp vm->Wp vm}{gV:Wp V->Wp V->Wp V}
end
structure Ak(N P:Wp Str)(sc:zv):Prop where
 kind:sc.kind=.function
 co:sc.isCoroutine=false
 gen:sc.isGenerator=false
 nd:N.Nodup
 pre:N.take P.length=P
 par:∀x∈P,sc.names.lookup x=Gc .local\/sc.names.lookup x=Gc .cell
 kj:∀y∈sc.names,y.2≠.free
theorem Rz{kindOf:Str->vi AB5}:∀{binds} {m:Str->vi vm},(∀v,(x,v)∉binds)->bindL kindOf binds m x=m x
 | [],_,_=>rfl
 |(n,v)::r,m,h=>by
  unfold bindL
  rw[Rz λw hw=>h w (vh _ hw)]
  split
  .have:x≠n:=by rintro rfl;exact h v vp
   simp[this]
  .rfl
theorem Qu{kindOf:Str->vi AB5}:∀{binds} {m:Str->vi vm},(∀v,(x,v)∉binds)->bindC kindOf binds m x=m x
 | [],_,_=>rfl
 |(n,v)::r,m,h=>by
  unfold bindC
  rw[Qu λw hw=>h w (vh _ hw)]
  split
  .rfl
  .have:x≠n:=by rintro rfl;exact h v vp
   simp[this]
theorem RY{kindOf:Str->vi AB5}:∀{P:Wp Str} {vs:Wp vm} {i:Nat} {m},P.Nodup->P[i]?=Gc x->vs[i]?=Gc v->kindOf x=Gc .local->bindL kindOf (P.zip vs) m x=Gc v
 | [],_,_,_,_,h,_,_=>by simp at h
 |_::_,[],_,_,_,_,h,_=>by simp at h
 |p::P,w::vs,0,m,nd,h1,h2,hk=>by
  simp at h1 h2;subst h1;subst h2
  show bindL kindOf ((p,w)::P.zip vs) m p=_
  unfold bindL
  rw[Rz λv hv=>(yl.mp nd).1 (zg hv).1,wU hk]
  simp
 |p::P,w::vs,i+1,m,nd,h1,h2,hk=>by
  show bindL kindOf ((p,w)::P.zip vs) m x=_
  unfold bindL
  exact RY (i:=i) (yl.mp nd).2 (by simpa using h1) (by simpa using h2) hk
theorem Qr{kindOf:Str->vi AB5}:∀{P:Wp Str} {vs:Wp vm} {i:Nat} {m},P.Nodup->P[i]?=Gc x->vs[i]?=Gc v->kindOf x≠Gc .local->bindC kindOf (P.zip vs) m x=Gc v
 | [],_,_,_,_,h,_,_=>by simp at h
 |_::_,[],_,_,_,_,h,_=>by simp at h
 |p::P,w::vs,0,m,nd,h1,h2,hk=>by
  simp at h1 h2;subst h1;subst h2
  show bindC kindOf ((p,w)::P.zip vs) m p=_
  unfold bindC
  rw[Qu λv hv=>(yl.mp nd).1 (zg hv).1,wy hk]
  simp
 |p::P,w::vs,i+1,m,nd,h1,h2,hk=>by
  show bindC kindOf ((p,w)::P.zip vs) m x=_
  unfold bindC
  exact Qr (i:=i) (yl.mp nd).2 (by simpa using h1) (by simpa using h2) hk
noncomputable def start(N:Wp Str)(vs:Wp V):St:=vs.map Gc++wB (N.length-vs.length) none
noncomputable def TK(CX:CXT)(P:xK)(w:xy)(K:vZ)(mg:Str->vi vm)(base:xZ)(N:Wp Str)(qual:Str)(scope:zv)(f:vy)(cd:vm)(A:yt)(outer:Wp Env)(s:vw)(H:Hp)(E:XK):Cx where
 prog:=P
 w:=w
 K:=K
 mg:=mg
 base:=base
 A:=A.deeper (envOfC qual scope s.heap.objs.size f cd)
 N:=N
 s₀:=s
 H₀:=H
 env:=envOfC qual scope s.heap.objs.size f cd
 outer:=outer
 stack:=envOfC qual scope s.heap.objs.size f cd::outer
 ex:=[]
 calm:=true
 fn:=λ_=>true
 pn:=[]
 xe:=λe s'=>wpAny (model P w) (A.deeper (envOfC qual scope s.heap.objs.size f cd)) (leaving (envOfC qual scope s.heap.objs.size f cd) e) (λ_ s''=>CX outer H s E e s'') (λe' s''=>CX outer H s E e' s'') s'
def NF{sc:zv}{x:Str}(h:sc.names.lookup x=Gc .cell):∃c,(cellsFrom n sc.names []).lookup x=Gc c:=by
 have q:=ACI sc.names n [] (.inl h)
 exact Option.isSome_iff_exists.mp q
def YD{CX:CXT}{P:xK}{w:xy}{K:vZ}{mg:Str->vi vm}{base:xZ}{N ps:Wp Str}{qual:Str}{scope:zv}{f:vy}{cd:vm}{A:yt}{outer:Wp Env}{s s1:vw}{H:Hp}{E:XK}{us:Wp vm}{vs:Wp V}(S:Ak N ps scope)(hd:A.handled=none)(e0:nW P w K mg base A outer s H)(hl:vs.length=ps.length)(r:Vals vs us)(x:InCallC s s.heap.objs.size (bindL (envOfC qual scope s.heap.objs.size f cd).kindOf (ps.zip us) λ_=>none) (cellsFrom (s.heap.objs.size+1) scope.names []) (bindC (envOfC qual scope s.heap.objs.size f cd).kindOf (ps.zip us) λ_=>none) s1):Inv (TK CX P w K mg base N qual scope f cd A outer s H E) [] (start N vs) H s1:=by
 have hpl:ps.length<=N.length:=by have:=congrArg zy S.pre;rw[zP]at this;lia
 obtain⟨h1,tk,rfl,hk⟩:=x.done
 have noA:∀b:vy,b∉(TK CX P w K mg base N qual scope f cd A outer s H E).ex:=λb z=>absurd (show b∈([]:Wp vy)from z) (by simp)
 refine⟨⟨e0.mod,S.kind,rfl,rfl,vf _,λy z c h1 h2=>?_,λy hy=>?_,λy c _ h=>?_,λ_=>hd,Around.frames_deeper e0.frames,.inr ⟨rfl,rfl⟩,λb z=>absurd z (noA b),e0.bs,e0.bsz,λb _ _=>noA b,λb z=>absurd z (noA b),e0.VO,e0.frf⟩,
  rfl,e0.bare,Un.kept hk,⟨_,x.toInCall.ns,λi y v h1 h2 h3=>?_⟩,λy c h=>⟨_,x.cell y c h⟩,e0.hok.fresh (vf _),λy c h=>?_,λp hp=>absurd (show p∈([]:Wp (vy×Obj))from hp) (by simp),e0.hok.kept hk,?_⟩
 .exact name_of_addr x.apart (xP h1) (xP h2)
 .have hy:scope.names.lookup y=Gc .cell\/scope.names.lookup y=Gc .free:=hy
  rcases hy with hy|hy
  .exact NF hy
  .exact absurd rfl (S.kj _ (xP hy))
 .exact ye (x.above y c (xP h))
 .have hi:i<vs.length:=by
   unfold start at h2
   by_cases hi:i<vs.length
   .exact hi
   .rw[xB (by simpa using hi)]at h2
    rw[AB6]at h2
    split at h2<;>cases h2
  have ha:vs[i]?=Gc v:=by
   unfold start at h2
   rw[vg (by simpa using hi),wJ]at h2
   cases e:vs[i]? with
   |none=>rw[e]at h2;cases h2
   |some a=>rw[e]at h2;cases h2;rfl
  obtain⟨u,hu,rv⟩:=r.get ha
  have hp:ps[i]?=Gc y:=by
   rw[<-S.pre,List.getElem?_take_of_lt (by lia)];exact h1
  have ndP:ps.Nodup:=by rw[<-S.pre];exact S.nd.sublist (List.take_sublist _ _)
  refine⟨u,rv,?_⟩
  rcases S.par y (wH hp)with k|k
  .exact .inl ⟨k,RY ndP hp hu k⟩
  .obtain⟨c,e⟩:=NF (n:=s.heap.objs.size+1) k
   refine .inr ⟨.inl k,c,e,?_⟩
   have q:=x.cell y c e
   rw[Qr ndP hp hu (by show scope.names.lookup y≠_;rw[k];decide)]at q
   exact q
 .exact e0.hok.fresh (ye (x.above y c (xP h)))
 .unfold start
  show _=N.length
  rw[wc,wY,List.length_replicate]
  lia
def mE{CX:CXT}{P:xK}{w:xy}{K:vZ}{mg:Str->vi vm}{base:xZ}{k:Nat}{f:vy}{name qual:Str}{params:Arguments}{body:Wp wV}{scope:zv}{dV kV doc pm cdv ct oc:vm}{an od:vi vy}{osl:AAn (vi vm)}{N ps:Wp Str}{sp:Sp}(lk:K.lookup f=Gc ⟨oc,od,.func (zb name qual params body scope dV kV doc pm an cdv ct),osl⟩)(hcd:ABV K cdv qual=true)(S:Ak N ps scope)(len:∀vs H Q E,sp vs H Q E->vs.length=ps.length)(hbody:∀(A:yt) (outer:Wp Env) (s:vw) (H:Hp) (vs:Wp V) (Q:VK) (E:XK),K0 k (A.deeper (envOfC qual scope s.heap.objs.size f cdv))->sp vs H Q E->∃t,PSs (TK CX P w K mg base N qual scope f cdv A outer s H E) body t/\t {nx:=λ_ H'=>Q .non H',rt:=Q} (start N vs) H):OO P w K mg base CX (k+1) f (zb name qual params body scope dV kV doc pm an cdv ct) ps sp:=by
 refine⟨len,λA outer s H args us vs Q E hr e0 hb r hsp=>?_⟩
 have hl:=len _ _ _ _ hsp
 have KX:K.In s.heap:=e0.mod.kin.keeps λb o e=>(e0.bs b o e).1
 have lim:s.heap.NoLimit:=e0.mod.nolimit.keeps λb o e=>(e0.bs b o e).1
 have hkind:∀y∈ps.zip us,scope.names.lookup y.1=Gc .local\/(scope.names.lookup y.1=Gc .cell/\((cellsFrom (s.heap.objs.size+1) scope.names []).lookup y.1).isSome=true):=λ⟨n,v⟩ hy=>by
  rcases S.par n (zg hy).1 with q|q
  .exact .inl q
  .exact .inr ⟨q,ACI _ _ _ (.inl q)⟩
 refine codeAny_call_function hr.depth (KX _ _ lk) rfl S.co S.gen rfl (PySem.W.codeRec_of KX hcd) (hb _ _ _ _ ?_)
 refine wpAny_newFunctionEnv_cells S.kind hkind λenv he s1 x=>?_
 subst he
 refine⟨lim.keeps x.toInCall.keep,codeAny_func ?_⟩
 obtain⟨t,ht,hq⟩:=hbody A outer s H vs Q E (hr.deeper _) hsp
 have I:Inv (TK CX P w K mg base N qual scope f cdv A outer s H E) [] (start N vs) H s1:=YD S hr.hd e0 hl r x
 refine yu (ht [] s1 (start N vs) H _ I hq) (λfl s' hs=>?_) λe s' hs=>hs
 have fin:∀{σ':St} {H':Hp} {v:V} {u:vm},Inv (TK CX P w K mg base N qual scope f cdv A outer s H E) [] σ' H' s'->RelV v u->Q v H'->CE outer P w H s Q u s':=
  λ{σ' H' v u} J rv q=>⟨v,H',J.os,J.bare,J.base,J.hok,rv,q⟩
 cases fl with
 |ret u=>
  obtain⟨v,σ',H',J,rv,q⟩:=hs
  exact fin J rv q
 |next=>
  obtain⟨σ',H',J,q⟩:=hs
  exact fin (v:=V.non) (u:=xA) J rfl q
 |brk=>
  obtain⟨_,_,_,q⟩:=hs
  exact yk q
 |cont=>
  obtain⟨_,_,_,q⟩:=hs
  exact yk q
end L2
namespace L2
open PySem PySem.Spec PyProof.Rows
section
variable{X:Cx}{x:Str}{p pos:Pos}{e:xM}{es:Wp xM}{t:TA}{id T:yo}{r:Wp V->Hp->VK->Prop}
noncomputable def tCB(r:Wp V->Hp->VK->Prop)(t:TA):TE:=λσ H Q=>t σ H λvs H1=>r vs H1 Q
def Zq(hc:Cv X (.builtin id) r)(hg:Gl X x)(hm:X.mg x=none)(hv:bootBuiltins x=Gc (.builtin id))(ha:PA X (e::es) t)(hn:xz (x≠ "__name__") ww)(hdb:xz ((x==("__debug__":Str))=false) ww)(he:xz (wD (e::es) X.env=(false,eval e X.env)::wD es X.env) wp)(hpl:xz ((backTo pos (wD es X.env)).any (·.1)=false) wp):PE X (.Call (.Name x p) (e::es) [] pos) (tCB r t):=by
 intro pins s σ H Q I h
 refine zZ (Ow I hg hm hv ?_ hn hdb)
 exact PyProof.Rows.callWith_builtin1 (thn (ha pos pins s σ H _ I h) λus s1 ⟨vs,H1,I1,r1,q1⟩=>hc pins s1 σ H1 vs us Q I1 r1 q1) he hpl
def Y9(hc:Cv X (.type T) r)(hg:Gl X x)(hm:X.mg x=none)(hv:bootBuiltins x=Gc (.type T))(ha:PA X (e::es) t)(hn:xz (x≠ "__name__") ww)(hdb:xz ((x==("__debug__":Str))=false) ww)(he:xz (wD (e::es) X.env=(false,eval e X.env)::wD es X.env) wp)(hpl:xz ((backTo pos (wD es X.env)).any (·.1)=false) wp):PE X (.Call (.Name x p) (e::es) [] pos) (tCB r t):=by
 intro pins s σ H Q I h
 refine zZ (Ow I hg hm hv ?_ hn hdb)
 exact zo (thn (ha pos pins s σ H _ I h) λus s1 ⟨vs,H1,I1,r1,q1⟩=>hc pins s1 σ H1 vs us Q I1 r1 q1) he hpl
end
end L2
namespace HT
open PySem PyProof.Rows
section
open PySem.SeqAt
open PySem.AutoSeq1 (wpAny_loadPart')
open PySem.MeetsSeq PySem.MeetsSeq2 PySem.MeetsSeq3
end
section
variable{prog:xK}{w:xy}{A:yt}{E:vm->vw->Prop}{s:vw}
def fO{Q:vm->vw->Prop}(ht:IsTup s.heap t vs.toArray)(hb:IsTup s.heap b ws.toArray)(hv:vs≠[])(h1:ws=[]->Q (.ref t) s)(h2:ws≠[]->Q (.ref s.heap.objs.size) {s with heap:=s.heap.push {cls:=.type "tuple",data:=.seq (vs++ws).toArray}})(hsz:vs.length+ws.length<=sizeLine):wpAny (model prog w) A (binaryOp .Add (.ref t) (.ref b)) Q E s:=by
 obtain⟨⟨cls,dd,data,sl⟩,ho,hc,n,hd⟩:=id ht
 obtain⟨⟨cls2,dd2,data2,sl2⟩,ho2,hc2,n2,hd2⟩:=id hb
 simp only at hc hd hc2 hd2
 subst hc hd hc2 hd2
 have e:vs.toArray++ws.toArray=(vs++ws).toArray:=by simp
 by_cases hw:ws=[]
 .exact concat_meets ⟨_,ho,rfl⟩ ⟨_,ho2,rfl⟩ AB7 ADM AAd AAZ (AAM _ _)
   (tuple_addW1 t b vs.toArray ws.toArray n n2 dd dd2 sl sl2 (by simpa using hv) (by simp[hw])) ⟨ho,ho2,h1 hw⟩
 .refine concat_meets ⟨_,ho,rfl⟩ ⟨_,ho2,rfl⟩ AB7 ADM AAd AAZ (AAM _ _)
   (tuple_addW2 t b vs.toArray ws.toArray n n2 dd dd2 sl sl2 (by simpa using hv) (by simpa using hw) (by rw[vv,vv];exact hsz)) ⟨ho,ho2,?_⟩
  rw[e]
  exact h2 hw
noncomputable def sIx(n d:Nat):vi Int->Nat
 |none=>d
 |some v=>if v<0 then(v+(n:Int)).toNat else min v.toNat n
def Td(n d k:Nat):sIx n d (Gc (k:Int))=min k n:=by
 show(if(k:Int)<0 then((k:Int)+(n:Int)).toNat else min (k:Int).toNat n)=min k n
 rw[wy (by lia),zC]
def lY(n d:Nat)(hd:d<=n)(o:vi Int):sIx n d o<=n:=by
 cases o with
 |none=>exact hd
 |some v=>
  show(if v<0 then(v+(n:Int)).toNat else min v.toNat n)<=n
  by_cases hv:v<0
  .rw[wU hv];lia
  .rw[wy hv];exact AAs _ _
def Qd(v:Int)(n:Nat)(hv:¬v<0):min v (n:Int)=((min v.toNat n:Nat):Int):=by
 obtain⟨k,rfl⟩:=Int.eq_ofNat_of_zero_le (Int.not_lt.mp hv)
 rcases Nat.le_total k n with h|h
 .exact(ACd (Int.ofNat_le.mpr h)).trans (congrArg Nat.cast (ACe h)).symm
 .exact(Int.min_eq_right (Int.ofNat_le.mpr h)).trans (congrArg Nat.cast (Nat.min_eq_right h)).symm
def Ya(v:Int)(n d:Nat):(if v<0 then max (v+(n:Int)) 0 else min v (n:Int))=((sIx n d (Gc v):Nat):Int):=by
 show(if v<0 then max (v+(n:Int)) 0 else min v (n:Int))=(((if v<0 then(v+(n:Int)).toNat else min v.toNat n):Nat):Int)
 by_cases hv:v<0
 .simp only[wU hv];exact(ACf _).symm
 .simp only[wy hv];exact Qd v n hv
def VT(lo hi:vi Int)(n:Nat):AAJ lo hi 1 (n:Int)=(((sIx n 0 lo:Nat):Int),((sIx n n hi:Nat):Int)):=by
 have h1:¬((1:Int)<0):=by lia
 unfold AAJ
 simp only[h1,AAe]
 refine Prod.ext ?_ ?_
 .cases lo with
  |none=>rfl
  |some v=>exact Ya v n 0
 .cases hi with
  |none=>rfl
  |some v=>exact Ya v n n
def VV(i j:Nat):y9 (i:Int) (j:Int) 1=j-i:=by
 unfold y9
 have h1:(1:Int)>0:=by lia
 simp only[h1,ABH,Int.ediv_one]
 split<;>lia
def Oo{Q:vi Int->vw->Prop}(p:ACJ v o)(h:Q o s):wpAny (model prog w) A (Builtin.Slice.slicePartIndex v) Q E s:=by
 cases p with
 |none=>exact slicePart_none h
 |int i t=>exact slicePart_int h
def IV{lo hi:vi Int}{n:Nat}(hs:s.heap.IsSliceOf sl vl vu .none)(pl:ACJ vl lo)(pu:ACJ vu hi)(h:Q (((sIx n 0 lo:Nat):Int),1,sIx n n hi-sIx n 0 lo) s):wpAny (model prog w) A (ABW (.ref sl) (pure (n:Int))) Q E s:=by
 obtain⟨os,hos,hcs,hds⟩:=id hs
 unfold ABW Builtin.Slice.sliceFields
 refine vb (vb (yA hos hds (x:=vl) rfl (vb (yA hos hds (x:=vu) rfl (vb (yA hos hds (x:=.none) rfl (v9 ?_)))))))
 refine vb (slicePart_none ?_)
 show wpAny _ _ (if((1:Int)==0)=true then _ else _) _ _ s
 rw[wy (by decide)]
 refine vb (Oo pl (vb (Oo pu (vb (v9 ?_)))))
 show wpAny _ _ (match AAJ lo hi 1 (n:Int)with|(lo,hi)=>pure (lo,(1:Int),y9 lo hi 1)) _ _ s
 rw[VT lo hi n]
 show wpAny _ _ (pure (((sIx n 0 lo:Nat):Int),(1:Int),y9 ((sIx n 0 lo:Nat):Int) ((sIx n n hi:Nat):Int) 1)) _ _ s
 rw[VV]
 exact v9 h
def Z9(xs:AAn vm)(i k:Nat):((xI k).filterMap λ(m:Nat)=>xs[((i:Int)+(m:Int)*1).toNat]?).toArray=((xs.toList.drop i).take k).toArray:=by
 have e:(λ(m:Nat)=>xs[((i:Int)+(m:Int)*1).toNat]?)=λm=>xs[i+m]?:=by
  funext m
  have:((i:Int)+(m:Int)*1).toNat=i+m:=by lia
  rw[this]
 rw[e]
 have:=pick_run xs i k
 rw[List.filterMap_map]at this
 have e2:((λx=>xs[x]?)∘λx=>i+x)=λm=>xs[i+m]?:=rfl
 rw[e2]at this
 rw[this]
def Lf{lo hi:vi Int}(ht:IsTup s.heap t items)(hs:s.heap.IsSliceOf sl vl vu .none)(pl:ACJ vl lo)(pu:ACJ vu hi)(hw:¬(sIx items.size 0 lo=0/\sIx items.size items.size hi=items.size))(h:Q (.ref s.heap.objs.size) {s with heap:=s.heap.push {cls:=.type "tuple",data:=.seq ((items.toList.drop (sIx items.size 0 lo)).take (sIx items.size items.size hi-sIx items.size 0 lo)).toArray}})(hsz:items.size<=sizeLine):wpAny (model prog w) A (getItem (.ref t) (.ref sl)) Q E s:=by
 have htake:sizeOk (.seq ((items.toList.drop (sIx items.size 0 lo)).take (sIx items.size items.size hi-sIx items.size 0 lo)).toArray):=by
  show((items.toList.drop (sIx items.size 0 lo)).take (sIx items.size items.size hi-sIx items.size 0 lo)).toArray.size<=sizeLine
  rw[vv,zP,AAt,zO]
  exact va (AAs _ _) (va (Nat.sub_le _ _) hsz)
 have hj:sIx items.size items.size hi<=items.size:=lY _ _ (vf _) hi
 obtain⟨os,hos,hcs,hds⟩:=id hs
 have hTs:s.TypeIs (.ref sl) "slice":=⟨os,hos,hcs⟩
 unfold getItem
 try with_reducible refine xW ?_
 first|refine vb (v9 ?_)|skip
 refine vb (wpAny_sequenceKey ht.typeIs (by decide) ?_)
 refine vb (yL (name:=vY "__getitem__") ht.typeIs xC
  (ya xC ht.typeIs ADD ?_ (ADU _ _)))
 show wpAny _ _ (ABX (.ref t) >>= _) _ _ s
 refine vb (tupleItemsOf_ ht ?_)
 refine vb (wpAny_typeOf hTs ?_)
 rw[wU (by decide)]
 refine vb (IV hs pl pu ?_)
 have hno:¬((((sIx items.size 0 lo:Nat):Int)==0 && (1:Int)==1 && (sIx items.size items.size hi-sIx items.size 0 lo)==items.size)=true):=by
  intro q
  rw[vn,vn]at q
  have q1:((sIx items.size 0 lo:Nat):Int)=0:=eq_of_beq q.1.1
  have q2:sIx items.size items.size hi-sIx items.size 0 lo=items.size:=eq_of_beq q.2
  exact hw ⟨by lia,by lia⟩
 show wpAny _ _ (if(((sIx items.size 0 lo:Nat):Int)==0 && (1:Int)==1 && (sIx items.size items.size hi-sIx items.size 0 lo)==items.size)=true then _ else _) _ _ s
 rw[wy hno,Z9]
 first
  |exact vb (m:=zJ _) (yi (v9 ⟨_,rfl,v9 h⟩) htake)
  |exact vb (m:=zJ _) (yi (vb (v9 (v9 ⟨_,rfl,v9 h⟩))) htake)
  |exact vb (vb (m:=zJ _) (yi (v9 (v9 ⟨_,rfl,v9 h⟩)) htake))
  |exact vb (vb (m:=zJ _) (yi (v9 ⟨_,rfl,v9 h⟩) htake))
end
end HT
namespace L2
open PySem PySem.Spec PyProof.Rows
abbrev TO:=St->Hp->(vi Int->Hp->Prop)->Prop
def PO(X:Cx)(e:vi xM)(t:TO):Prop:=
 ∀(pins:Wp (vy×Obj)) (s:vw) (σ:St) (H:Hp) (Q:vi Int->Hp->Prop),Inv X pins σ H s->t σ H Q->
  wpAny (model X.prog X.w) X.A (evalPart e X.env) (λu s'=>∃o H',Inv X pins σ H' s'/\ACJ u o/\Q o H') X.xe s
noncomputable def gX:TO:=λ_ H Q=>Q none H
noncomputable def qw(t:TE):TO:=λσ H Q=>t σ H λx H1=>∃i,x=.int i/\Q (Gc i) H1
def intsAre_of{ns:Wp Int}:∀{us:Wp vm},Vals (ns.map V.int) us->AAN us ns:=by
 induction ns with
 |nil=>intro us r;rw[xQ]at r;cases r;exact .nil
 |cons n ns ih=>
  intro us r
  rw[v5]at r
  cases r with
  |cons r1 r2=>
   obtain⟨t,e⟩:=r1
   subst e
   exact .cons n t (ih r2)
section
variable{X:Cx}{e:xM}{te:TE}{lo hi:vi xM}{tl th:TO}{pos p2:Pos}
def Y0:PO X none gX:=by
 intro pins s σ H Q I h
 rw[ADN]
 exact v9 ⟨none,H,I,.none,h⟩
def NZ(h:PE X e te):PO X (Gc e) (qw te):=by
 intro pins s σ H Q I hw
 rw[evalPart_some]
 refine thn (h pins s σ H _ I hw) λu s1 z=>?_
 obtain⟨x,H1,I1,r1,q1⟩:=z
 obtain⟨i,rfl,q⟩:=q1
 obtain⟨t,rfl⟩:=r1
 exact⟨Gc i,H1,I1,.int i t,q⟩
def SlR(X:Cx)(r:V->vi Int->vi Int->Hp->VK->Prop):Prop:=
 ∀(pins:Wp (vy×Obj)) (s:vw) (σ:St) (H:Hp) (x:V) (v vl vu:vm) (lo hi:vi Int) (sl:vy) (Q:VK),Inv X pins σ H s->RelV x v->s.heap.IsSliceOf sl vl vu .none->ACJ vl lo->ACJ vu hi->r x lo hi H Q->
  ∃T id,typeLookup (.type T) "__getitem__"=pure (Gc (.builtin id))/\s.TypeIs v T/\wpAny (model X.prog X.w) X.A (getItem v (.ref sl)) (EP X pins σ Q) X.xe s
noncomputable def tSl(r:V->vi Int->vi Int->Hp->VK->Prop)(te:TE)(tl th:TO):TE:=λσ H Q=>te σ H λx H1=>tl σ H1 λl H2=>th σ H2 λu H3=>r x l u H3 Q
def QU{r:V->vi Int->vi Int->Hp->VK->Prop}(hr:SlR X r)(he:PE X e te)(hl:PO X lo tl)(hu:PO X hi th):PE X (.Subscript e (.Slice lo hi none p2) pos) (tSl r te tl th):=by
 intro pins s σ H Q I h
 refine Subscript_ (thn (he pins s σ H _ I h) λv s1 z=>?_)
 obtain⟨x,H1,I1,r1,q1⟩:=z
 refine wpAny_Slice (thn (hl pins s1 σ H1 _ I1 q1) λvl s2 ⟨l,H2,I2,pl,q2⟩=>thn (hu pins s2 σ H2 _ I2 q2) λvu s3 z=>?_)
 obtain⟨u,H3,I3,pu,q3⟩:=z
 rw[ADN]
 refine v9 ?_
 have I4:Inv X pins σ H3 {s3 with heap:=s3.heap.push {cls:=.type "slice",data:=.fields #[vl,vu,.none]}}:=I3.kept (t':=s3.toks) λb ob q=>vc _ q
 obtain⟨T,id,hT,ht,hg⟩:=hr pins {s3 with heap:=s3.heap.push {cls:=.type "slice",data:=.fields #[vl,vu,.none]}} σ H3 x v vl vu l u s3.heap.objs.size Q I4 r1 (ADV ..) pl pu q3
 show wpAny (model X.prog X.w) X.A (subscriptTail e (.Slice lo hi none p2) v (.ref s3.heap.objs.size)) (EP X pins σ Q) X.xe {s3 with heap:=s3.heap.push {cls:=.type "slice",data:=.fields #[vl,vu,.none]}}
 exact tail_any (ops:=[.ref s3.heap.objs.size,v]) ht hT hg (by with_unfolding_all rfl)
noncomputable def cK(xs:Wp V)(lo hi:vi Int):Wp V:=(xs.drop (HT.sIx xs.length 0 lo)).take (HT.sIx xs.length xs.length hi-HT.sIx xs.length 0 lo)
def NO(xs:Wp V)(lo hi:vi Int):(cK xs lo hi).length<=xs.length:=by
 unfold cK
 rw[zP,AAt]
 exact va (AAs _ _) (Nat.sub_le _ _)
def uE(K:vZ):V->vi Int->vi Int->Hp->VK->Prop:=λx lo hi H Q=>∃a xs,x=.ref a/\SqT K H a xs/\
 ¬(HT.sIx xs.length 0 lo=0/\HT.sIx xs.length xs.length hi=xs.length)/\∀p,H p=none->Q (.ref p) (upd H p (.tup (cK xs lo hi)))
def lJ:SlR X (uE X.K):=by
 intro pins s σ H x v vl vu lo hi sl Q I rx hs pl pu h
 obtain⟨a,xs,rfl,hx,hw,q⟩:=h
 cases rx
 obtain⟨its,r,ht,hz⟩:=I.tuple hx
 have hlen:its.toArray.size=xs.length:=by rw[vv];exact r.length.symm
 refine⟨"tuple",_,xC.lookup,ht.typeIs,?_⟩
 refine HT.Lf ht hs pl pu (by rw[hlen];exact hw) ?_ (by rw[hlen];exact hz)
 rw[hlen]
 refine⟨.ref s.heap.objs.size,_,I.laid (t':=s.toks) (o:=.tup (cK xs lo hi)) (λb ob q=>vc _ q) (vf _) ?_,rfl,q _ (I.hok.fresh (vf _))⟩
 exact⟨va (NO xs lo hi) hz,_,(r.drop (HT.sIx xs.length 0 lo)).take (HT.sIx xs.length xs.length hi-HT.sIx xs.length 0 lo),zU _ _⟩
noncomputable def qJ(K:vZ):R2:=λx y H Q=>∃a b xs ys,x=.ref a/\y=.ref b/\SqT K H a xs/\SqT K H b ys/\xs≠[]/\xs.length+ys.length<=sizeLine/\
 (ys=[]->Q (.ref a) H)/\(ys≠[]->∀p,H p=none->Q (.ref p) (upd H p (.tup (xs++ys))))
def Vals.QW{xs:Wp V}{us:Wp vm}(r:Vals xs us):us=[]↔xs=[]:=by
 cases r with
 |nil=>simp
 |cons _ _=>simp
def fV:OpR X (binaryOp .Add) (qJ X.K):=by
 intro pins s σ H x y v u Q I rx ry h
 obtain⟨a,b,xs,ys,rfl,rfl,ha,hb,hx,hz,q1,q2⟩:=h
 cases rx
 cases ry
 obtain⟨its,r1,p1,_⟩:=I.tuple ha
 obtain⟨its2,r2,p2,_⟩:=I.tuple hb
 refine HT.fO p1 p2 (λz=>hx (r1.QW.mp z)) (λz=>⟨.ref a,H,I,rfl,q1 (r2.QW.mp z)⟩) (λz=>?_) (by rw[<-r1.length,<-r2.length];exact hz)
 refine⟨.ref s.heap.objs.size,_,I.laid (t':=s.toks) (o:=.tup (xs++ys)) (λb ob q=>vc _ q) (vf _) ?_,rfl,q2 (λw=>z (r2.QW.mpr w)) _ (I.hok.fresh (vf _))⟩
 exact⟨by rw[wc];exact hz,_,r1.append r2,zU _ _⟩
end
end L2
namespace L2
open PySem PySem.Spec PyProof.Rows
noncomputable def ixN(n:Nat)(i:Int):vi Nat:=if 0<=i then(if i<n then Gc i.toNat else none)else if-(n:Int)<=i then Gc (i+n).toNat else none
noncomputable def atI{α:Type}(xs:Wp α)(i:Int):vi α:=(ixN xs.length i).bind λj=>xs[j]?
def YX{j:Nat}(h:ixN n i=Gc j):seqIndex? i n=Gc j/\j<n/\ -(n:Int)<=i/\i<n:=by
 unfold ixN at h
 by_cases h0:0<=i
 .rw[wU h0]at h
  by_cases h1:i<n
  .rw[wU h1]at h
   have e:i.toNat=j:=yI h
   exact⟨by rw[seqIndex_of h0 h1,e],by lia,by lia,h1⟩
  .rw[wy h1]at h;cases h
 .rw[wy h0]at h
  by_cases h1: -(n:Int)<=i
  .rw[wU h1]at h
   have e:(i+n).toNat=j:=yI h
   exact⟨by rw[seqIndex_neg (by lia) h1,e],by lia,h1,by lia⟩
  .rw[wy h1]at h;cases h
def Sq{v:α}(h:atI xs i=Gc v):∃j,seqIndex? i xs.length=Gc j/\xs[j]?=Gc v/\j<xs.length/\ -(xs.length:Int)<=i/\i<xs.length:=by
 unfold atI at h
 cases e:ixN xs.length i with
 |none=>rw[e]at h;cases h
 |some j=>
  rw[e]at h
  obtain⟨h1,h2,h3,h4⟩:=YX e
  exact⟨j,h1,h,h2,h3,h4⟩
def fR{j:Nat}{v:α}(h:xs[j]?=Gc v):atI xs (j:Int)=Gc v:=by
 have hj:j<xs.length:=(vt.mp h).1
 have e:ixN xs.length (j:Int)=Gc j:=by
  unfold ixN
  rw[wU (by lia),wU (by lia)];simp
 unfold atI;rw[e];exact h
def Pd{α:Type}(xs:Wp α)(v:α):atI (xs++[v]) (-1)=Gc v:=by
 have hl:(xs++[v]).length=xs.length+1:=by simp
 have e:ixN (xs++[v]).length (-1)=Gc xs.length:=by
  unfold ixN
  rw[hl,wy (by decide),wU (by lia)]
  congr 1
  lia
 unfold atI
 rw[e]
 show(xs++[v])[xs.length]?=Gc v
 simp
def Pj(b:xM):Prop:=∀o i,subscripted b false o i=operate [o,i] (getItem o i)
def IxR(X:Cx)(r:R2):Prop:=
 ∀(value slice:xM) (pins:Wp (vy×Obj)) (s:vw) (σ:St) (H:Hp) (x y:V) (v u:vm) (Q:VK),Inv X pins σ H s->RelV x v->RelV y u->r x y H Q->
  subscripted slice false v u=operate [v,u] (getItem v u)->wpAny (model X.prog X.w) X.A (subscriptTail value slice v u) (EP X pins σ Q) X.xe s
def MtR(X:Cx)(id:yo)(r:V->Wp V->Hp->VK->Prop):Prop:=
 ∀(pins:Wp (vy×Obj)) (s:vw) (σ:St) (H:Hp) (x:V) (xs:Wp V) (v:vm) (us:Wp vm) (Q:VK),Inv X pins σ H s->RelV x v->Vals xs us->r x xs H Q->
  wpAny (model X.prog X.w) X.A (call (.builtin id) (v::us)) (EP X pins σ Q) X.xe s
section
variable{X:Cx}{a b:xM}{ta tb:TE}{pos:Pos}
def iG{r:R2}(hr:IxR X r)(ha:PE X a ta)(hb:PE X b tb)(hs:Pj b):PE X (.Subscript a b pos) (tOp r ta tb):=by
 intro pins s σ H Q I h
 exact Subscript_ (oq ha hb I h λv u s2 x y H2 I2 rx ry q=>hr a b pins s2 σ H2 x y v u Q I2 rx ry q (hs _ _))
noncomputable def ux(K:vZ):R2:=λx y H Q=>∃p xs i v,x=.ref p/\y=.int i/\SqL K H p xs/\atI xs i=Gc v/\Q v H
noncomputable def ua(K:vZ):R2:=λx y H Q=>∃p xs i v,x=.ref p/\y=.int i/\SqT K H p xs/\atI xs i=Gc v/\Q v H
noncomputable def tM:R2:=λx y H Q=>∃z i c,x=.str z/\y=.int i/\z.length<=sizeLine/\atI z.cps.toList i=Gc c/\Q (.str ⟨#[c]⟩) H
def gP:IxR X (ux X.K):=by
 intro value slice pins s σ H x y v u Q I rx ry h hs
 obtain⟨p,xs,i,z,rfl,rfl,hq,he,q⟩:=h
 cases rx
 obtain⟨t,rfl⟩:=ry
 obtain⟨its,r,pl,hz⟩:=I.list hq
 obtain⟨j,h1,h2,h3,h4,h5⟩:=Sq he
 obtain⟨w,ew,rw'⟩:=r.get h2
 have hl:=r.length
 have hn:=PY
 have fin:EP X pins σ Q w s:=⟨z,H,I,rw',q⟩
 by_cases h0:0<=i
 .have hj:i.toNat=j:=by
   rw[seqIndex_of h0 h5]at h1
   exact yI h1
  exact item_listR pl.isList h0 (by lia) (by rw[hj];simpa using ew) fin hs
 .have hj:(i+(its.toArray.size:Int)).toNat=j:=by
   rw[seqIndex_neg (by lia) h4]at h1
   rw[vv,<-hl]
   exact yI h1
  exact ACK (x:=w) pl.isList.typeIs ABp.lookup
   (wpAny_getItem_list_neg (Q:=λr s'=>r=w/\EP X pins σ Q r s') pl.isList (by lia) (by rw[vv]<;>lia) (by lia) (by rw[hj];simpa using ew) ⟨rfl,fin⟩) hs
def kF:IxR X (ua X.K):=by
 intro value slice pins s σ H x y v u Q I rx ry h hs
 obtain⟨p,xs,i,z,rfl,rfl,hq,he,q⟩:=h
 cases rx
 obtain⟨t,rfl⟩:=ry
 obtain⟨its,r,pl,hz⟩:=I.tuple hq
 obtain⟨j,h1,h2,h3,h4,h5⟩:=Sq he
 obtain⟨w,ew,rw'⟩:=r.get h2
 have hl:=r.length
 have hn:=PY
 have fin:EP X pins σ Q w s:=⟨z,H,I,rw',q⟩
 exact ACK (x:=w) pl.typeIs xC.lookup
  (getItem_tuple (j:=j) (Q:=λr s'=>r=w/\EP X pins σ Q r s') pl (by lia) (by lia) (by rw[vv,<-hl];exact h1) (by simpa using ew) ⟨rfl,fin⟩) hs
def lO:IxR X tM:=by
 intro value slice pins s σ H x y v u Q I rx ry h hs
 obtain⟨z,i,c,rfl,rfl,hz,he,q⟩:=h
 obtain⟨t,rfl⟩:=rx
 obtain⟨t',rfl⟩:=ry
 obtain⟨j,h1,h2,h3,h4,h5⟩:=Sq he
 have hl:z.cps.toList.length=z.length:=by simp[z8]
 rw[hl]at h1 h4 h5
 have hn:=PY
 exact tail_any (zc s z t) slot_str_getitem.lookup (getItem_str (c:=c) (by
  have e1:decide (i< -(2^63:Int))=false:=yQ (by lia)
  have e2:decide (i≥2^63)=false:=yQ (by lia)
  rw[e1,e2,Bool.or_false]) (by rw[h1];simpa using h2) ⟨.str ⟨#[c]⟩,H,I.tok _,⟨_,rfl⟩,q⟩) hs
def Va(its:Wp vm) n j(u:vm):ABY (·.setIfInBounds j u) {cls:=.type "list",data:=.seq its.toArray n}={cls:=.type "list",data:=.seq (its.set j u).toArray n}:=by
 simp[ABY]
def Inv.lst{σ:St}(I:Inv X pins σ H s)(h:H p=Gc (.lst xs)):∃(its:Wp vm) (n:Nat),Vals xs its/\s.heap.get? p=Gc {cls:=.type "list",data:=.seq its.toArray n}/\xs.length<=sizeLine:=by
 obtain⟨z,its,n,r,e⟩:=I.hok p _ h
 exact⟨its,n,r,e,z⟩
def Inv.kS{σ:St}{its its':Wp vm}(I:Inv X pins σ H s)(h:H p=Gc (.lst xs))(ho:s.heap.get? p=Gc {cls:=.type "list",data:=.seq its.toArray n})(hf:f {cls:=.type "list",data:=.seq its.toArray n}={cls:=.type "list",data:=.seq its'.toArray n'})(r:Vals ys its')(hz:ys.length<=sizeLine)(t:Nat):Inv X pins σ (upd H p (.lst ys)) {s with heap:=s.heap.update p f,toks:=t}:=by
 have e:(s.heap.update p f).get? p=Gc {cls:=.type "list",data:=.seq its'.toArray n'}:=by
  rw[yW f ho (by rw[hf]<;>rfl),hf]
 refine I.write (x:=p) (e:=p) (by rw[h];trivial) (.inl rfl) (λb u hb q=>(xj _ _ (xv hb)).trans q) ⟨_,e⟩ ?_
 exact⟨hz,its',n',r,e⟩
def qm:V->V->V->Hp->(Hp->Prop)->Prop:=λo i v H Q=>∃p xs k j,o=.ref p/\i=.int k/\H p=Gc (.lst xs)/\ixN xs.length k=Gc j/\Q (upd H p (.lst (xs.set j v)))
def set_list:sT X qm:=by
 intro pins s σ H o i v ov iv u Q I ro ri rv h
 obtain⟨p,xs,k,j,rfl,rfl,hp,hj,q⟩:=h
 cases ro
 obtain⟨t,rfl⟩:=ri
 obtain⟨its,n,r,ho,hz⟩:=I.lst hp
 obtain⟨h1,h2,h3,h4⟩:=YX hj
 have hl:=r.length
 have hn:=PY
 have I':Inv X pins σ (upd H p (.lst (xs.set j v))) {s with heap:=s.heap.update p (ABY (·.setIfInBounds j u))}:=
  I.kS hp ho (Va its n j u) (r.set rv j) (by rw[yR];exact hz) s.toks
 by_cases h0:0<=k
 .have hk:k.toNat=j:=by
   rw[seqIndex_of h0 h4]at h1
   exact yI h1
  exact PySem.W.ki_setAt ho h0 (by lia) (by rw[vv,<-hl];exact h4) (by rw[hk];exact⟨_,I',q⟩)
 .have hk:(k+(its.toArray.size:Int)).toNat=j:=by
   rw[seqIndex_neg (by lia) h3]at h1
   rw[vv,<-hl]
   exact yI h1
  exact PySem.W.ki_setBack ho (by lia) (by rw[vv,<-hl];exact h3) (by lia) (by rw[hk];exact⟨_,I',q⟩)
def Q8(lo hi:vi Int)(n:Nat):(sliceBounds lo hi none n).1=((HT.sIx n 0 lo:Nat):Int)/\(sliceBounds lo hi none n).2.1=((HT.sIx n n hi:Nat):Int)/\(sliceBounds lo hi none n).2.2=1:=by
 refine⟨?_,?_,rfl⟩
 .cases lo with
  |none=>simp[sliceBounds,HT.sIx]
  |some i=>
   simp only[sliceBounds,HT.sIx,Option.getD_none,show(1:Int)>0 by decide,ABH]
   by_cases h:i<0
   .simp only[h,ABH];rw[ACd (ABZ (by rw[ACL];exact zd h)),Int.max_comm,ACf]
   .simp only[h,AAe];rw[HT.Qd i n h,Int.max_eq_right (ADW _)]
 .cases hi with
  |none=>simp[sliceBounds,HT.sIx]
  |some i=>
   simp only[sliceBounds,HT.sIx,Option.getD_none,show(1:Int)>0 by decide,ABH]
   by_cases h:i<0
   .simp only[h,ABH];rw[ACd (ABZ (by rw[ACL];exact zd h)),Int.max_comm,ACf]
   .simp only[h,AAe];rw[HT.Qd i n h,Int.max_eq_right (ADW _)]
def Pl(its:Wp vm)(lo hi:vi Int):slicePick its.toArray lo hi none=((its.drop (HT.sIx its.length 0 lo)).take (HT.sIx its.length its.length hi-HT.sIx its.length 0 lo)).toArray:=by
 obtain⟨h1,h2,h3⟩:=Q8 lo hi its.toArray.size
 unfold slicePick
 rw[h1,h2,h3]
 simp only[sliceRange_one,pick_run,vv]<;>rfl
def uk(K:vZ):V->vi Int->vi Int->Hp->VK->Prop:=λx lo hi H Q=>∃a xs,x=.ref a/\SqL K H a xs/\∀p,H p=none->Q (.ref p) (upd H p (.lst (cK xs lo hi)))
def eT:SlR X (uk X.K):=by
 intro pins s σ H x v vl vu lo hi sl Q I rx hs pl pu h
 obtain⟨a,xs,rfl,hx,q⟩:=h
 cases rx
 obtain⟨its,r,ht,hz⟩:=I.list hx
 have hlen:=r.length
 refine⟨"list",_,ABp.lookup,ht.isList.typeIs,?_⟩
 refine ABw ht.isList hs pl pu .none (by simp) ?_ (by rw[vv]<;>lia)
 rw[Pl,<-hlen]
 refine⟨.ref s.heap.objs.size,_,I.laid (t':=s.toks) (o:=.lst (cK xs lo hi)) (λb ob q=>vc _ q) (vf _) ?_,rfl,q _ (I.hok.fresh (vf _))⟩
 exact⟨va (NO xs lo hi) hz,_,0,(r.drop (HT.sIx xs.length 0 lo)).take (HT.sIx xs.length xs.length hi-HT.sIx xs.length 0 lo),wI _ rfl⟩
noncomputable def NN:V->xD
 | .non=>true
 | .bl _=>true
 | .int _=>true
 | .str _=>true
 |_=>false
noncomputable def eqV:V->V->xD
 | .non,.non=>true
 | .bl a,.bl b=>a==b
 | .bl a,.int b=>(if a then 1 else 0)==b
 | .int a,.bl b=>a==(if b then 1 else 0)
 | .int a,.int b=>a==b
 | .str a,.str b=>a==b
 |_,_=>false
def j7{u v:vm}(ry:RelV y u)(rx:RelV x v)(fy:NN y=true)(fx:NN x=true):SeqAt.EqAt A s u v (eqV y x):=by
 cases y with
 |non=>
  cases ry
  cases x with
  |non=>cases rx;exact SeqAt.EqAt.same _
  |bl b=>cases rx;exact SeqAt.EqAt.none_bool b
  |int b=>obtain⟨t,rfl⟩:=rx;exact SeqAt.EqAt.none_int b t
  |str b=>obtain⟨t,rfl⟩:=rx;exact SeqAt.EqAt.none_str b t
  |_=>exact absurd (show false=true from fx) wu
 |bl a=>
  cases ry
  cases x with
  |non=>cases rx;exact SeqAt.EqAt.bool_none a
  |bl b=>cases rx;exact SeqAt.EqAt.bool_bool a b
  |int b=>obtain⟨t,rfl⟩:=rx;exact SeqAt.EqAt.bool_int a b t
  |str b=>obtain⟨t,rfl⟩:=rx;exact SeqAt.EqAt.bool_str a b t
  |_=>exact absurd (show false=true from fx) wu
 |int a=>
  obtain⟨t',rfl⟩:=ry
  cases x with
  |non=>cases rx;exact SeqAt.EqAt.int_none a t'
  |bl b=>cases rx;exact SeqAt.EqAt.int_bool a t' b
  |int b=>obtain⟨t,rfl⟩:=rx;exact SeqAt.EqAt.int_int a t' b t
  |str b=>obtain⟨t,rfl⟩:=rx;exact ADP a t' b t
  |_=>exact absurd (show false=true from fx) wu
 |str a=>
  obtain⟨t',rfl⟩:=ry
  cases x with
  |non=>cases rx;exact SeqAt.EqAt.str_none a t'
  |bl b=>cases rx;exact SeqAt.EqAt.str_bool a t' b
  |int b=>obtain⟨t,rfl⟩:=rx;exact ADQ a t' b t
  |str b=>obtain⟨t,rfl⟩:=rx;exact SeqAt.EqAt.str_str a t' b t
  |_=>exact absurd (show false=true from fx) wu
 |_=>exact absurd (show false=true from fy) wu
noncomputable def eqU(x:V)(u:vm):xD:=match u with
 | .none=>eqV .non x
 | .bool b=>eqV (.bl b) x
 | .int i _=>eqV (.int i) x
 | .str z _=>eqV (.str z) x
 |_=>false
def dS{x y:V}{u:vm}(r:RelV y u)(f:NN y=true):eqU x u=eqV y x:=by
 cases y with
 |non=>cases r;rfl
 |bl b=>cases r;rfl
 |int i=>obtain⟨t,rfl⟩:=r;rfl
 |str z=>obtain⟨t,rfl⟩:=r;rfl
 |_=>exact absurd (show false=true from f) wu
theorem Np:∀{xs} {us:Wp vm},Vals xs us->xs.all NN=true->us.any (eqU x)=xs.any λy=>eqV y x
 |_,_,.nil,_=>rfl
 |y::xs,u::us,.cons r t,f=>by
  rw[AAO,vn]at f
  rw[AAP,AAP,dS r f.1,Np t f.2]
theorem K3(rx:RelV x v)(fx:NN x=true):∀{xs} {us:Wp vm},Vals xs us->xs.all NN=true->∀u∈us,SeqAt.EqAt A s u v (eqU x u)
 |_,_,.nil,_=>λu hu=>by cases hu
 |y::xs,u::us,.cons r t,f=>λu' hu=>by
  rw[AAO,vn]at f
  rcases ve.mp hu with rfl|hu
  .rw[dS r f.1];exact j7 r rx f.1 fx
  .exact K3 rx fx t f.2 u' hu
noncomputable def inV(x:V)(xs:Wp V):xD:=xs.any λy=>eqV y x
noncomputable def rIn(K:vZ)(neg:xD):R2:=λx y H Q=>∃p xs,y=.ref p/\(SqL K H p xs\/SqT K H p xs)/\NN x=true/\xs.all NN=true/\Q (.bl (if neg then !inV x xs else inV x xs)) H
def X8:OpR X (compareOp .In) (rIn X.K false):=by
 intro pins s σ H x y v u Q I rx ry h
 obtain⟨p,xs,rfl,hq,fx,fs,q⟩:=h
 cases ry
 rcases hq with hq|hq
 .obtain⟨its,r,pl,hz⟩:=I.list hq
  refine SeqAt.in_listAt (eqU x) pl.isList (λw hw=>K3 rx fx r fs w (by simpa using hw)) ⟨.bl _,H,I,rfl,?_⟩
  rw[show its.toArray.any (eqU x)=its.any (eqU x) by simp,Np r fs]
  exact q
 .obtain⟨its,r,pl,hz⟩:=I.tuple hq
  refine SeqAt.in_tupleAt (eqU x) pl (λw hw=>K3 rx fx r fs w (by simpa using hw)) ⟨.bl _,H,I,rfl,?_⟩
  rw[show its.toArray.any (eqU x)=its.any (eqU x) by simp,Np r fs]
  exact q
def Rv:OpR X (compareOp .NotIn) (rIn X.K true):=by
 intro pins s σ H x y v u Q I rx ry h
 obtain⟨p,xs,rfl,hq,fx,fs,q⟩:=h
 cases ry
 rcases hq with hq|hq
 .obtain⟨its,r,pl,hz⟩:=I.list hq
  refine SeqAt.notIn_listAt (eqU x) pl.isList (λw hw=>K3 rx fx r fs w (by simpa using hw)) ⟨.bl _,H,I,rfl,?_⟩
  rw[show its.toArray.any (eqU x)=its.any (eqU x) by simp,Np r fs]
  exact q
 .obtain⟨its,r,pl,hz⟩:=I.tuple hq
  refine SeqAt.notIn_tupleAt (eqU x) pl (λw hw=>K3 rx fx r fs w (by simpa using hw)) ⟨.bl _,H,I,rfl,?_⟩
  rw[show its.toArray.any (eqU x)=its.any (eqU x) by simp,Np r fs]
  exact q
def Rr:Cv X (.builtin "len") (λxs H Q=>∃p ys,xs=[.ref p]/\(SqL X.K H p ys\/SqT X.K H p ys)/\Q (.int ys.length) H):=by
 intro pins s σ H xs us Q I r h
 obtain⟨p,ys,rfl,hq,q⟩:=h
 obtain⟨u,rfl,rx⟩:=vals1 r
 cases rx
 have hn:=PY
 rcases hq with hq|hq
 .obtain⟨its,r',pl,hz⟩:=I.list hq
  have hlen:=r'.length
  exact Calls.call_len_list pl.isList (by simp only[vv]<;>lia) ⟨.int ys.length,H,I.tok _,⟨s.toks+1,by rw[vv,hlen]⟩,q⟩
 .obtain⟨its,r',pl,hz⟩:=I.tuple hq
  have hlen:=r'.length
  exact len_tuple pl (by simp only[vv]<;>lia) ⟨.int ys.length,H,I.tok _,⟨s.toks+1,by rw[vv,hlen]⟩,q⟩
def Rl:Cv X (.builtin "len") (λxs H Q=>∃z,xs=[.str z]/\z.length<=sizeLine/\Q (.int z.length) H):=by
 intro pins s σ H xs us Q I r h
 obtain⟨z,rfl,hz,q⟩:=h
 obtain⟨u,rfl,t,rfl⟩:=vals1 r
 have hn:=PY
 exact len_str (by lia) ⟨.int z.length,H,I.tok _,⟨_,rfl⟩,q⟩
def Rc:Cv X (.type "list") (λxs H Q=>∃p ys,xs=[.ref p]/\(SqL X.K H p ys\/SqT X.K H p ys)/\∀l,H l=none->Q (.ref l) (upd H l (.lst ys))):=by
 intro pins s σ H xs us Q I r h
 obtain⟨p,ys,rfl,hq,q⟩:=h
 obtain⟨u,rfl,rx⟩:=vals1 r
 cases rx
 have fin:∀(its:Wp vm),Vals ys its->ys.length<=sizeLine->∀(h':xZ) (c':Nat),(∀b o',s.heap.get? b=Gc o'->h'.get? b=Gc o')->
   h'.get? s.heap.objs.size=Gc {cls:=.type "list",dict:=none,data:=.seq its.toArray c',slots:= #[]}->EP X pins σ Q (.ref s.heap.objs.size) {s with heap:=h'}:=λits r' hz h' c' kp e=>
  ⟨.ref s.heap.objs.size,_,I.laid (t':=s.toks) kp (vf _) (show EO X.prog X.w _ h' _ (.lst ys)from⟨hz,its,c',r',e⟩),rfl,q _ (I.hok.fresh (vf _))⟩
 rcases hq with hq|hq
 .obtain⟨its,r',pl,hz⟩:=I.list hq
  have hlen:=r'.length
  obtain⟨o,ho,hc,n,hd⟩:=pl.isList
  exact call_list_seq p (.inl rfl) ho hc hd (λh' c' kp e=>fin its r' hz h' c' kp e) (by simp only[vv]<;>lia)
 .obtain⟨its,r',pl,hz⟩:=I.tuple hq
  have hlen:=r'.length
  obtain⟨o,ho,hc,n,hd⟩:=pl
  exact call_list_seq p (.inr rfl) ho hc hd (λh' c' kp e=>fin its r' hz h' c' kp e) (by simp only[vv]<;>lia)
def QL:Cv X (.type "tuple") (λxs H Q=>∃p ys,xs=[.ref p]/\((SqL X.K H p ys/\∀l,H l=none->Q (.ref l) (upd H l (.tup ys)))\/(SqT X.K H p ys/\Q (.ref p) H))):=by
 intro pins s σ H xs us Q I r h
 obtain⟨p,ys,rfl,h⟩:=h
 obtain⟨u,rfl,rx⟩:=vals1 r
 cases rx
 rcases h with⟨hq,q⟩|⟨hq,q⟩
 .obtain⟨its,r',pl,hz⟩:=I.list hq
  have hlen:=r'.length
  refine call_tuple_list pl.isList (λh' kp=>?_) (by simp only[vv]<;>lia)
  have I1:Inv X pins σ H {s with heap:=h'}:=I.kept (t':=s.toks) kp
  have I2:Inv X pins σ (upd H h'.objs.size (.tup ys)) {s with heap:=h'.push {cls:=.type "tuple",data:=.seq its.toArray}}:=
   I1.laid (t':=s.toks) (λb o e=>vc _ e) (vf _) (show EO X.prog X.w _ _ _ (.tup ys)from⟨hz,its,r',zU _ _⟩)
  exact⟨.ref h'.objs.size,_,I2,rfl,q _ (I1.hok.fresh (vf _))⟩
 .obtain⟨its,r',pl,hz⟩:=I.tuple hq
  exact call_tuple_same pl ⟨.ref p,H,I,rfl,q⟩
def tyV(K:vZ)(T:yo)(x:V)(H:Hp):Prop:=match x with
 | .str _=>T="str"
 | .int _=>T="int"
 | .ref p=>(T="list" /\∃xs,SqL K H p xs)\/(T="tuple" /\∃o,K.lookup p=Gc o/\o.cls=.type "tuple" /\o.dict=none)∨ (T="dict" /\((∃kvs,H p=Gc (.dK kvs))\/∃kvs,H p=Gc (.dT kvs)))\/(T="set" /\∃S n,H p=Gc (.set S n))
 |_=>yV
def cF{σ:St}(I:Inv X pins σ H s)(r:RelV x v)(ty:tyV X.K T x H):s.TypeIs v T/\∀a,v=.ref a->∃ob,s.heap.get? a=Gc ob/\ob.dict=none:=by
 cases x with
 |str z=>
  obtain⟨t,rfl⟩:=r
  cases (show T="str" from ty)
  exact⟨zc s z t,λ_ e=>nomatch e⟩
 |int i=>
  obtain⟨t,rfl⟩:=r
  cases (show T="int" from ty)
  exact⟨AAu s i t,λ_ e=>nomatch e⟩
 |ref p=>
  cases r
  rcases ty with⟨rfl,xs,hq⟩|⟨rfl,o,hk,hc,hd⟩|⟨rfl,hk⟩|⟨rfl,S,n,hk⟩
  .obtain⟨its,_,pl,_⟩:=I.list hq
   refine⟨pl.isList.typeIs,λa e=>?_⟩
   cases e
   obtain⟨o,n,e,c,hd,_⟩:=pl
   exact⟨o,e,hd⟩
  .refine⟨⟨o,I.kIn p o hk,hc⟩,λa e=>?_⟩
   cases e
   exact⟨o,I.kIn _ o hk,hd⟩
  .have z:∃o,s.heap.get? p=Gc o/\o.ExactDict:=by
    rcases hk with⟨kvs,hk⟩|⟨kvs,hk⟩
    .obtain⟨_,_,_,_,o,_,_,e,ex,_⟩:=I.hok p _ hk
     exact⟨o,e,ex⟩
    .obtain⟨_,_,_,_,o,_,_,e,ex,_⟩:=I.hok p _ hk
     exact⟨o,e,ex⟩
   obtain⟨o,e,ex⟩:=z
   refine⟨⟨o,e,ex.1⟩,λa e2=>?_⟩
   cases e2
   exact⟨o,e,ex.2.1⟩
  .obtain⟨o,_,_,_,e,ex,_⟩:=I.hok p _ hk
   refine⟨⟨o,e,ex.1⟩,λa e2=>?_⟩
   cases e2
   exact⟨o,e,ex.2.1⟩
 |_=>exact yk ty
noncomputable def so(K:vZ)(T:yo)(r:V->Wp V->Hp->VK->Prop)(to:TE):TE:=λσ H Q=>to σ H λx H1=>tyV K T x H1/\r x [] H1 Q
noncomputable def tBM(K:vZ)(T:yo)(r:V->Wp V->Hp->VK->Prop)(to:TE)(t:TA):TE:=λσ H Q=>to σ H λx H1=>tyV K T x H1/\t σ H1 λxs H2=>r x xs H2 Q
variable{o e:xM}{es:Wp xM}{to:TE}{t:TA}{name:Str}{apos cpos:Pos}{T id:yo}{r:V->Wp V->Hp->VK->Prop}
def kq(pa:PlainAttrs T)(slot:Slot T name id)(hty:typeOf (.builtin id)=pure (.type "method_descriptor"))(hm:MtR X id r)(ho:PE X o to)(hbase:xz (attributeBase o name X.env (eval o X.env)=eval o X.env) wp)(hline:xz ((apos.endLine==cpos.line)=true) wp):PE X (.Call (.Attribute o name apos) [] [] cpos) (so X.K T r to):=by
 intro pins s σ H Q I h
 refine wpAny_Call_method0_late hbase hline (thn (ho pins s σ H _ I h) λv s1 z=>?_)
 obtain⟨x,H1,I1,r1,ty,q1⟩:=z
 obtain⟨h1,h2⟩:=cF I1 r1 ty
 exact⟨T,id,pa,slot,hty,h1,h2,ACN rfl (PySem.evalArgs_none (hm pins s1 σ H1 x [] v [] Q I1 r1 .nil q1))⟩
def jy(pa:PlainAttrs T)(slot:Slot T name id)(hty:typeOf (.builtin id)=pure (.type "method_descriptor"))(hm:MtR X id r)(ho:PE X o to)(ha:PA X (e::es) t)(hbase:xz (attributeBase o name X.env (eval o X.env)=eval o X.env) wp)(hfew:xz (((backTo cpos (wD (e::es) X.env)).all (λx=> !x.1) && (backToKw cpos (keywordEach [] X.env)).all (λx=>x.1.isSome) && decide ((e::es).length+([]:Wp AAz).length+(if([]:Wp AAz).isEmpty then 0 else 1)<30))=true) wp)(hline:xz ((apos.endLine==cpos.line)=true) wp)(hs:xz (wD (e::es) X.env=(false,eval e X.env)::wD es X.env) wp)(hplain:xz ((backTo cpos (wD es X.env)).any (·.1)=false) wp):PE X (.Call (.Attribute o name apos) (e::es) [] cpos) (tBM X.K T r to t):=by
 intro pins s σ H Q I h
 refine wpAny_Call_method_late hbase hfew hline rfl (thn (ho pins s σ H _ I h) λv s1 z=>?_)
 obtain⟨x,H1,I1,r1,ty,q1⟩:=z
 obtain⟨h1,h2⟩:=cF I1 r1 ty
 refine⟨T,id,pa,slot,hty,h1,h2,?_⟩
 have hA:=ha cpos pins s1 σ H1 _ I1 q1
 rw[hs]at hA⊢
 refine ACN (by show(false||(backTo cpos (wD es X.env)).any (·.1))=false;rw[hplain]<;>rfl) (ACr ?_)
 exact thn hA λus s2 ⟨vs,H2,I2,r2,q2⟩=>hm pins s2 σ H2 x vs v us Q I2 r1 r2 q2
end
end L2
namespace L2
open PySem PySem.Spec PyProof.Rows
def MtM(X:Cx)(id:yo)(r:V->Wp V->Hp->VK->Prop):Prop:=
 ∀(pins:Wp (vy×Obj)) (s:vw) (σ:St) (H:Hp) (x:V) (xs:Wp V) (v:vm) (us:Wp vm) (Q:VK),Inv X pins σ H s->RelV x v->Vals xs us->r x xs H Q->
  wpAny (model X.prog X.w) X.A (call (.builtin id) (v::us)) (EP X pins σ Q) X.xe s
def Vals.one:∀{x:V} {us:Wp vm},Vals [x] us->∃u,us=[u]/\RelV x u:=λh=>by
 cases h with
 |cons r t=>cases t;exact⟨_,rfl,r⟩
def Vals.two:∀{x y:V} {us:Wp vm},Vals [x,y] us->∃u v,us=[u,v]/\RelV x u/\RelV y v:=λh=>by
 cases h with
 |cons r t=>
  cases t with
  |cons q t=>cases t;exact⟨_,_,rfl,r,q⟩
theorem Vals.rep(h:Vals xs us):∀k:Nat,Vals (wB k xs).flatten (wB k us).flatten
 |0=>.nil
 |k+1=>by
  rw[x9,x9,zD,zD]
  exact Vals.append h (Vals.rep h k)
theorem foldl_rep its:∀k (acc:Wp vm),ACO (λx1 x2=>x1++x2) acc.toArray (wB k its.toArray)=(acc++(wB k its).flatten).toArray
 |0,acc=>by simp
 |k+1,acc=>by
  have e:acc.toArray++its.toArray=(acc++its).toArray:=by simp
  have e2:(acc++its)++(wB k its).flatten=acc++(wB (k+1) its).flatten:=by
   rw[x9,zD,zE]
  rw[<-e2,<-foldl_rep its k (acc++its),<-e,x9,List.foldl_cons]
section
variable{X:Cx}{pins:Wp (vy×Obj)}{σ:St}{H:Hp}{s:vw}{l b:vy}{xs ys zs:Wp V}
def Inv.qK{its its':Wp vm}{t':Nat}(I:Inv X pins σ H s)(hH:H l=Gc (.lst xs))(e:s.heap.get? l=Gc {cls:=.type "list",data:=.seq its.toArray n})(hf:f its.toArray=its'.toArray)(hv:Vals ys its')(hz:ys.length<=sizeLine):Inv X pins σ (upd H l (.lst ys)) {s with heap:=s.heap.update l (ABY f),toks:=t'}:=by
 have q:=PySem.IsL.update e f
 rw[hf]at q
 refine I.write (x:=l) (e:=l) (by rw[hH];exact trivial) (.inl rfl) (λb' u hb hu=>(xj s.heap (ABY f) (xv hb)).trans hu) ⟨_,q⟩ ?_
 exact⟨hz,its',_,hv,q⟩
def Inv.ij{its:Wp vm}{t':Nat}(I:Inv X pins σ H s)(hv:Vals ys its)(hz:ys.length<=sizeLine):Inv X pins σ (upd H s.heap.objs.size (.lst ys)) {s with heap:=s.heap.push {cls:=.type "list",data:=.seq its.toArray},toks:=t'}:=
 I.laid (λ_ _ q=>vc _ q) (vf _) ⟨hz,its,0,hv,wI _ rfl⟩
def Inv.fresh(I:Inv X pins σ H s):H s.heap.objs.size=none:=I.hok.fresh (vf _)
def Inv.aT(I:Inv X pins σ H s)(hH:H l=Gc (.lst xs)):xs.length<=sizeLine/\∃(its:Wp vm) (n:Nat),Vals xs its/\xs.length=its.length/\s.heap.get? l=Gc {cls:=.type "list",data:=.seq its.toArray n}:=by
 obtain⟨z,its,n,r,e⟩:=I.hok l _ hH
 exact⟨z,its,n,r,r.length,e⟩
def Pa{n:Nat}(h:n<=sizeLine):yF n=false:=by
 unfold yF
 exact yQ (by lia)
end
section
variable{X:Cx}
def dk:V->Wp V->Hp->VK->Prop:=λx vs H Q=>∃l xs y,x=.ref l/\vs=[y]/\H l=Gc (.lst xs)/\xs.length<sizeLine/\Q .non (upd H l (.lst (xs++[y])))
def Qq:MtM X "list.append" dk:=by
 intro pins s σ H x vs v us Q I rx rv h
 obtain⟨l,xs,y,rfl,rfl,hH,hz,q⟩:=h
 cases rx
 obtain⟨u,rfl,ru⟩:=rv.one
 obtain⟨z,its,n,r,hl,e⟩:=I.aT hH
 refine zK AAf ⟨_,e,rfl⟩ F.entry_list_append (F.args_list_append_2 _ _) (PySem.list_append l its.toArray n u (by rw[vv];lia)) ⟨e,?_⟩
 refine⟨.non,_,I.qK (its':=its++[u]) hH e (by simp) (r.append (.cons ru .nil)) ?_,rfl,q⟩
 rw[wc,ACm]
 lia
def fN:V->Wp V->Hp->VK->Prop:=λx vs H Q=>∃l b xs zs,x=.ref l/\vs=[.ref b]/\H l=Gc (.lst xs)/\H b=Gc (.lst zs)/\xs.length+zs.length<=sizeLine/\Q .non (upd H l (.lst (xs++zs)))
def YO:MtM X "list.extend" fN:=by
 intro pins s σ H x vs v us Q I rx rv h
 obtain⟨l,b,xs,zs,rfl,rfl,hH,hB,hz,q⟩:=h
 cases rx
 obtain⟨u,rfl,ru⟩:=rv.one
 cases ru
 obtain⟨z,its,n,r,hl,e⟩:=I.aT hH
 obtain⟨z2,its2,n2,r2,hl2,e2⟩:=I.aT hB
 have hsz:its.toArray.size+its2.toArray.size<=sizeLine:=by rw[vv,vv];lia
 have hlong:¬(!its.toArray.isEmpty && yF (its.toArray.size+its2.toArray.size))=true:=by
  rw[Pa hsz,Bool.and_false]
  exact wu
 refine zK ADX ⟨_,e,rfl⟩ ADE (ACs _ _)
  (AutoSeq1.list_extend_list_list_0 l its.toArray n b its2.toArray n2 hlong (by rw[vv];lia) (by lia)) ⟨e,e2,?_⟩
 refine⟨.non,_,I.qK (its':=its++its2) hH e (by simp) (r.append r2) ?_,rfl,q⟩
 rw[wc]
 lia
noncomputable def uO:R2:=λx y H Q=>∃l b xs zs,x=.ref l/\y=.ref b/\H l=Gc (.lst xs)/\H b=Gc (.lst zs)/\xs.length+zs.length<=sizeLine/\∀p,H p=none->Q (.ref p) (upd H p (.lst (xs++zs)))
def lU:OpR X (binaryOp .Add) uO:=by
 intro pins s σ H x y v u Q I rx ry h
 obtain⟨l,b,xs,zs,rfl,rfl,hH,hB,hz,q⟩:=h
 cases rx
 cases ry
 obtain⟨z,its,n,r,hl,e⟩:=I.aT hH
 obtain⟨z2,its2,n2,r2,hl2,e2⟩:=I.aT hB
 refine PySem.P.add_list e e2 ?_ (by rw[vv,vv];lia)
 have ea:its.toArray++its2.toArray=(its++its2).toArray:=by simp
 rw[ea]
 exact⟨.ref _,_,I.ij (t':=s.toks) (r.append r2) (by rw[wc];lia),rfl,q _ I.fresh⟩
noncomputable def tL:R2:=λx y H Q=>∃l k xs,x=.ref l/\y=.int k/\H l=Gc (.lst xs)/\ -(2^63)<=k/\k<2^63/\xs.length*k.toNat<=sizeLine/\
 ∀p,H p=none->Q (.ref p) (upd H p (.lst (wB k.toNat xs).flatten))
def len_rep{α:Type}(xs:Wp α)(k:Nat):(wB k xs).flatten.length=k*xs.length:=by
 induction k with
 |zero=>simp
 |succ k ih=>rw[x9,zD,wc,ih,Nat.succ_mul,ACP]
def mT:OpR X (binaryOp .Mult) tL:=by
 intro pins s σ H x y v u Q I rx ry h
 obtain⟨l,k,xs,rfl,rfl,hH,h1,h2,hz,q⟩:=h
 cases rx
 obtain⟨t,rfl⟩:=ry
 obtain⟨z,its,n,r,hl,e⟩:=I.aT hH
 have hlen:its.toArray.size*k.toNat<=sizeLine:=by rw[vv,<-hl];exact hz
 have hcap:¬its.toArray.size*k.toNat>(2^63-1) / 8:=by
  have:(sizeLine:Nat)<=(2^63-1) / 8:=by decide
  lia
 have hfit:¬(!Builtin.List.listFitsIndex k)=true:=by
  rw[fitsIndex_both h1 h2]
  exact wu
 have hlong:¬yF (its.toArray.size*k.toNat)=true:=by
  rw[Pa hlen]
  exact wu
 have hnew:ACO (λx1 x2=>x1++x2) #[] (wB (if its.toArray.isEmpty=true then 0 else k.toNat) its.toArray)=(wB k.toNat its).flatten.toArray:=by
  have f0:∀m:Nat,ACO (λx1 x2=>x1++x2) #[] (wB m its.toArray)=(wB m its).flatten.toArray:=λm=>by
   have:=foldl_rep its m []
   rw[v7]at this
   exact this
  rw[f0]
  cases its with
  |nil=>simp
  |cons a r'=>rw[wy (by simp)]
 refine AAK (T:="list") (U:="int") (by decide) ⟨_,e,rfl⟩ (λs'=>AAu s' k t) noFill_list_mul ACg zh repeat_list AB8.lookup
  (zK zh (AAu s k t) AB9 (ABq _ _) (int___rmul___int_list k t l its.toArray n)
    ⟨e,rfl,⟨_,e,rfl⟩,zK F.slot_list_mul ⟨_,e,rfl⟩ F.entry_list_mul (F.args_list_mul_2 _ _) (AutoListH.list___mul___list_int_3 l its.toArray n k t hfit hcap hlong) ⟨e,?_⟩⟩)
 rw[hnew]
 exact⟨.ref _,_,I.ij (t':=s.toks) (r.rep k.toNat) (by rw[len_rep,xk];exact hz),rfl,q _ I.fresh⟩
end
section
variable{prog:xK}{w:xy}{A:yt}{E:vm->vw->Prop}{s:vw}
end
section
variable{X:Cx}
end
end L2
namespace Att
open PySem PySem.W PySem.Calls PyProof.Rows
def ints_of_wellAll:∀ns (vs:Wp vm),WellAll P h vs (ns.map WData.int)->AAN vs ns:=by
 intro ns
 induction ns with
 |nil=>
  intro vs w
  rw[xQ]at w
  cases w
  exact .nil
 |cons n ns ih=>
  intro vs w
  rw[v5]at w
  cases w with
  |cons a b=>
   cases a
   exact .cons _ _ (ih _ b)
def script_of{l:AA1}(hn:l.most=Gc n)(hpre:l.row.toRowW.claim.pre args=true)(hwl:WellAll P h vals args):∃a vs ns,vals=[w9 a]/\args=[WData.list (ns.map WData.int)]/\h.get? a=Gc {cls:=.type "list",data:=.seq vs.toArray}/\AAN vs ns/\ns.length<=n:=by
 have hsh:WShape.hasAll [] args [.list .int]=true:=(pre_splitW hpre).1
 have hc:l.pre.holds [] {args:=args}=true:=(pre_splitW hpre).2
 obtain⟨d,r,rfl,h1,h2⟩:=hasAllW_cons hsh
 obtain rfl:=hasAllW_nil h2
 obtain⟨xs,rfl,h3⟩:=hasW_list h1
 obtain⟨ns,rfl⟩:=items_int h3
 have hlen:ns.length<=n:=by
  unfold OpenLaw.pre at hc
  have h4:(WTm.not (.lt (.lit (.int (n:Int))) (.len (.arg 0)))).holds [] {args:=[.list (ns.map .int)]}=true:=by
   have h4:=(holds_andW hc).1
   rw[hn]at h4
   exact h4
  have h5:=condW_of h4 (w_not (w_lt w_lit (w_len_list (w_arg rfl))))
  rw[wY]at h5
  refine Nat.le_of_not_lt λq=>?_
  have q':(n:Int)<((ns.length:Nat):Int):=by lia
  first
   |(rw[xp q']at h5;exact absurd h5 (by decide))
   |(simp at h5;lia)
 cases hwl with
 |cons w1 w2=>
  cases w2
  cases w1 with
  |list ho hall=>exact⟨_,_,ns,rfl,rfl,ho,ints_of_wellAll ns _ hall,hlen⟩
def post_true(l:AA1)(args:Wp WData):l.row.toRowW.claim.post args (.bool true) args=true:=
 postW_of (r:=l.row.toRowW) (X:=(true==true))
  (show WShape.has [] (.bool true) .bool=true by first|rfl|decide|simp[WShape.has,WShape.arms,WShape.armsAll])
  (show(WTm.eq .res (.lit (.bool true))).value [] {args:=args,res:=Gc (.bool true),after:=args}=Gc (.bool (true==true))from w_eq_bool (w_res rfl) w_lit) rfl
def attach_call{l:AA1}(hn:l.most=Gc n)(hdf:d.params.defaults=[])(call:∀w s₀ s₁ mg mb fa o pm cd doc a vs ns,Ground q loose [] XP w s₀ mg mb s₁.heap->YP w s₁.heap->s₁.heap.get? fa=Gc o->o.data=.func (docDef d.name d.params d.body d.scope pm cd doc)->s₁.heap.CodeRec cd d.name->mg d.name=Gc (.ref fa)->s₁.heap.get? a=Gc {cls:=.type "list",data:=.seq vs.toArray}->AAN vs ns->ns.length<=n->s₁.gens= #[]->codeAny (model l.prog w) callerA (.call (.ref fa) ⟨[.ref a],[]⟩) (λr s'=>r=.ok (.ret (.bool true))/\OldK s₁.heap s'.heap/\s'.os=s₁.os/\AAY s'.gens) s₁):WalkO q loose XP YP l.row.toRowW d [] (λf vs=>PySem.call f vs):=by
 intro w s₀ s₁ mg mb G Y fa o pm cd doc dV kV ho hd hcd hD hmg hg args vals as hpre hlay hrd hwl hlo
 obtain rfl:dV=.none:=Dflts.none hD hdf
 obtain rfl:kV=.none:=Dflts.noKw hD
 obtain⟨a,vs,ns,rfl,rfl,hobj,hints,hlen⟩:=script_of hn hpre hwl
 refine enter_call (ACH (call w s₀ s₁ mg mb fa o pm cd doc a vs ns G Y ho (fd_plain hd) hcd hmg hobj hints hlen hg) λr s' hq=>?_)
 obtain⟨rfl,h2,h3,h4⟩:=hq
 exact⟨.inl ⟨.bool true,.bool true,[],rfl,λ_=>rfl,.bool true,post_true l _,λ_=>⟨List.Pairwise.nil,λ_ hm=>(nomatch hm)⟩⟩,h2,h3,h4⟩
section
variable{prog:xK}{w:xy}{A:yt}{E:vm->vw->Prop}{s:vw}{K:vZ}
end
end Att
namespace L2
open PySem PySem.Spec PyProof.Rows
theorem Q2:∀{vs:Wp vm} {ns:Wp Int},AAN vs ns->Vals (ns.map V.int) vs
 |_,_,.nil=>.nil
 |_,_,.cons n t h=>.cons ⟨t,rfl⟩ (Q2 h)
def qS(H:Hp):Prop:=∀b,H b=none\/∃o xs,H b=Gc (.frz o (.lst xs))
def Zs{P:xK}{w:xy}{K:vZ}{mg mb:Str->vi vm}{CX:CXT}{k:Nat}{fa a:vy}{fd:AAc}{x:Str}{sp:Sp}{s₁:vw}{vs:Wp vm}{ns:Wp Int}(KX:K.In s₁.heap)(hns:s₁.heap.Ns mainGlobals mg)(hb:s₁.heap.Ns builtinsNs mb)(hbb:∀x:Str,x≠ "__name__"->mb x=bootBuiltins x)(hlim:s₁.heap.NoLimit)(hg:s₁.gens= #[])(ha:s₁.heap.get? a=Gc {cls:=.type "list",data:=.seq vs.toArray})(hi:AAN vs ns)(hl:ns.length<=sizeLine)(hr:K0 k callerA)(F:∀base:xZ,K.In base->base.Ns mainGlobals mg->OO P w K mg base CX k fa fd [x] sp)(hbind:∀(s:vw) (u:vm),BindsTo s fd ⟨[u],[]⟩ [(x,u)])(hsp:∀H:Hp,qS H->SqL K H a (ns.map V.int)->sp [.ref a] H (λv _=>v=.bl true) λ_ _ _=>yV)(hCX:∀H e s',CX [] H s₁ (λ_ _ _=>yV) e s'->yV):codeAny (model P w) callerA (.call (.ref fa) ⟨[.ref a],[]⟩) (λr s'=>r=.ok (.ret (.bool true))/\OldK s₁.heap s'.heap/\s'.os=s₁.os/\AAY s'.gens) s₁:=by
 have rv:=Q2 hi
 have lenV:=hi.length
 have core:∀H:Hp,qS H->SqL K H a (ns.map V.int)->HOk P w H s₁.heap->(∀b,H b≠none->b=a)->(H a≠none->K.lookup a=none)->
   codeAny (model P w) callerA (.call (.ref fa) ⟨[.ref a],[]⟩) (λr s'=>r=.ok (.ret (.bool true))/\OldK s₁.heap s'.heap/\s'.os=s₁.os/\AAY s'.gens) s₁:=by
  intro H hO hS hok hA hK
  have base_of:∀{b:vy} {o:Obj},s₁.heap.get? b=Gc o->H b=none->(aH s₁.heap H).get? b=Gc o:=λe n=>ZW e n
  have noA:∀{b:vy} {o:Obj} {es:AAn AAE} {ep:Nat},s₁.heap.get? b=Gc o->o.data=.dict es ep->H b=none:=λ{b o es ep} e d=>by
   cases q:H b with
   |none=>rfl
   |some u=>
    have e':b=a:=hA b (by rw[q];simp)
    subst e'
    rw[ha]at e;cases e
    have d':Data.seq vs.toArray _=Data.dict es ep:=d
    cases d'
  have nsK:∀{b:vy} {m:Str->vi vm},s₁.heap.Ns b m->(aH s₁.heap H).Ns b m:=λ{b m} ⟨o,es,ep,e,d,r⟩=>⟨o,es,ep,base_of e (noA e d),d,r⟩
  have hKb:K.In (aH s₁.heap H):=λb o e=>base_of (KX b o e) (by
   cases q:H b with
   |none=>rfl
   |some u=>
    have e':b=a:=hA b (by rw[q];simp)
    subst e'
    rw[hK (by rw[q];simp)]at e;cases e)
  have hM:Mod K mg (aH s₁.heap H):=⟨hKb,nsK hns,⟨mb,nsK hb,hbb⟩,let⟨mc,h1,h2⟩:=hlim;⟨mc,nsK h1,h2⟩⟩
  have e0:nW P w K mg (aH s₁.heap H) callerA [] s₁ H:=⟨rfl,hM,λb o e=>gc e,Nat.le_of_eq (XT _ _),trivial,λb hb=>absurd (show b∈([]:Wp vy)from hb) (by simp),hok,.of_eq hg⟩
  refine ACH ((F _ hKb (nsK hns)).run callerA [] s₁ H ⟨[.ref a],[]⟩ [.ref a] [.ref a] _ _ hr e0 (hbind s₁ (.ref a)) (.cons rfl .nil) (hsp H hO hS)) λr s' h=>?_
  cases r with
  |error e=>exact(hCX H e s' h).elim
  |ok fl=>
   cases fl with
   |next=>exact yk h
   |brk=>exact yk h
   |cont=>exact yk h
   |ret u=>
    obtain⟨v,H',os,bare,un,hok',r',q⟩:=h
    have q':v=.bl true:=q
    subst q'
    obtain rfl:u=ABR true:=r'
    refine⟨rfl,OldK.of_keep λb o e=>?_,os,bare⟩
    cases q:H b with
    |none=>exact un.keep b o e q (by intro z;exact absurd (show b∈([]:Wp vy)from z) (by simp)) (by simp)
    |some u=>
     rcases hO b with z|⟨ob,xs,z⟩
     .rw[q]at z;cases z
     .have z2:=un.ZK b ob _ z
      obtain⟨e1,_⟩:=hok b _ z
      obtain⟨e2,_⟩:=hok' b _ z2
      rw[e]at e1;cases e1
      exact e2
 cases hk:K.lookup a with
 |some o=>
  have e:=KX a o hk
  rw[ha]at e
  cases e
  refine core (λ_=>none) (λ_=>.inl rfl) (.inr ⟨_,vs.toArray,_,hk,rfl,rfl,rfl,by rw[vv,lenV];exact hl,by simpa using rv⟩) (λb u z=>by have z':(none:vi HO)=Gc u:=z;cases z') (λb z=>absurd rfl z) λz=>absurd rfl z
 |none=>
  refine core (λb=>if b=a then Gc (.frz {cls:=.type "list",data:=.seq vs.toArray} (.lst (ns.map V.int)))else none) (λb=>?_) (.inl (.inr ⟨{cls:=.type "list",data:=.seq vs.toArray},wU rfl⟩)) (λb u z=>?_) (λb z=>?_) λ_=>hk
  .by_cases hb:b=a
   .exact .inr ⟨_,_,wU hb⟩
   .exact .inl (wy hb)
  .by_cases hb:b=a
   .have z':=(wU hb).symm.trans z
    cases z'
    subst hb
    exact⟨ha,by rw[wY];exact hl,vs,_,rv,ha⟩
   .have z':=(wy hb).symm.trans z
    cases z'
  .by_cases hb:b=a
   .exact hb
   .exact absurd (wy hb) z
end L2
namespace L2
open PySem PySem.Spec PyProof.Rows
abbrev KOf{K:vZ}{h:xZ}(_:K.In h):vZ:=K
def gS{l:AA1}{n k:Nat}{q:xK}{loose:Wp Str}{XP:(Str->vi vm)->xZ->Prop}{YP:xy->xZ->Prop}{d:DefRec}{K:Params->vZ}{CX:xy->CXT}{sp:xy->Sp}{x:Str}(hn:l.most=Gc n)(hn2:n<=sizeLine)(hdf:d.params.defaults=[])(hr:K0 k callerA)(hY:∀(w:xy) (h:xZ),YP w h->(K w.params).In h)(F:∀(w:xy) (mg:Str->vi vm) (fa:vy) (h:xZ),(K w.params).In h->h.Ns mainGlobals mg->mg d.name=Gc (.ref fa)->∃fd:AAc,(∀(s:vw) (u:vm),BindsTo s fd ⟨[u],[]⟩ [(x,u)])/\∀base:xZ,(K w.params).In base->base.Ns mainGlobals mg->OO l.prog w (K w.params) mg base (CX w) k fa fd [x] (sp w))(hsp:∀(w:xy) (H:Hp) (a:vy) (ns:Wp Int),ns.length<=n->qS H->SqL (K w.params) H a (ns.map V.int)->sp w [.ref a] H (λv _=>v=.bl true) λ_ _ _=>yV)(hCX:∀(w:xy) (H:Hp) (s:vw) (e:vm) (s':vw),CX w [] H s (λ_ _ _=>yV) e s'->yV):PySem.W.WalkO q loose XP YP l.row.toRowW d [] (λf vs=>PySem.call f vs):=by
 refine Att.attach_call hn hdf λw s₀ s₁ mg mb fa o pm cd doc a vs ns G Y ho hd hcd hmg hobj hints hlen hg=>?_
 have KX:=hY w _ Y
 obtain⟨fd,hb,hF⟩:=F w mg fa _ KX G.T.g hmg
 exact Zs KX G.T.g G.T.b G.T.builtins G.T.nolimit hg hobj hints (va hlen hn2) hr hF hb (λH hO hS=>hsp w H a ns hlen hO hS) λH e s'=>hCX w H s₁ e s'
end L2
namespace L2
open PySem PySem.Spec PyProof.Rows
noncomputable def LU(s:wV):Arguments:=match s with
 | .FunctionDef _ a _ _ _ _ _ _ _ _=>a
 |_=>{posonlyargs:=[],args:=[],vararg:=none,kwonlyargs:=[],kw_defaults:=[],kwarg:=none,defaults:=[]}
noncomputable def Dz(s:wV):Wp wV:=match s with
 | .FunctionDef _ _ b _ _ _ _ _ _ _=>b
 |_=>[]
noncomputable def AE(s:wV):zv:=match s with
 | .FunctionDef _ _ _ _ _ _ sc _ _ _=>sc
 |_=>{kind:=.function,names:=[],isGenerator:=false,isCoroutine:=false}
abbrev CX0:CXT:=λ_ _ _ _ _ _=>yV
abbrev E0:XK:=λ_ _ _=>yV
def mI{X:Cx}:Passes CX0 X E0:=λ_ _ _ _ _ _ _ h=>h.elim
structure Fun(K:vZ)(x qual:Str)(st:wV)(f:vy)(fd:AAc):Prop where
 ex:∃(oc:vm) (od:vi vy) (kV doc pm:vm) (an:vi vy) (cdv ct:vm) (osl:AAn (vi vm)),
  fd=zb x qual (LU st) (Dz st) (AE st) .none kV doc pm an cdv ct/\K.lookup f=Gc ⟨oc,od,.func fd,osl⟩/\ABV K cdv qual=true
 kp:yE K (.ref f)=true
section
variable{P:xK}{w:xy}{K:vZ}{mg:Str->vi vm}{base:xZ}
def Fun.ok{st:wV}(F:Fun K x qual st f fd)(S:Ak N ps (AE st))(len:∀vs H Q E,sp vs H Q E->vs.length=ps.length)(hbody:∀cdv A outer s H vs Q E,K0 k (A.deeper (envOfC qual (AE st) s.heap.objs.size f cdv))->sp vs H Q E->∃t,PSs (TK CX0 P w K mg base N qual (AE st) f cdv A outer s H E).nox (Dz st) t/\t {nx:=λ_ H'=>Q .non H',rt:=Q} (start N vs) H):OO P w K mg base CX0 (k+1) f fd ps sp:=by
 obtain⟨oc,od,kV,doc,pm,an,cdv,ct,osl,rfl,lk,hcd⟩:=F.ex
 refine mE lk hcd S len λA outer s H vs Q E hr hsp=>?_
 obtain⟨t,h,q⟩:=hbody cdv A outer s H vs Q E hr hsp
 exact⟨t,h.nox,q⟩
def Fun.binds{st:wV}(F:Fun K x qual st f fd)(h:∀kV doc pm an cdv ct us,us.length=ps.length->bindArgs (zb x qual (LU st) (Dz st) (AE st) .none kV doc pm an cdv ct) ⟨us,[]⟩=pure (ps.zip us)):Binds K fd ps []:=by
 obtain⟨oc,od,kV,doc,pm,an,cdv,ct,osl,rfl,lk,hcd⟩:=F.ex
 exact .all (h kV doc pm an cdv ct)
def j8{st:wV}{kV doc pm cdv ct:vm}(l:K.lookup f=Gc ⟨oc,od,.func (zb x qual (LU st) (Dz st) (AE st) .none kV doc pm an cdv ct),osl⟩)(c:ABV K cdv qual=true)(k:yE K (.ref f)=true):Fun K x qual st f (zb x qual (LU st) (Dz st) (AE st) .none kV doc pm an cdv ct):=⟨⟨oc,od,kV,doc,pm,an,cdv,ct,osl,rfl,l,c⟩,k⟩
end
section
variable{X:Cx}
end
def bq{A B:Prop}(h:B):if false=true then A else B:=by
 rw[wy wu]
 exact h
def dP{A B:Prop}(h:A):if true=true then A else B:=by
 rw[wU rfl]
 exact h
def B5(H H':Hp):Prop:=∀b o,H b=Gc o->H' b=Gc o
end L2
end
noncomputable section
namespace L2
open PySem PySem.Spec PyProof.Rows
noncomputable def Hh(cells:Wp (Str×vy)):Wp (Str×AB5)->Wp (Str×vy)->Wp (Str×vy)
 | [],cs=>cs
 |(n,k)::r,cs=>if(k==xX)=true then Hh cells r ((n,(cells.lookup n).getD 0)::cs)else Hh cells r cs
def RJ:∀names cs,(∀y∈names,y.2=.free->∃a,env.cells.lookup y.1=Gc a)->(forIn names cs λx r=>match x with|(name,kind)=>if(kind==xX)=true then(do let a<-cellOf env name;pure (AA5 ((name,a)::r)))else pure (AA5 r):Sem (Wp (Str×vy)))=pure (Hh env.cells names cs)
 | [],cs,_=>by simp[Hh]
 |(n,k)::r,cs,h=>by
  rw[ACh]
  have ih:=λcs=>RJ r cs λy hy=>h y (vh _ hy)
  by_cases hk:(k==xX)=true
  .obtain⟨a,ha⟩:=h (n,k) vp (by simpa using hk)
   have ha':env.cells.lookup n=Gc a:=ha
   have e:cellOf env n=pure a:=by unfold cellOf;rw[ha']
   simp only[hk,ABH,e,pure_bind,Hh,ha',Option.getD_some]
   exact ih _
  .simp only[hk,AAe,pure_bind,Hh]
   exact ih _
def UA(h:∀y∈scope.names,y.2=.free->∃a,env.cells.lookup y.1=Gc a):closureFor scope env=pure (Hh env.cells scope.names []):=by
 unfold closureFor
 have:=RJ (env:=env) scope.names [] h
 simp only[bind_pure]at this⊢
 exact this
theorem NJ:∀{names} {cs},(∀y∈names,y.2=.free->∃a,cells.lookup y.1=Gc a)->(Hh cells names cs).lookup x=Gc c->cs.lookup x=Gc c\/cells.lookup x=Gc c
 | [],cs,_,h=>.inl h
 |(n,k)::r,cs,hh,h=>by
  have hr:∀y∈r,y.2=.free->∃a,cells.lookup y.1=Gc a:=λy hy=>hh y (vh _ hy)
  unfold Hh at h
  by_cases hk:(k==xX)=true
  .rw[wU hk]at h
   rcases NJ hr h with q|q
   .obtain⟨a,ha⟩:=hh (n,k) vp (by simpa using hk)
    have ha':cells.lookup n=Gc a:=ha
    rw[xS]at q
    cases hx:x==n with
    |true=>
     rw[hx,ha']at q
     have e:x=n:=by simpa using hx
     subst e
     cases q
     exact .inr ha'
    |false=>
     rw[hx]at q
     exact .inl q
   .exact .inr q
  .rw[wy hk]at h
   exact NJ hr h
theorem LI:∀{names} {cs},((x,xX)∈names\/∃c,cs.lookup x=Gc c)->∃c,(Hh cells names cs).lookup x=Gc c
 | [],cs,h=>h.elim (λz=>nomatch z) id
 |(n,k)::r,cs,h=>by
  unfold Hh
  by_cases hk:(k==xX)=true
  .rw[wU hk]
   refine LI ?_
   by_cases hx:x=n
   .subst hx
    exact .inr ⟨_,by rw[xS,ACA]⟩
   .rcases h with h|⟨c,h⟩
    .rcases ve.mp h with e|e
     .cases e;exact absurd rfl hx
     .exact .inl e
    .refine .inr ⟨c,?_⟩
     rw[xS,show(x==n)=false by simpa using hx]
     exact h
  .rw[wy hk]
   refine LI ?_
   rcases h with h|h
   .rcases ve.mp h with e|e
    .cases e;exact absurd rfl hk
    .exact .inl e
   .exact .inr h
theorem ME{env:Env}:∀{names:Wp (Str×AB5)},names.lookup x=Gc .free->(names.map λ(n,k)=>if(k==xX && env.scope.kind== .function && env.kindOf n==Gc .cell)then(n,zm)else(n,k)).lookup x=Gc .cell\/(names.map λ(n,k)=>if(k==xX && env.scope.kind== .function && env.kindOf n==Gc .cell)then(n,zm)else(n,k)).lookup x=Gc .free
 | [],h=>by simp at h
 |(n,k)::r,h=>by
  have ih:= @ME x env r
  show yg x ((if(k==xX && env.scope.kind== .function && env.kindOf n==Gc .cell)=true then(n,zm)else(n,k))::_)=_\/yg x ((if(k==xX && env.scope.kind== .function && env.kindOf n==Gc .cell)=true then(n,zm)else(n,k))::_)=_
  cases hx:x==n with
  |true=>
   simp only[xS,hx]at h
   cases h
   by_cases hc:(xX==xX && env.scope.kind== .function && env.kindOf n==Gc .cell)=true
   .rw[wU hc];simp only[xS,hx];exact .inl trivial
   .rw[wy hc];simp only[xS,hx];exact .inr trivial
  |false=>
   simp only[xS,hx]at h
   by_cases hc:(k==xX && env.scope.kind== .function && env.kindOf n==Gc .cell)=true
   .rw[wU hc];simp only[xS,hx];exact ih h
   .rw[wy hc];simp only[xS,hx];exact ih h
def OI(hk:k'=.cell\/k'=.free)(h:(relabel scope env).names.lookup x=Gc k'):(x,xX)∈scope.names\/(x,zm)∈scope.names:=by
 have hm:=xP h
 obtain⟨⟨n,k⟩,hy,e⟩:=vq.mp (show(x,k')∈scope.names.map _ from hm)
 by_cases hc:(k==xX && env.scope.kind== .function && env.kindOf n==Gc .cell)=true
 .simp only[hc,ABH]at e
  cases e
  have:k=.free:=by
   have:=((vn _ _).mp hc).1
   exact AAV.mp ((vn _ _).mp this).1
  subst this
  exact .inl hy
 .simp only[hc,AAe]at e
  cases e
  rcases hk with rfl|rfl
  .exact .inr hy
  .exact .inl hy
theorem Bz:∀names n cs,cellsFrom n names cs=cellsFrom n names []++cs
 | [],_,_=>rfl
 |(x,k)::r,n,cs=>by
  unfold cellsFrom
  split
  .rw[Bz r _ ((x,n)::cs),Bz r _ [(x,n)]];simp
  .exact Bz r n cs
theorem Hs:∀{names} {n},(x,c)∈cellsFrom n names []->(x,zm)∈names
 | [],_,h=>nomatch h
 |(y,k)::r,n,h=>by
  unfold cellsFrom at h
  split at h
  .rename_i hk
   rw[Bz]at h
   rcases wF.mp h with z|z
   .exact vh _ (Hs z)
   .have e:=wN.mp z
    cases e
    rw[AAV.mp hk]
    exact vp
  .exact vh _ (Hs h)
def Lk(hQ:∀h',h'.Ns s.heap.objs.size (λ_=>none)->(∀b o,s.heap.get? b=Gc o->h'.get? b=Gc o)->CellsOk h' (s.heap.objs.size+1) (cellsFrom (s.heap.objs.size+1) scope.names [])->Q (newEnv scope s.heap.objs.size globals (cellsFrom (s.heap.objs.size+1) scope.names cl) qual none .none (Gc env) builtinsNs) {s with heap:=h'}):wpAny M A (newFunctionEnv scope globals cl [] qual none .none (Gc env)) Q E s:=by
 simp only[newFunctionEnv,Option.isSome_some,ABH]
 refine vb (wpAny_alloc ?_)
 refine vb (wpAny_layCells _ (λname kind cells=>by cases hkc:kind==zm<;>simp[hkc]) _ _ _ _ ?_)
 have ok:=cellsFrom_ok scope.names (s.heap.push {cls:=.type "dict",data:=.dict #[]}) (s.heap.objs.size+1) [] ⟨λ_ _ hm=>(nomatch hm),List.Pairwise.nil⟩ (by rw[yG];exact vf _)
 rw[yG]at ok
 rw[show({s with heap:=s.heap.push {cls:=.type "dict",data:=.dict #[]}}:vw).heap.objs.size=s.heap.objs.size+1 from yG ..]
 rw[ACt]
 refine vb (v9 (v9 ?_))
 exact hQ _ ((Heap.Ns.new s.heap (.type "dict")).keeps (pushCells_keeps _ _)) (λb o e=>pushCells_keeps _ _ b o (vc _ e)) ok
end L2
end
noncomputable section
namespace L2
open PySem PySem.Spec PyProof.Rows
noncomputable def UX(N:Wp Str)(osc scope:zv):Wp Str->Wp (vi Nat)->xD
 | [],[]=>true
 |_::r,none::q=>UX N osc scope r q
 |x::r,Gc i::q=>decide (N[i]?=Gc x) && (decide (osc.names.lookup x=Gc .cell)||decide (osc.names.lookup x=Gc .free)) && decide (scope.names.lookup x=Gc .free) && UX N osc scope r q
 |_,_=>false
theorem Wu:∀{N'} {ix},UX N osc scope N' ix=true->ix.length=N'.length
 | [],[],_=>rfl
 |_::r,none::q,h=>by
  unfold UX at h
  simp[Wu h]
 |x::r,Gc i::q,h=>by
  unfold UX at h
  have:=((vn _ _).mp h).2
  simp[Wu this]
 | [],_::_,h=>by simp[UX]at h
 |_::_,[],h=>by simp[UX]at h
theorem eB:∀{N'} {ix},UX N osc scope N' ix=true->∀{j i:Nat} {x},N'[j]?=Gc x->ix[j]?=Gc (Gc i)->N[i]?=Gc x/\(osc.names.lookup x=Gc .cell\/osc.names.lookup x=Gc .free)/\scope.names.lookup x=Gc .free
 | [],[],_,j,_,_,h,_=>by simp at h
 |_::r,none::q,h,j,i,x,h1,h2=>by
  unfold UX at h
  cases j with
  |zero=>simp at h2
  |succ j=>exact eB h (by simpa using h1) (by simpa using h2)
 |y::r,Gc k::q,h,j,i,x,h1,h2=>by
  unfold UX at h
  obtain⟨ha,hr⟩:=(vn _ _).mp h
  obtain⟨ha,h3⟩:=(vn _ _).mp ha
  obtain⟨h4,h5⟩:=(vn _ _).mp ha
  cases j with
  |zero=>
   simp at h1 h2
   subst h1 h2
   refine⟨v3 h4,?_,v3 h3⟩
   rcases(xq _ _).mp h5 with z|z
   .exact .inl (v3 z)
   .exact .inr (v3 z)
  |succ j=>exact eB hr (by simpa using h1) (by simpa using h2)
 | [],_::_,h,_,_,_,_,_=>by simp[UX]at h
 |_::_,[],h,_,_,_,_,_=>by simp[UX]at h
structure AJ(N:Wp Str)(osc:zv)(N':Wp Str)(ix:Wp (vi Nat))(scope:zv):Prop where
 kind:scope.kind=.function
 cells:∀y∈scope.names,y.2=.cell->scope.names.lookup y.1=Gc .cell
 names:∀y∈scope.names,y.2=.local->scope.names.lookup y.1=Gc .local
 free:∀y∈scope.names,y.2=.free->(osc.names.lookup y.1=Gc .cell\/osc.names.lookup y.1=Gc .free)
 ok:UX N osc scope N' ix=true
noncomputable def sig(ix:Wp (vi Nat))(σ:St):St:=ix.map λo=>o.bind λi=>(σ[i]?).join
noncomputable def JK(X:Cx)(N':Wp Str)(scope:zv)(s:vw)(H:Hp)(fp:Wp vy):Cx where
 prog:=X.prog
 w:=X.w
 K:=X.K
 mg:=X.mg
 base:=X.base
 A:=X.A
 N:=N'
 s₀:=s
 H₀:=H
 env:=compEnvC scope (cellsFrom (s.heap.objs.size+1) scope.names (Hh X.env.cells scope.names [])) s.heap.objs.size X.env
 outer:=X.stack
 stack:=X.stack
 ex:=fp
 fn:=λx=>decide (scope.names.lookup x=Gc .cell)
 calm:=true
 pn:=[]
 xe:=λ_ _=>yV
section
variable{X:Cx}{σ:St}{H:Hp}{s:vw}{N':Wp Str}{scope:zv}{fp:Wp vy}
def Inv.cellsOf(I:Inv X pins σ H s)(S:AJ X.N X.env.scope N' ix scope):∀y∈scope.names,y.2=.free->∃a,X.env.cells.lookup y.1=Gc a:=λy hy hk=>I.ok.has y.1 (S.free y hy hk)
def bT(S:AJ X.N X.env.scope N' ix scope)(hc:X.calm=true)(I:Inv X pins σ H s)(hf:∀b∈fp,SW X pins H b)(hlt:∀b∈fp,b<s.heap.objs.size)(hn:h1.Ns s.heap.objs.size m1)(hk:∀b o,s.heap.get? b=Gc o->h1.get? b=Gc o)(hC:CellsOk h1 (s.heap.objs.size+1) (cellsFrom (s.heap.objs.size+1) scope.names [])):Inv (JK X N' scope s H fp) [] (sig ix σ) H {s with heap:=h1,toks:=tk}:=by
 have hcl:=I.cellsOf S
 have sub:∀{x:Str} {c:vy},(Hh X.env.cells scope.names []).lookup x=Gc c->X.env.cells.lookup x=Gc c:=λ{x c} h=>by
  rcases NJ hcl h with z|z
  .simp at z
  .exact z
 have old:∀{x:Str} {c:vy},X.env.cells.lookup x=Gc c->c<s.heap.objs.size:=λ{x c} h=>by
  obtain⟨v,oc,ho,_⟩:=I.cell x c h
  exact vz ho
 have look:∀{x:Str} {c:vy},(cellsFrom (s.heap.objs.size+1) scope.names (Hh X.env.cells scope.names [])).lookup x=Gc c->(x,c)∈cellsFrom (s.heap.objs.size+1) scope.names []\/X.env.cells.lookup x=Gc c:=λ{x c} h=>by
  rw[Bz,AAW]at h
  cases e:(cellsFrom (s.heap.objs.size+1) scope.names []).lookup x with
  |some a=>rw[e]at h;cases h;exact .inl (xP e)
  |none=>rw[e]at h;exact .inr (sub h)
 refine⟨⟨I.ok.mod,S.kind,I.ok.glob,I.ok.blt,vf _,λx y c h1 h2=>?_,λx hx=>?_,λx c hx h=>?_,λ_=>I.ok.hd hc,I.ok.frames,.inl rfl,λb hb=>?_,I.bs,va I.ok.bsz I.sz,λb o e hb=>?_,λb hb hs=>?_,I.stack,I.Tp⟩,
  rfl,I.bare,Un.kept hk,⟨m1,hn,λj x v h1 h2 h3=>?_⟩,λx c h=>?_,I.hok.fresh (vf _),λx c h=>?_,λp hp=>absurd (show p∈([]:Wp (vy×Obj))from hp) (by simp),I.hok.kept hk,?_⟩
 . -- inj
   rcases look h1 with a|a<;>rcases look h2 with b|b
   .exact name_of_addr hC.apart a b
   .exact absurd (vd (old b) (zq (hC.empty _ _ a).2)) (yD _)
   .exact absurd (vd (old a) (zq (hC.empty _ _ b).2)) (yD _)
   .exact I.ok.inj x y c a b
 . -- has
   have hx':(relabel scope X.env).names.lookup x=Gc .cell\/(relabel scope X.env).names.lookup x=Gc .free:=hx
   show∃c,(cellsFrom (s.heap.objs.size+1) scope.names (Hh X.env.cells scope.names [])).lookup x=Gc c
   rw[Bz,AAW]
   cases e:(cellsFrom (s.heap.objs.size+1) scope.names []).lookup x with
   |some a=>exact⟨a,rfl⟩
   |none=>
    rcases(hx'.elim (OI (.inl rfl)) (OI (.inr rfl)))with z|z
    .exact LI (.inl z)
    .obtain⟨c,hc⟩:=NF (n:=s.heap.objs.size+1) (S.cells _ z rfl)
     rw[e]at hc;cases hc
 . -- cab
   obtain⟨c',hc'⟩:=NF (n:=s.heap.objs.size+1) (v3 hx)
   have h:(cellsFrom (s.heap.objs.size+1) scope.names (Hh X.env.cells scope.names [])).lookup x=Gc c:=h
   rw[Bz,AAW,hc']at h
   cases h
   exact zq (hC.empty _ _ (xP hc')).2
 . -- exf
   refine⟨wZ (hlt b hb),λx c h=>?_⟩
   rcases look h with a|a
   .exact λe=>absurd (vd (e▸hlt b hb) (zq (hC.empty _ _ a).2)) (yD _)
   .exact(hf b hb).2.2.2.2.1 x c a
 . -- cT
   rcases(hf b hb).2.2.2.1 with z|z
   .exact I.ok.cT b o e z
   .exact absurd (vd (vz (I.ok.bs b o e).1) z) (yD _)
 . -- eX
   rcases ve.mp (I.Wz b hs)with z|z
   .exact(hf b hb).2.1 z
   .exact(hf b hb).2.2.1 z
 . -- loc
   unfold sig at h2
   rw[wJ]at h2
   cases e:ix[j]? with
   |none=>rw[e]at h2;cases h2
   |some o=>
    rw[e]at h2
    cases o with
    |none=>cases h2
    |some i=>
     have h2':(σ[i]?).join=Gc v:=by simpa using h2
     have h4:σ[i]?=Gc (Gc v):=by
      cases e4:σ[i]? with
      |none=>rw[e4]at h2';cases h2'
      |some q=>rw[e4]at h2';exact congrArg Gc h2'
     obtain⟨q1,q2,q3⟩:=eB S.ok h1 e
     obtain⟨m,_,hl⟩:=I.loc
     obtain⟨u,r,l⟩:=hl i x v q1 h4 (q2.elim (λz=>.inr (.inl z)) λz=>.inr (.inr z))
     refine⟨u,r,?_⟩
     rcases l with⟨l,_⟩|⟨_,c,lc,z⟩
     .have l':X.env.scope.names.lookup x=Gc .local:=l
      rcases q2 with z|z<;>(rw[z]at l';cases l')
     .refine .inr ⟨ME q3,?_⟩
      obtain⟨c',hc'⟩:=LI (cells:=X.env.cells) (cs:=[]) (.inl (xP q3))
      have ec:=sub hc'
      rw[lc]at ec
      cases ec
      have no:(cellsFrom (s.heap.objs.size+1) scope.names []).lookup x=none:=by
       cases e:(cellsFrom (s.heap.objs.size+1) scope.names []).lookup x with
       |none=>rfl
       |some a=>
        have q:=S.cells _ (Hs (xP e)) rfl
        rw[q3]at q;cases q
      refine⟨c,(by show(cellsFrom (s.heap.objs.size+1) scope.names (Hh X.env.cells scope.names [])).lookup x=Gc c;rw[Bz,AAW,no];exact hc'),?_⟩
      obtain⟨oc,ho,hd⟩:=z
      exact⟨oc,hk _ _ ho,hd⟩
 .rcases look h with a|a
  .exact⟨_,(hC.empty _ _ a).1⟩
  .obtain⟨v,oc,ho,hd⟩:=I.cell x c a
   exact⟨v,oc,hk _ _ ho,hd⟩
 .rcases look h with a|a
  .exact I.hok.fresh (zq (hC.empty _ _ a).2)
  .exact I.Lv x c a
 .show(sig ix σ).length=N'.length
  unfold sig
  rw[wY]
  exact Wu S.ok
end
end L2
end
noncomputable section
namespace L2
open PySem PySem.Spec PyProof.Rows
def PTs(X:Cx)(ifs:Wp xM)(t:TT):Prop:=
 ∀(pins:Wp (vy×Obj)) (s:vw) (σ:St) (H:Hp) (Q:xD->Hp->Prop),Inv X pins σ H s->t σ H Q->
  wpAny (model X.prog X.w) X.A (forIn ifs true λc r=>if r=true then do let ok<-isTrue c X.env (eval c X.env);pure (AA5 ok)else pure (AA5 r)) (TP X pins σ Q) X.xe s
noncomputable def oY:TT:=λ_ H Q=>Q true H
def eH:PTs X [] oY:=λ_ _ _ H _ I h=>wpAny_tests_nil ⟨H,I,h⟩
def de(h:PT X c t):PTs X [c] t:=λpins s σ H Q I q=>wpAny_tests_one (h pins s σ H Q I q)
def aL{t:Sem α}{Q:α->vw->Prop}(h:wpAny M A t Q (λ_ _=>yV) s):wpAny M A t Q E s:=yu h (λ_ _ q=>q) λ_ _ f=>f.elim
def jQ(ix:Wp (vi Nat))(g:TG)(tc:TT)(te:TE)(J:It)(σ:St)(H:Hp)(Q:VK):Prop:=
 ∀D,H D=none->∃W:Nat->Nat->St->Hp->Wp V->Prop,(∃m,W 0 m (sig ix σ) (upd H D (.lst [])) [])/\∀i m σ H ys,W i m σ H ys->H D=Gc (.lst ys)/\
  ((J.stop i H/\Q (.ref D) H)\/(J.go i H/\ys.length<sizeLine/\∀x H',J.yld i H x H'->g x σ H' λσ2 H2=>tc σ2 H2 λb H3=>
    if b=true then te σ2 H3 λy H4=>H4 D=Gc (.lst ys)/\∃m',m'<m/\W (i+1) m' σ2 (upd H4 D (.lst (ys++[y]))) (ys++[y])else∃m',m'<m/\W (i+1) m' σ2 H3 ys))
noncomputable def gq(ix:Wp (vi Nat))(wi:TI)(g:TG)(tc:TT)(te:TE):TE:=λσ H Q=>wi σ H λJ H1=>jQ ix g tc te J σ H1 Q
section
variable{X:Cx}{pins:Wp (vy×Obj)}{σ:St}{s₂:vw}{scope:zv}{pos:Pos}{g:TG}{tc:TT}
def Block(X:Cx)(N':Wp Str)(scope:zv)(tg:xM)(ifs:Wp xM)(elt:xM)(g:TG)(tc:TT)(te:TE):Prop:=
 ∀(s:vw) (H:Hp) (fp:Wp vy),PG (JK X N' scope s H fp) tg g/\PTs (JK X N' scope s H fp) ifs tc/\PE (JK X N' scope s H fp) elt te
def XF {X':Cx}{it:vy}{fp:Wp vy}{tn:Nat->xZ->Prop}{J:It}{D:vy}{Q:VK}{W:Nat->Nat->St->Hp->Wp V->Prop}(he:X'.env=e)(hx:X'.xe=λ_ _=>yV)(hcm:X'.calm=true)(T:Turn X'.prog X'.w X'.K tg J fp it tn)(hfp:∀H,(∀b ∈ fp,H b=none)->∀b ∈ fp,SW X' [] H b)(hg:PG X' tg g)(ht:PTs X' ifs tc)(hb:PE X' elt te)(turn:∀i m σ H ys,W i m σ H ys->H D=Gc (.lst ys)/\((J.stop i H/\Q (.ref D) H) ∨ (J.go i H/\ys.length<sizeLine/\∀x H',J.yld i H x H'->g x σ H' λσ2 H2=>tc σ2 H2 λb H3 =>
        if b = true then te σ2 H3 fun y H4 => H4 D = Gc (.lst ys) /\ ∃ m', m' < m /\ W (i + 1) m' σ2 (upd H4 D (.lst (ys ++ [y]))) (ys ++ [y]) else ∃ m', m' < m /\ W (i + 1) m' σ2 H3 ys)))
    (hR:∀s' σ' H',Inv X' [] σ' H' s'->Q (.ref D) H'->R (.ok .next) s')
    (h0:∃i σ' H' ys,Inv X' [] σ' H' s/\tn i s.heap/\(∀b ∈ fp,H' b=none)/\W i n σ' H' ys) :
    codeAny (model X'.prog X'.w) X'.A (.compLoop (.ListComp elt [⟨tg,iter,ifs,0⟩] scope pos) 0 (.ref it) (.ref D) e) R s:=by
  subst he
  refine codeAny_loop rfl (fun n s => ∃ i σ' H' ys, Inv X' [] σ' H' s /\ tn i s.heap /\ (∀ b ∈ fp, H' b = none) /\ W i n σ' H' ys) (fun n s3 hI => ?_) n h0
  show wpAny _ X'.A ((compTurn (.ListComp elt [⟨tg, iter, ifs, 0⟩] scope pos) 0 (.ref it) (.ref D) X'.env).onRaise (fun x => do noteFrame x X'.env; theTreesLotGoes x)) _ _ s3
  refine wpAny_noted (aL ?_)
  rw [compTurn_list]
  obtain⟨i,σ3,H3,ys,I3,st3,fr3,w3⟩:=hI
  obtain⟨hD,alt⟩:=turn i n σ3 H3 ys w3
  rcases alt with ⟨stop, q⟩ | ⟨go, hlen, step⟩
  · refine vb (zk (vb (thn (T.done X' rfl rfl rfl hcm i [] s3 σ3 H3 _ I3 (hfp H3 fr3) st3 stop) fun r s4 ⟨hr, I4⟩ => ?_)))
    subst hr
    exact v9 (hR s4 σ3 H3 I4 q)
  · refine vb (zk (vb (thn (T.item X' rfl rfl rfl hcm i [] s3 σ3 H3 _ I3 (hfp H3 fr3) st3 go) fun r s4 ⟨u, hr, h4⟩ => ?_)))
    subst hr
    refine vb (thn h4 fun _ s5 ⟨x, H5, I5, r5, y5, st5, fr5⟩ => ?_)
    have I5':=I5.pinned (hfp H5 fr5) (T.obj _ _ st5)
    have hg':=hg _ s5 σ3 H5 x u _ I5' r5 (step x H5 y5)
    rw [hx] at hg'
    refine vb (thn hg' fun _ s6 ⟨σ6, H6, I6, q6⟩ => ?_)
    have ht':=ht _ s6 σ6 H6 _ I6 q6
    rw [hx] at ht'
    refine vb (thn ht' fun ok s7 ⟨H7, I7, q7⟩ => ?_)
    have again:∀{s8:vw} {H8:Hp} {zs:Wp V} {m':Nat},Inv X' ([]++Qj fp s5.heap) σ6 H8 s8->m'<n->W (i + 1) m' σ6 H8 zs->∃m,m<n/\∃i σ' H' ys,Inv X' [] σ' H' s8/\tn i s8.heap/\(∀b ∈ fp,H' b=none)/\W i m σ' H' ys:=λ{s8 H8 zs m'} I8 hm w8=>by
      refine ⟨m', hm, i + 1, σ6, H8, zs, I8.Mp, T.keep _ _ _ st5 fun b hb o e => (I8.pin (b, o) (wq _ (wq _ (JY hb e)))).1, fun b hb => ?_, w8⟩
      obtain⟨o,e,d⟩:=T.obj _ _ st5 b hb
      exact (I8.pin (b, o) (wq _ (wq _ (JY hb e)))).2.1
    cases ok with
    | false =>
      rw [wy (by decide)] at q7
      obtain⟨m',hm,w7⟩:=q7
      exact v9 ⟨rfl, again I7 hm w7⟩
    | true =>
      rw [wU rfl] at q7
      have hb':=hb _ s7 σ6 H7 _ I7 q7
      rw [hx] at hb'
      refine vb (vb (thn hb' fun v s8 ⟨y, H8, I8, r8, hD8, m', hm, w8⟩ => ?_))
      have ha:=Qq (X:=X') _ s8 σ6 H8 (.ref D) [y] (.ref D) [v] (λ_ H9=>H9=upd H8 D (.lst (ys++[y]))) I8 rfl (.cons r8 .nil) ⟨D,ys,y,rfl,rfl,hD8,hlen,rfl⟩
      rw [hx] at ha
      refine vb (thn ha fun _ s9 ⟨_, H9, I9, _, e9⟩ => ?_)
      subst e9
      exact v9 (v9 ⟨rfl, again I9 hm w8⟩)
def Uh(hc:X.calm=true)(S:AJ X.N X.env.scope N' ix scope)(hb:Block X N' scope tg ifs elt g tc te){RR:vm->vy->Result->vw->Prop}(I2:Inv X pins σ H₂ s₂)(T:Turn X.prog X.w X.K tg J fp it tn)(st2:tn 0 s₂.heap)(f2:∀b∈fp,SW X pins H₂ b)(hW:jQ ix g tc te J σ H₂ Q)(hRR:∀D C H' s',Inv X pins σ H' s'->(∃m,s'.heap.Ns C m)->SW X pins H' C->Q (.ref D) H'->RR (.ref D) C (.ok .next) s'):wpAny (model X.prog X.w) X.A (newList []) (λacc s₃=>wpAny (model X.prog X.w) X.A (newFunctionEnv scope X.env.globals (Hh X.env.cells scope.names []) [] X.env.qual none .none (Gc X.env)) (λcenv s₄=>
  codeAny (model X.prog X.w) X.A (.compStart (.ListComp elt [⟨tg,iter,ifs,0⟩] scope pos) 0 (.ref it) acc {cenv with scope:=relabel scope X.env}) (RR acc cenv.locals) s₄) E s₃) E s₂:=by
 have hD0:H₂ s₂.heap.objs.size=none:=I2.hok.fresh (vf _)
 have hlt2:∀b∈fp,b<s₂.heap.objs.size:=λb hb=>by
  obtain⟨o,e,_⟩:=T.obj _ _ st2 b hb
  exact vz e
 refine yi (Lk (λh₁ hns₁ hsb₁ hcl₁=>?_))
 have I3:Inv X pins σ (upd H₂ s₂.heap.objs.size (.lst [])) {s₂ with heap:=s₂.heap.push {cls:=.type "list",dict:=none,data:=.seq ([]:Wp vm).toArray}}:=
  I2.laid (t':=s₂.toks) (λb u e=>vc _ e) (vf _) ⟨yB _,[],0,.nil,wI _ rfl⟩
 have f3:∀b∈fp,SW X pins (upd H₂ s₂.heap.objs.size (.lst [])) b:=λb hb=>⟨by rw[Ay (wZ (hlt2 b hb))];exact(f2 b hb).1,(f2 b hb).2⟩
 have k3:∀b o,s₂.heap.get? b=Gc o->(s₂.heap.push {cls:=.type "list",dict:=none,data:=.seq ([]:Wp vm).toArray}).get? b=Gc o:=λb o e=>vc _ e
 dsimp only at hns₁ hsb₁ hcl₁⊢
 generalize hs3:({s₂ with heap:=s₂.heap.push {cls:=.type "list",dict:=none,data:=.seq ([]:Wp vm).toArray}}:vw)=s₃ at I3
 have eh:s₂.heap.push {cls:=.type "list",dict:=none,data:=.seq ([]:Wp vm).toArray}=s₃.heap:=by rw[<-hs3]
 have et:s₂.toks=s₃.toks:=by rw[<-hs3]
 have es:∀(h:xZ) (t:Nat),({s₂ with heap:=h,toks:=t}:vw)={s₃ with heap:=h,toks:=t}:=λh t=>by rw[<-hs3]
 rw[eh]at hns₁ hsb₁ hcl₁ k3⊢
 have hlt3:∀b∈fp,b<s₃.heap.objs.size:=λb hb=>by
  obtain⟨o,e,_⟩:=T.obj _ _ st2 b hb
  exact vz (k3 b o e)
 have k4:∀b o,s₃.heap.get? b=Gc o->h₁.get? b=Gc o:=hsb₁
 obtain⟨W,⟨m0,w0⟩,turn⟩:=hW _ hD0
 have I4:∀tk,Inv (JK X N' scope s₃ (upd H₂ s₂.heap.objs.size (.lst [])) fp) [] (sig ix σ) (upd H₂ s₂.heap.objs.size (.lst [])) {s₃ with heap:=h₁,toks:=tk}:=λtk=>bT S hc I3 f3 hlt3 hns₁ k4 hcl₁
 have st4:tn 0 h₁:=T.keep _ _ _ st2 λb hb o e=>k4 b o (k3 b o e)
 obtain⟨bg,bt,be⟩:=hb s₃ (upd H₂ s₂.heap.objs.size (.lst [])) fp
 have noX:∀(H:Hp),(∀b∈fp,H b=none)->∀b∈fp,SW (JK X N' scope s₃ (upd H₂ s₂.heap.objs.size (.lst [])) fp) [] H b:=λH hn b hb=>by
  obtain⟨_,h2,h3⟩:=f3 b hb
  refine⟨hn b hb,wZ (hlt3 b hb),λhs=>(I4 0).ok.eX b hb hs,.inl hb,λx c h=>?_,λp hp=>absurd (show p∈([]:Wp (vy×Obj))from hp) (by simp)⟩
  exact((I4 0).ok.exf b hb).2 x c h
 have fin:∀(s':vw) (σ':St) (H':Hp),Inv (JK X N' scope s₃ (upd H₂ s₂.heap.objs.size (.lst [])) fp) [] σ' H' s'->Q (.ref s₂.heap.objs.size) H'->RR (.ref s₂.heap.objs.size) s₃.heap.objs.size (.ok .next) s':=λs' σ' H' I' q=>by
  refine hRR _ _ H' s' ?_ (let⟨m,hn,_⟩:=I'.loc;⟨m,hn⟩) (I3.gM (vf _) I'.free) q
  exact I3.mP I'.os I'.base I'.hok I'.bare λb hb=>⟨(f3 b hb).2.2.2.1,(f3 b hb).2.1,(f3 b hb).2.2.2.2.1,(f3 b hb).2.2.2.2.2⟩
 have loop:∀tk,codeAny (model X.prog X.w) X.A (.compLoop (.ListComp elt [⟨tg,iter,ifs,0⟩] scope pos) 0 (.ref it) (.ref s₂.heap.objs.size) (compEnvC scope (cellsFrom (s₃.heap.objs.size+1) scope.names (Hh X.env.cells scope.names [])) s₃.heap.objs.size X.env)) (RR (.ref s₂.heap.objs.size) s₃.heap.objs.size) {s₃ with heap:=h₁,toks:=tk}:=λtk=>
  XF (X':=JK X N' scope s₃ (upd H₂ s₂.heap.objs.size (.lst [])) fp) (D:=s₂.heap.objs.size) (Q:=Q) (W:=W) rfl rfl rfl T noX bg bt be turn fin ⟨0,_,_,_,I4 tk,st4,λb hb=>(f3 b hb).1,w0⟩
 rw[es]
 exact codeAny_compStart_list (loop _) (T.self _ 0 _ _ _ st4 (loop _))
def eG(hc:X.calm=true)(S:AJ X.N X.env.scope N' ix scope)(hi:PI X tg iter wi)(hb:Block X N' scope tg ifs elt g tc te)(hs:xz (∀x,foldedSetIterable iter X.env x=pure x) wv):PE X (.ListComp elt [⟨tg,iter,ifs,0⟩] scope pos) (gq ix wi g tc te):=by
 intro pins s σ H Q I h
 rw[eval_ListComp]
 refine ABx (use:=none) rfl hs (UA (I.cellsOf S)) S.kind S.names (thn (hi pins s σ H _ I h) λv s1 h1=>thn h1 λitv s2 h2=>?_)
 obtain⟨it,fp,tn,J,H2,e,I2,T,st2,f2,hW⟩:=h2
 subst e
 refine Uh (RR:=λacc C=>compPost (model X.prog X.w) X.A X.xe none (EP X pins σ Q) acc C) hc S hb I2 T st2 f2 hW ?_
 intro D C H' s' I' hm hC q
 obtain⟨m,hm⟩:=hm
 refine⟨m,hm,λh' hs'=>⟨.ref D,H',I'.turned (it:=C) (t':=s'.toks) (λb o hb e=>hs'.extBut b o hb e) hC.1 hC.2.1 hC.2.2.2.1 hC.2.2.2.2.1 hC.2.2.2.2.2,rfl,q⟩⟩
end
end L2
end
noncomputable section
namespace L2
open PySem PySem.Spec PyProof.Rows
section
variable{X:Cx}{pos spos py:Pos}
def Vj(hc:X.calm=true)(hN:X.N.Nodup)(hi':X.N[i]?=Gc y)(hx:X.env.scope.names.lookup y=Gc .local)(S:AJ X.N X.env.scope N' ix scope)(hi:PI X tg iter wi)(hb:Block X N' scope tg ifs elt g tc te)(hsw:xz (swapsWith (.ListComp elt [⟨tg,iter,ifs,0⟩] scope pos) (Gc (.Name y py)) spos.line X.env=pure true) wp)(hs:xz (∀x,foldedSetIterable iter X.env x=pure x) wv):PS X (.Assign [.Name y py] (.ListComp elt [⟨tg,iter,ifs,0⟩] scope pos) spos) (pJ (gq ix wi g tc te) (fK i)):=by
 intro pins s σ H D I h
 rw[exec_Assign_Name_used _ _ _ _ hsw]
 refine vb (zk (vb ?_))
 show wpAny _ X.A (do let _<-comprehension (.ListComp elt [⟨tg,iter,ifs,0⟩] scope pos) scope X.env _ (newList []) false (eval iter X.env) (Gc (assign (.Name y py) X.env))) _ _ s
 refine vb (yu (ABx (use:=Gc (assign (.Name y py) X.env)) (Q:=λ_ s'=>SP X pins D .next s') rfl hs (UA (I.cellsOf S)) S.kind S.names
  (thn (hi pins s σ H _ I h) λv s1 h1=>thn h1 λitv s2 h2=>?_)) (λ_ s' hq=>v9 (v9 hq)) λ_ _ e=>e)
 obtain⟨it,fp,tn,J,H2,e,I2,T,st2,f2,hW⟩:=h2
 subst e
 refine Uh (RR:=λacc C=>compPost (model X.prog X.w) X.A X.xe (Gc (assign (.Name y py) X.env)) (λ_ s'=>SP X pins D .next s') acc C) hc S hb I2 T st2 f2 hW ?_
 intro L C H' s' I' hm hC q
 obtain⟨m,hm⟩:=hm
 show wpAny _ X.A (assign (.Name y py) X.env (.ref L)) _ _ _
 refine wpAny_assign_Name (Qw I' hN hi' (.inl hx) (v:=.ref L) rfl (λs'' I'' ⟨a,sb,ha⟩=>?_) (.inr hx))
 have hCa:C≠a:=by
  rcases ha with rfl|ha
  .exact hC.2.1
  .exact xv (hC.2.2.2.2.1 y a ha)
 refine⟨m,hm.sameBut sb hCa,λh' hs'=>?_⟩
 exact⟨_,H',I''.turned (it:=C) (t':=s''.toks) (λb o hb e=>hs'.extBut b o hb e) hC.1 hC.2.1 hC.2.2.2.1 hC.2.2.2.2.1 hC.2.2.2.2.2,q⟩
end
end L2
end
noncomputable section
namespace L2
open PySem PySem.Spec PyProof.Rows
section
variable{κ:Type} [DecidableEq κ]
def bz.WL(r:bz o u):o.isSome=u.isSome:=by
 cases o with
 |none=>cases u with
  |none=>rfl
  |some _=>exact(show yV from r).elim
 |some _=>cases u with
  |none=>exact(show yV from r).elim
  |some _=>rfl
end
def qe(r:RelV (kV k) u):(G6 P w).is k u=true:=by
 cases k with
 |inl i=>obtain⟨t,e⟩:=(show∃t,u=AB3 i t from r);subst e;exact TU P w i t
 |inr x=>obtain⟨t,e⟩:=(show∃t,u=AAr x t from r);subst e;exact SX P w x t
theorem RW:∀{ks} {us},Vals (ks.map kV) us->ItemsAre (G6 P w) ks us
 | [],_,r=>by rw[xQ]at r;cases r;exact .nil
 |k::ks,_,r=>by
  rw[v5]at r
  cases r with
  |cons h t=>exact .cons (qe h) (RW t)
abbrev KT(H:Hp):Wp (Wp Key×V)->Wp (Wp Key×vy×vm)->Prop:=Paired λp q=>p.1=q.1/\H q.2.1=Gc (.tup (p.1.map kV))/\RelV p.2 q.2.2
section
variable{P:xK}{w:xy}{H:Hp}{h:xZ}{a:vy}
def pV(ok:HOk P w H h)(e:Rd H a u):EO P w H h a u:=e.ok ok
def jE(ok:HOk P w H h)(e:H a=Gc (.tup (ks.map kV))):(tupleKind (G6 P w)).is h ks a:=by
 obtain⟨_,its,r,o,h1,h2,n,h3⟩:=(show EO P w H h a (.tup (ks.map kV))from ok a _ e)
 exact⟨o,its.toArray,n,h1,h2,h3,by simpa using RW r⟩
def oj(ok:HOk P w H h)(e:Rd H a (.dT kvs)):kvs.length<=sizeLine/\(a==sysModules)=false/\∃xs,KT H kvs xs/\h.DictOfH (tupleKind (G6 P w)) a xs:=by
 obtain⟨z,y,xs,r,o,es,ep,h1,h2,h3,h4,h5⟩:=(show EO P w H h a (.dT kvs)from pV ok e)
 refine⟨z,y,xs,r,o,es,ep,h1,h2,h3,h4,λx hx=>?_,h5⟩
 have all:∀{l:Wp (Wp Key×V)} {m:Wp (Wp Key×vy×vm)},KT H l m->∀x∈m,(tupleKind (G6 P w)).is h x.1 x.2.1:=by
  intro l m q
  induction q with
  |nil=>intro x hx;exact nomatch hx
  | @cons p q ps qs hq t ih=>
    intro x hx
    rcases ve.mp hx with e|hx
    .subst e
     exact jE ok (by rw[<-hq.1];exact hq.2.1)
    .exact ih x hx
 exact all r x hx
def bI(ok:HOk P w H h)(e:H a=Gc (.dT kvs)):kvs.length<=sizeLine/\(a==sysModules)=false/\∃xs,KT H kvs xs/\h.DictOfH (tupleKind (G6 P w)) a xs:=oj ok (.inl e)
end
section
variable{X:Cx}{pins:Wp (vy×Obj)}{σ:St}{H:Hp}{s:vw}{a:vy}{y v:V}{u r:vm}{o:vi V}{A:yt}{E:vm->vw->Prop}
end
section
variable{X:Cx}{pins:Wp (vy×Obj)}{σ:St}{H:Hp}{s:vw}{a:vy}{kvs:Wp (Key×V)}{k:Key}{u:vm}{A:yt}{E:vm->vw->Prop}
end
section
variable{X:Cx}{o i e value:xM}{pos pos' tpos:Pos}{td ty tv:TE}
end
section
variable{X:Cx}{pos:Pos}
end
structure M1(X:Cx)(o:xM)(m:Str)(apos:Pos)(e:xM)(cpos:Pos):Prop where
 base:attributeBase o m X.env (eval o X.env)=eval o X.env
 few:((backTo cpos (wD [e] X.env)).all (λx=> !x.1) && (backToKw cpos (keywordEach [] X.env)).all (λx=>x.1.isSome)
  && decide (([e]:Wp xM).length+([]:Wp AAz).length+(if([]:Wp AAz).isEmpty then 0 else 1)<30))=true
 line:(apos.endLine==cpos.line)=true
 trees:backTo cpos (wD [e] X.env)=[(false,eval e X.env)]
structure M2(X:Cx)(o:xM)(m:Str)(apos:Pos)(e f:xM)(cpos:Pos):Prop where
 base:attributeBase o m X.env (eval o X.env)=eval o X.env
 few:((backTo cpos (wD [e,f] X.env)).all (λx=> !x.1) && (backToKw cpos (keywordEach [] X.env)).all (λx=>x.1.isSome)
  && decide (([e,f]:Wp xM).length+([]:Wp AAz).length+(if([]:Wp AAz).isEmpty then 0 else 1)<30))=true
 line:(apos.endLine==cpos.line)=true
 trees:backTo cpos (wD [e,f] X.env)=[(false,eval e X.env),(false,eval f X.env)]
def IsD(H:Hp)(a:vy):Prop:=(∃kvs,Rd H a (.dK kvs))\/∃kvs,Rd H a (.dT kvs)
section
variable{X:Cx}{pins:Wp (vy×Obj)}{σ:St}{H:Hp}{s:vw}{a:vy}{y d:V}{u r:vm}{o:vi V}{A:yt}{E:vm->vw->Prop}
end
section
variable{X:Cx}{o e f:xM}{apos cpos:Pos}{td ty tx:TE}
end
section
variable{X:Cx}{pins:Wp (vy×Obj)}{σ:St}{H:Hp}{s:vw}{a:vy}{kvs:Wp (Key×V)}{A:yt}{E:vm->vw->Prop}
end
section
variable{X:Cx}{pins:Wp (vy×Obj)}{σ:St}{H:Hp}{s:vw}{a:vy}{y:V}{u:vm}{A:yt}{E:vm->vw->Prop}
end
end L2
end
noncomputable section
namespace L2
open PySem PySem.Spec PyProof.Rows
section
variable{s:vw}
def VB{h:xZ}{i:Nat}(ho:h.get? it=Gc o)(hc:o.cls=.type "tuple_iterator")(hd:o.data=.fields #[.ref t,.int i 0])(e:h'=h.update it (λo=>o.mapFields λa=>a.setIfInBounds 1 (rawInt ((i:Int)+1)))):h'.IsTupleIter it t (i+1):=by
 subst e
 have d:=yw hd λa=>a.setIfInBounds 1 (rawInt ((i:Int)+1))
 refine⟨_,yW _ ho (yX d),?_,?_⟩
 .rw[Obj.cls_mapFields];exact hc
 .rw[d];simp[rawInt]
def aI(hit:s.heap.IsTupleIter it t i)(ht:s.heap.IsTuple t items)(hx:items[i]?=Gc x)(hQ:∀h',h'.IsTupleIter it t (i+1)->ABF it s.heap h'->Q x {s with heap:=h'}):wpAny (model prog w) A (we (.ref it)) Q E s:=by
 obtain⟨⟨c,dd,dt,sl⟩,ho,hc,hd⟩:=id hit
 obtain⟨⟨c2,dd2,dt2,sl2⟩,ho2,hc2,n2,hd2⟩:=id ht
 simp only at hc hd hc2 hd2
 subst hc hd hc2 hd2
 unfold we
 refine vb (yL (name:=vY "__next__") hit.typeIs yx (ya yx hit.typeIs ABI ?_ (AA6 _)))
 unfold ABJ.«tuple_iterator.__next__»
 wp_walk using wM ho,wM ho2
 have e:items[(i:Int).toNat]?=Gc x:=by rw[zC];exact hx
 rw[e]
 refine vb (z9 ho rfl (by simp) ?_)
 exact v9 ⟨x,rfl,v9 (hQ _ (VB ho rfl rfl rfl) (ADF ..))⟩
def ZZ(hh:A.handled=none)(hit:s.heap.IsTupleIter it t i)(ht:s.heap.IsTuple t items)(hx:items[i]?=none)(hE:∀h' e,ABr it s.heap h'->(∃o,h'.get? e=Gc o/\o.cls=.type "StopIteration")->E (.ref e) {s with heap:=h'}):wpAny (model prog w) A (we (.ref it)) Q E s:=by
 obtain⟨⟨c,dd,dt,sl⟩,ho,hc,hd⟩:=id hit
 obtain⟨⟨c2,dd2,dt2,sl2⟩,ho2,hc2,n2,hd2⟩:=id ht
 simp only at hc hd hc2 hd2
 subst hc hd hc2 hd2
 unfold we
 refine vb (yL (name:=vY "__next__") hit.typeIs yx (ya yx hit.typeIs ABI ?_ (AA6 _)))
 unfold ABJ.«tuple_iterator.__next__»
 wp_walk using wM ho,wM ho2
 have e:items[(i:Int).toNat]?=none:=by rw[zC];exact hx
 rw[e]
 refine vb (ACG (vb (z9 ho rfl (by simp) ?_)))
 have hh1:A.in1.handled=none:=hh
 unfold Builtin.SmallTypes.stopIteration
 simp only[newExc,newTuple,raiseNew]
 wp_walk
 refine hE _ _ ?_ ⟨_,wI _ rfl,rfl⟩
 have a:=(ADF (a:=it) (h:=s.heap) (f:=xr λx=>x.setIfInBounds 0 xA)).extBut
 exact(a.push _).push _
def Wt l items n dct sl:Meets (ABJ.«enumerate.__new__» ⟨[.type "enumerate",.ref l],[]⟩) (λ_ R s=>s.heap.get? l=Gc {cls:=.type "tuple",dict:=dct,data:=.seq items n,slots:=sl}/\R (.ok (.ret (.ref (s.heap.objs.size+1)))) {s with heap:=(s.heap.push {cls:=.type "tuple_iterator",data:=.fields #[.ref l,.int 0 0]}).push {cls:=.type "enumerate",data:=.fields #[.none,.bool false,.ref s.heap.objs.size,rawInt 0,.none,.none]}}):=
 .of_wp λprog w A R s h=>by
  obtain⟨hp,g,d,tk,os⟩:=s
  obtain⟨hl,h⟩:=h
  have hsub:=sub_enumerate
  have hT:ABK (zF ⟨hp,g,d,tk,os⟩) l items:=⟨_,hl,rfl,n,rfl⟩
  wp_walk using wM hl
  refine wpAny_stack_any λst=>v9 ?_
  split
  .rename_i c _ _ _ _ _
   cases (c==ADR "enumerate")<;>(wp_walk using wM hl,yb hT)<;>(refine⟨_,rfl,?_⟩;rw[yG];exact h)
  .wp_walk using wM hl,yb hT
   refine⟨_,rfl,?_⟩
   rw[yG]
   exact h
def Vh(hT:s.heap.IsTuple l items)(h:∀h',IsEnum h' (s.heap.objs.size+1) s.heap.objs.size 0 .none->h'.IsTupleIter s.heap.objs.size l 0->(∀b o,s.heap.get? b=Gc o->h'.get? b=Gc o)->Q (.ref (s.heap.objs.size+1)) {s with heap:=h'}):wpAny (model prog w) A (call (.type "enumerate") [.ref l]) Q E s:=by
 obtain⟨⟨c,dct,dt,sl⟩,hl,hc,n,hd⟩:=hT
 simp only at hc hd
 subst hc hd
 refine callType_new F.called_enumerate (by decide) (F.typeCall_enumerate_1 _) (F.newCall_enumerate_1 _) (λobj=>F.args_object_init_2 obj _) F.entry_enumerate_new (Wt l items n dct sl) ⟨hl,?_⟩
 have z:=wI (s.heap.push {cls:=.type "tuple_iterator",data:=.fields #[.ref l,.int 0 0]}) (o:={cls:=.type "enumerate",data:=.fields #[.none,.bool false,.ref s.heap.objs.size,rawInt 0,.none,.none]}) rfl
 rw[yG]at z
 exact⟨⟨_,z,rfl⟩,h _ z ⟨_,vc _ (wI _ rfl),rfl,rfl⟩ λb o x=>vc _ (vc _ x)⟩
end
end L2
end
noncomputable section
namespace L2
open PySem PySem.Spec PyProof.Rows
def FnAt(X:Cx)(k:Nat)(f:vy)(sp:Sp):Prop:=∃fd ps,OO X.prog X.w X.K X.mg X.base CX0 k f fd ps sp/\yE X.K (.ref f)=true/\Binds X.K fd ps []
noncomputable def jv(X:Cx)(k i:Nat)(t:TA):TE:=λσ H Q=>∃f sp,σ[i]?=Gc (Gc (.ref f))/\FnAt X k f sp/\t σ H λvs H1=>sp (vs++[]) H1 Q E0
def bh{p pos:Pos}(hN:X.N[i]?=Gc x)(hv:Vis X.env.scope x)(hr:K0 k X.A)(ha:PA X (e::es) t)(hd:xz ((x==("__debug__":Str))=false) ww)(hcd:xz ((x==("__classdict__":Str))=false) ww)(he:xz (wD (e::es) X.env=(false,eval e X.env)::wD es X.env) wp)(hpl:xz ((backTo pos (wD es X.env)).any (·.1)=false) wp):PE X (.Call (.Name x p) (e::es) [] pos) (jv X k i t):=by
 intro pins s σ H Q I h
 obtain⟨f,sp,el,⟨fd,ps,F,hk,hb⟩,h⟩:=h
 refine zZ (thn (YC hN hv hd hcd pins s σ H (λv H1=>v=.ref f/\H1=H) I ⟨_,el,rfl,rfl⟩) λu s1 z=>?_)
 obtain⟨v,H1,I1,r,ev,eh⟩:=z
 subst ev eh
 obtain rfl:u=w9 f:=r
 refine ABU (h₀:=X.base) I.ok.mod.kin hk (thn (ha pos pins s1 σ H1 _ I1 h) λus s2 ⟨vs,H2,I2,r2,q⟩=>⟨I2.kIn,?_⟩) he hpl
 exact cD F hr hb .nil mI I2 r2 q
end L2
end
noncomputable section
namespace L2
open PySem PySem.Spec PyProof.Rows
structure TopD(K:vZ)(w:xy)(a:vy)(kvs:Wp (Str×V)):Prop where
 ex:∃(es:AAn AAE) (n:Nat),K.lookup a=Gc ⟨.type "dict",none,.dict es n, #[]⟩/\AA7 w.params es.toList/\(a==sysModules)=false/\∀x,bz (kvs.lookup x) (findBy zI es x)
noncomputable def kr(K:vZ)(w:xy):R2:=λx y H Q=>∃a kvs k v,x=.ref a/\y=.str k/\TopD K w a kvs/\kvs.lookup k=Gc v/\Q v H
def dR:IxR X (kr X.K X.w):=by
 intro value slice pins s σ H x y v u Q I rx ry h hs
 obtain⟨a,kvs,k,z,rfl,rfl,⟨es,n,hl,hk,hne,hr⟩,e,q⟩:=h
 cases rx
 obtain⟨t,rfl⟩:=ry
 have hm:=PySem.W.mapOf_K (prog:=X.prog) I.kIn hl hk
 have r:=hr k
 rw[e]at r
 cases f:findBy zI es k with
 |none=>rw[f]at r;exact r.elim
 |some u=>
  rw[f]at r
  exact tail_any hm.typeIs slot_dict_getitem.lookup (wpAny_getItem_of (strKind_is X.prog X.w k t) hm f ⟨z,H,I.tok _,r,q⟩) hs
noncomputable def dE(K:vZ)(w:xy)(neg:xD):R2:=λx y H Q=>∃a kvs k,y=.ref a/\x=.str k/\TopD K w a kvs/\Q (.bl (if neg then !(kvs.lookup k).isSome else(kvs.lookup k).isSome)) H
def RI:OpR X (compareOp .NotIn) (dE X.K X.w true):=by
 intro pins s σ H x y v u Q I rx ry h
 obtain⟨a,kvs,k,rfl,rfl,⟨es,n,hl,hk,hne,hr⟩,q⟩:=h
 cases ry
 obtain⟨t,rfl⟩:=rx
 refine wpAny_notIn_of (strKind_is X.prog X.w k t) hne (PySem.W.mapOf_K (prog:=X.prog) I.kIn hl hk) ⟨.bl _,H,I.tok _,?_,q⟩
 show _=_
 have r:(kvs.lookup k).isSome=(findBy zI es k).isSome:=(hr k).WL
 rw[<-r]
 rfl
def TH(p:Paired (λp (e:AAE)=>(∃t,e.key=.str p.1 t)/\RelV p.2 e.val) kvs es) x:bz (kvs.lookup x) (findBy zI es.toArray x):=by
 unfold findBy
 rw[List.find?_toArray]
 induction p with
 |nil=>trivial
 | @cons q e r t h _ ih=>
   obtain⟨⟨tk,hk⟩,hv⟩:=h
   obtain⟨k,v⟩:=q
   rw[List.find?_cons,hk]
   show bz (match x==k with|true=>Gc v|false=>yg x r) _
   by_cases z:x=k
   .subst z
    have e1:(x==x)=true:=ACA x
    have e2:zI x (.str x tk)=true:=ACA x
    rw[e1,e2]
    exact hv
   .have e1:(x==k)=false:=yn.mpr z
    have e2:zI x (.str k tk)=false:=yn.mpr (xv z)
    rw[e1,e2]
    exact ih
def cu{K:vZ}(l:K.lookup a=Gc ⟨.type "dict",none,.dict es.toArray n, #[]⟩)(hk:AA7 w.params es)(hne:(a==sysModules)=false)(hp:Paired (λp (e:AAE)=>(∃t,e.key=.str p.1 t)/\RelV p.2 e.val) kvs es):TopD K w a kvs:=⟨_,n,l,hk,hne,TH hp⟩
end L2
end
noncomputable section
namespace L2
open PySem PySem.Spec PyProof.Rows
def SIt(h:xZ)(j l:vy)(i:Nat)(its:AAn vm):Prop:=(h.IsListIter j l i/\h.IsList l its)\/(h.IsTupleIter j l i/\h.IsTuple l its)
def SIt.at(q:SIt h j l i its)(k1:∀o,h.get? j=Gc o->h'.get? j=Gc o)(k2:∀o,h.get? l=Gc o->h'.get? l=Gc o):SIt h' j l i its:=by
 rcases q with⟨a,b⟩|⟨a,b⟩
 .exact .inl ⟨a.at k1,b.at k2⟩
 .exact .inr ⟨a.at k1,let⟨o,e,r⟩:=b;⟨o,k2 o e,r⟩⟩
def SIt.but(q:SIt h j l i its)(sb:ABr c h h')(n1:j≠c)(n2:l≠c):SIt h' j l i its:=q.at (λo e=>sb _ o n1 e) λo e=>sb _ o n2 e
def SIt.live(q:SIt h j l i its):∃o,h.get? j=Gc o/\∀v,o.data≠.cell v:=by
 rcases q with⟨⟨o,a,b,c⟩,_⟩|⟨⟨o,a,b,c⟩,_⟩
 .exact⟨o,a,λv z=>by rw[c]at z;cases z⟩
 .exact⟨o,a,λv z=>by rw[c]at z;cases z⟩
def SIt.ne(q:SIt h j l i its):l≠j:=by
 rcases q with⟨⟨o,a,b,_⟩,⟨o2,a2,b2,_⟩⟩|⟨⟨o,a,b,_⟩,⟨o2,a2,b2,_⟩⟩
 .intro z;subst z;rw[a]at a2;cases a2;rw[b]at b2;injection b2 with q;exact absurd q (by decide)
 .intro z;subst z;rw[a]at a2;cases a2;rw[b]at b2;injection b2 with q;exact absurd q (by decide)
def Mx(q:SIt s.heap j l i its)(hx:its[i]?=Gc x)(k:∀h',SIt h' j l (i+1) its->ABF j s.heap h'->Q x {s with heap:=h'}):wpAny (model prog w) A (we (.ref j)) Q E s:=by
 have n:=q.ne
 rcases q with⟨a,b⟩|⟨a,b⟩
 .exact wpAny_nextOf_list_item a b hx λh' a' sb=>k h' (.inl ⟨a',b.extBut sb.extBut n⟩) sb
 .exact aI a b hx λh' a' sb=>k h' (.inr ⟨a',let⟨o,e,r⟩:=b;⟨o,sb.extBut _ o n e,r⟩⟩) sb
def Mz(hh:A.handled=none)(q:SIt s.heap j l i its)(hx:its[i]?=none)(k:∀h' e,ABr j s.heap h'->(∃o,h'.get? e=Gc o/\o.cls=.type "StopIteration")->E (.ref e) {s with heap:=h'}):wpAny (model prog w) A (we (.ref j)) Q E s:=by
 rcases q with⟨a,b⟩|⟨a,b⟩
 .exact wpAny_nextOf_list_end hh a b hx k
 .exact ZZ hh a b hx k
def Y2{Q:vm->vw->Prop}(D:ZipApart z ti tt j1 j2 l1 l2)(oz:ABa s.heap z ti tt .none)(oi:zL s.heap ti (.ref j1) (.ref j2))(ot:zL s.heap tt u1 u2)(q1:SIt s.heap j1 l1 m xs)(q2:SIt s.heap j2 l2 m ys)(ex:xs[m]?=Gc x)(ey:ys[m]?=Gc y)(k:∀h',ABa h' z ti tt (rawInt s.heap.objs.size)->zL h' tt x y->SIt h' j1 l1 (m+1) xs->SIt h' j2 l2 (m+1) ys->zL h' s.heap.objs.size x y->(∀c o,c≠z->c≠tt->c≠j1->c≠j2->s.heap.get? c=Gc o->h'.get? c=Gc o)->Q (.ref s.heap.objs.size) {s with heap:=h'}):wpAny (model prog w) A (ABJ.«zip.__next__» ⟨[.ref z],[]⟩) (λfin s'=>∃v,fin=.done (.ret v)/\Q v s') E s:=by
 show wpAny _ _ (field (.ref z) 2 >>= _) _ _ _
 refine vb (yA oz rfl (x:=.bool false) rfl ?_)
 show wpAny _ _ (field (.ref z) 3 >>= _) _ _ _
 refine vb (yA oz rfl (x:=.ref ti) rfl (vb (AAA oi rfl ?_)))
 show wpAny _ _ (yH (.ref z) >>= _) _ _ _
 refine vb ?_
 unfold yH
 refine vb (yA oz rfl (x:=.none) rfl (v9 ?_))
 simp only[ABH]
 refine vb (ACG (vb (yA oz rfl (x:=.ref tt) rfl (vb (yy oz (by simp) λg1 oz1 b1=>?_)))))
 have oz1:ABa g1 z ti tt .ellipsis:=oz1
 refine vb ?_
 simp only[List.zipIdx_cons,List.zipIdx_nil,ACh,ACt]
 refine vb (vb (ABy ?_))
 show wpAny _ _ (we (.ref j1) >>= _) _ _ _
 refine vb (Mx (q1.but b1.extBut D.i1z D.l1z) ex λg2 q12 b2=>v9 ?_)
 have ot2:zL g2 tt u1 u2:=b2.extBut _ _ D.TOi1 (b1.extBut _ _ D.TOz ot)
 refine vb (AAA ot2 rfl (vb (AA2 ot2 λg3 ot3 b3=>?_)))
 have ot3:zL g3 tt x u2:=ot3
 refine vb (wpAny_letGo (v9 (vb (vb (ABy ?_)))))
 show wpAny _ _ (we (.ref j2) >>= _) _ _ _
 refine vb (Mx (((q2.but b1.extBut D.i2z D.l2z).but b2.extBut D.i12.symm D.l2i1).but b3.extBut D.TOi2.symm D.l2TO) ey λg4 q24 b4=>v9 ?_)
 have ot4:zL g4 tt x u2:=b4.extBut _ _ D.TOi2 ot3
 refine vb (AAA ot4 rfl (vb (AA2 ot4 λg5 ot5 b5=>?_)))
 have ot5:zL g5 tt x y:=ot5
 refine vb (wpAny_letGo (v9 (v9 (vb (AAA ot5 rfl (vb (wpAny_newTuple ?_)))))))
 have sz:g5.objs.size=s.heap.objs.size:=by rw[b5.1,b4.1,b3.1,b2.1,b1.1]
 have oz5:ABa g5 z ti tt .ellipsis:=b5.extBut _ _ D.TOz.symm (b4.extBut _ _ D.i2z.symm (b3.extBut _ _ D.TOz.symm (b2.extBut _ _ D.i1z.symm oz1)))
 have k5:∀c o,c≠z->c≠tt->c≠j1->c≠j2->s.heap.get? c=Gc o->g5.get? c=Gc o:=λc o c1 c2 c3 c4 e=>b5.extBut _ _ c2 (b4.extBut _ _ c4 (b3.extBut _ _ c2 (b2.extBut _ _ c3 (b1.extBut _ _ c1 e))))
 have q15:SIt g5 j1 l1 (m+1) xs:=((q12.but b3.extBut D.TOi1.symm D.l1TO).but b4.extBut D.i12 D.l1i2).but b5.extBut D.TOi1.symm D.l1TO
 have q25:SIt g5 j2 l2 (m+1) ys:=q24.but b5.extBut D.TOi2.symm D.l2TO
 have zlt:z<g5.objs.size:=vz oz5
 show wpAny _ _ (AAL (.ref z) (.ref g5.objs.size) >>= _) _ _ _
 refine vb ?_
 unfold AAL
 have oz6:ABa (g5.push {cls:=.type "tuple",data:=.seq #[x,y]}) z ti tt .ellipsis:=vc _ oz5
 refine vb (yy oz6 (by simp) λg7 oz7 b7=>?_)
 have oz7:ABa g7 z ti tt (rawInt g5.objs.size):=oz7
 refine yy oz7 (by simp) λg8 oz8 b8=>?_
 have oz8:ABa g8 z ti tt (rawInt g5.objs.size):=oz8
 have up:∀c o,c≠z->g5.get? c=Gc o->g8.get? c=Gc o:=λc o c1 e=>b8.extBut _ _ c1 (b7.extBut _ _ c1 (vc _ e))
 have op8:zL g8 g5.objs.size x y:=b8.extBut _ _ (ABG zlt) (b7.extBut _ _ (ABG zlt) (wI _ rfl))
 rw[sz]at oz8 op8
 refine v9 ⟨_,rfl,?_⟩
 show Q (.ref g5.objs.size) _
 rw[sz]
 exact k g8 oz8 (up _ _ D.TOz ot5) (q15.at (λo e=>up _ o D.i1z e) λo e=>up _ o D.l1z e) (q25.at (λo e=>up _ o D.i2z e) λo e=>up _ o D.l2z e) op8 λc o c1 c2 c3 c4 e=>up c o c1 (k5 c o c1 c2 c3 c4 e)
def Zk(hh:A.handled=none)(D:ZipApart z ti tt j1 j2 l1 l2)(oz:ABa s.heap z ti tt .none)(oi:zL s.heap ti (.ref j1) (.ref j2))(ot:zL s.heap tt u1 u2)(q1:SIt s.heap j1 l1 m xs)(q2:SIt s.heap j2 l2 m ys)(en:xs[m]?=none\/ys[m]?=none)(k:∀h' e,(∀c o,c≠z->c≠tt->c≠j1->c≠j2->s.heap.get? c=Gc o->h'.get? c=Gc o)->(∃o,h'.get? e=Gc o/\o.cls=.type "StopIteration")->E (.ref e) {s with heap:=h'}):wpAny (model prog w) A (ABJ.«zip.__next__» ⟨[.ref z],[]⟩) Q E s:=by
 show wpAny _ _ (field (.ref z) 2 >>= _) _ _ _
 refine vb (yA oz rfl (x:=.bool false) rfl ?_)
 show wpAny _ _ (field (.ref z) 3 >>= _) _ _ _
 refine vb (yA oz rfl (x:=.ref ti) rfl (vb (AAA oi rfl ?_)))
 show wpAny _ _ (yH (.ref z) >>= _) _ _ _
 refine vb ?_
 unfold yH
 refine vb (yA oz rfl (x:=.none) rfl (v9 ?_))
 simp only[ABH]
 refine vb (ACG (vb (yA oz rfl (x:=.ref tt) rfl (vb (yy oz (by simp) λg1 oz1 b1=>?_)))))
 have oz1:ABa g1 z ti tt .ellipsis:=oz1
 refine vb ?_
 simp only[List.zipIdx_cons,List.zipIdx_nil,ACh,ACt]
 refine vb (vb (ABy ?_))
 show wpAny _ _ (we (.ref j1) >>= _) _ _ _
 cases ex:xs[m]? with
 |none=>
  refine vb (Mz hh (q1.but b1.extBut D.i1z D.l1z) ex λg2 e b2 he=>?_)
  obtain⟨oe,e1,e2⟩:=he
  have oz2:ABa g2 z ti tt .ellipsis:=b2 _ _ D.i1z.symm oz1
  have nez:e≠z:=λx=>by subst x;rw[oz2]at e1;cases e1;simp at e2
  exact yy oz2 (by simp) λg3 _ b3=>k g3 e (λc o c1 _ c3 _ x=>b3.extBut _ _ c1 (b2 _ _ c3 (b1.extBut _ _ c1 x))) ⟨oe,b3.extBut _ _ nez e1,e2⟩
 |some x=>
  have ey:ys[m]?=none:=by
   rcases en with z|z
   .rw[ex]at z;cases z
   .exact z
  refine vb (Mx (q1.but b1.extBut D.i1z D.l1z) ex λg2 q12 b2=>v9 ?_)
  have ot2:zL g2 tt u1 u2:=b2.extBut _ _ D.TOi1 (b1.extBut _ _ D.TOz ot)
  refine vb (AAA ot2 rfl (vb (AA2 ot2 λg3 ot3 b3=>?_)))
  refine vb (wpAny_letGo (v9 (vb (vb (ABy ?_)))))
  show wpAny _ _ (we (.ref j2) >>= _) _ _ _
  refine vb (Mz hh (((q2.but b1.extBut D.i2z D.l2z).but b2.extBut D.i12.symm D.l2i1).but b3.extBut D.TOi2.symm D.l2TO) ey λg4 e b4 he=>?_)
  obtain⟨oe,e1,e2⟩:=he
  have oz4:ABa g4 z ti tt .ellipsis:=b4 _ _ D.i2z.symm (b3.extBut _ _ D.TOz.symm (b2.extBut _ _ D.i1z.symm oz1))
  have nez:e≠z:=λx=>by subst x;rw[oz4]at e1;cases e1;simp at e2
  exact yy oz4 (by simp) λg5 _ b5=>k g5 e (λc o c1 c2 c3 c4 x=>b5.extBut _ _ c1 (b4 _ _ c4 (b3.extBut _ _ c2 (b2.extBut _ _ c3 (b1.extBut _ _ c1 x))))) ⟨oe,b5.extBut _ _ nez e1,e2⟩
def Vt(D:ZipApart z ti tt j1 j2 l1 l2)(oz:ABa s.heap z ti tt .none)(oi:zL s.heap ti (.ref j1) (.ref j2))(ot:zL s.heap tt u1 u2)(q1:SIt s.heap j1 l1 m xs)(q2:SIt s.heap j2 l2 m ys)(ex:xs[m]?=Gc x)(ey:ys[m]?=Gc y)(k:∀h',ABa h' z ti tt (rawInt s.heap.objs.size)->zL h' tt x y->SIt h' j1 l1 (m+1) xs->SIt h' j2 l2 (m+1) ys->zL h' s.heap.objs.size x y->(∀c o,c≠z->c≠tt->c≠j1->c≠j2->s.heap.get? c=Gc o->h'.get? c=Gc o)->Q (Gc (.ref s.heap.objs.size)) {s with heap:=h'}):wpAny (model prog w) A (pyNext (.ref z)) Q E s:=by
 have ht:s.TypeIs (.ref z) "zip":=⟨_,oz,rfl⟩
 unfold pyNext
 exact vb (wpAny_attempt (yL (name:=vY "__next__") ht AA8 (ya AA8 ht F.entry_zip_next
  (Y2 D oz oi ot q1 q2 ex ey λh' a1 a2 a3 a4 a5 a6=>v9 (k h' a1 a2 a3 a4 a5 a6)) (F.args_zip_next_1 _))))
def XA(hh:A.handled=none)(D:ZipApart z ti tt j1 j2 l1 l2)(oz:ABa s.heap z ti tt .none)(oi:zL s.heap ti (.ref j1) (.ref j2))(ot:zL s.heap tt u1 u2)(q1:SIt s.heap j1 l1 m xs)(q2:SIt s.heap j2 l2 m ys)(en:xs[m]?=none\/ys[m]?=none)(k:∀h',(∀c o,c≠z->c≠tt->c≠j1->c≠j2->s.heap.get? c=Gc o->h'.get? c=Gc o)->Q none {s with heap:=h'}):wpAny (model prog w) A (pyNext (.ref z)) Q E s:=by
 have ht:s.TypeIs (.ref z) "zip":=⟨_,oz,rfl⟩
 unfold pyNext
 refine vb (wpAny_attempt (yL (name:=vY "__next__") ht AA8 (ya AA8 ht F.entry_zip_next
  (Zk hh D oz oi ot q1 q2 en λh' e kp he=>?_) (F.args_zip_next_1 _))))
 obtain⟨o,e1,e2⟩:=he
 exact vb (wpAny_isInstance (T:="StopIteration") (b:=true) ⟨o,e1,e2⟩ isSubtype_stop (v9 (k _ kp)))
end L2
end
noncomputable section
namespace L2
open PySem PySem.Spec PyProof.Rows
def Of(h:xZ)(b:xD)(l:vy)(its:AAn vm):Prop:=match b with|true=>h.IsTuple l its|false=>h.IsList l its
noncomputable def jJ:xD->yo|true=>"tuple_iterator" |false=>"list_iterator"
noncomputable def zh1(h:xZ)(b:xD)(l:vy):xZ:=h.push {cls:=.type (jJ b),data:=.fields #[.ref l,.int 0 0]}
noncomputable def zh2(h:xZ)(b c:xD)(l m:vy):xZ:=zh1 (zh1 h b l) c m
noncomputable def zh3(h:xZ)(b c:xD)(l m:vy):xZ:=(zh2 h b c l m).push {cls:=.type "tuple",data:=.seq #[.ref h.objs.size,.ref (zh1 h b l).objs.size]}
noncomputable def zh4(h:xZ)(b c:xD)(l m:vy):xZ:=(zh3 h b c l m).push {cls:=.type "tuple",data:=.seq #[.none,.none]}
noncomputable def zh5(h:xZ)(b c:xD)(l m:vy):xZ:=(zh4 h b c l m).push {cls:=.type "zip",data:=.fields #[.none,.bool false,.bool false,.ref (zh2 h b c l m).objs.size,.ref (zh3 h b c l m).objs.size]}
def Of.push(q:Of h b l its) o:Of (h.push o) b l its:=by
 cases b
 .exact Heap.IsList.push q _
 .obtain⟨u,e,r⟩:=(show h.IsTuple l its from q)
  exact⟨u,vc _ e,r⟩
def aw b c l m xs ys:Meets (ABJ.«zip.__new__» ⟨[.type "zip",.ref l,.ref m],[]⟩) (λ_ R s=>Of s.heap b l xs/\Of s.heap c m ys/\R (.ok (.ret (.ref (zh4 s.heap b c l m).objs.size))) {s with heap:=zh5 s.heap b c l m}):=
 .of_wp λprog w A R s hyp=>by
  obtain⟨hp,gs,dr,tk,os⟩:=s
  obtain⟨i1,i2,hyp⟩:=hyp
  have hsub:=sub_zip
  have i3:Of (zF ⟨zh1 hp b l,gs,dr,tk,os⟩) c m ys:=Of.push i2 _
  cases b<;>cases c
  .have a1:ACu (zF ⟨hp,gs,dr,tk,os⟩) l xs:=i1
   have a2:ACu (zF ⟨hp.push {cls:=.type "list_iterator",data:=.fields #[.ref l,.int 0 0]},gs,dr,tk,os⟩) m ys:=i3
   wp_walk using xu a1,xu a2
   exact⟨_,rfl,hyp⟩
  .have a1:ACu (zF ⟨hp,gs,dr,tk,os⟩) l xs:=i1
   have a2:ABK (zF ⟨hp.push {cls:=.type "list_iterator",data:=.fields #[.ref l,.int 0 0]},gs,dr,tk,os⟩) m ys:=i3
   wp_walk using xu a1,yb a2
   exact⟨_,rfl,hyp⟩
  .have a1:ABK (zF ⟨hp,gs,dr,tk,os⟩) l xs:=i1
   have a2:ACu (zF ⟨hp.push {cls:=.type "tuple_iterator",data:=.fields #[.ref l,.int 0 0]},gs,dr,tk,os⟩) m ys:=i3
   wp_walk using yb a1,xu a2
   exact⟨_,rfl,hyp⟩
  .have a1:ABK (zF ⟨hp,gs,dr,tk,os⟩) l xs:=i1
   have a2:ABK (zF ⟨hp.push {cls:=.type "tuple_iterator",data:=.fields #[.ref l,.int 0 0]},gs,dr,tk,os⟩) m ys:=i3
   wp_walk using yb a1,yb a2
   exact⟨_,rfl,hyp⟩
section
variable{s:vw}
def cR(q:Of h b l its)(k:∀c o,h.get? c=Gc o->h'.get? c=Gc o)(e:h'.get? j=Gc {cls:=.type (jJ b),data:=.fields #[.ref l,.int 0 0]}):SIt h' j l 0 its:=by
 cases b
 .exact .inl ⟨⟨_,e,rfl,rfl⟩,(show h.IsList l its from q).at λo z=>k _ o z⟩
 .exact .inr ⟨⟨_,e,rfl,rfl⟩,let⟨o,z,r⟩:=(show h.IsTuple l its from q);⟨o,k _ o z,r⟩⟩
def WM(i1:Of s.heap b l xs)(i2:Of s.heap c m ys)(k:∀h',ABa h' (s.heap.objs.size+4) (s.heap.objs.size+2) (s.heap.objs.size+3) .none->zL h' (s.heap.objs.size+2) (.ref s.heap.objs.size) (.ref (s.heap.objs.size+1))->zL h' (s.heap.objs.size+3) .none .none->SIt h' s.heap.objs.size l 0 xs->SIt h' (s.heap.objs.size+1) m 0 ys->(∀c o,s.heap.get? c=Gc o->h'.get? c=Gc o)->Q (.ref (s.heap.objs.size+4)) {s with heap:=h'}):wpAny (model prog w) A (call (.type "zip") [.ref l,.ref m]) Q E s:=by
 refine callType_new F.called_zip (by decide) (F.typeCall_zip_2 _ _) (F.newCall_zip_2 _ _) (λobj=>F.args_object_init_3 obj _ _) F.entry_zip_new (aw b c l m xs ys) ⟨i1,i2,?_⟩
 have z1:(zh1 s.heap b l).objs.size=s.heap.objs.size+1:=yG ..
 have z2:(zh2 s.heap b c l m).objs.size=s.heap.objs.size+2:=by unfold zh2 zh1;rw[yG];exact congrArg (· +1) z1
 have z3:(zh3 s.heap b c l m).objs.size=s.heap.objs.size+3:=by unfold zh3;rw[yG,z2]
 have z4:(zh4 s.heap b c l m).objs.size=s.heap.objs.size+4:=by unfold zh4;rw[yG,z3]
 have kp:∀d o,s.heap.get? d=Gc o->(zh5 s.heap b c l m).get? d=Gc o:=λd o e=>by
  unfold zh5 zh4 zh3 zh2 zh1
  exact vc _ (vc _ (vc _ (vc _ (vc _ e))))
 have g5:(zh5 s.heap b c l m).get? (zh4 s.heap b c l m).objs.size=Gc _:=wI _ rfl
 have g4:(zh5 s.heap b c l m).get? (zh3 s.heap b c l m).objs.size=Gc _:=vc _ (wI _ rfl)
 have g3:(zh5 s.heap b c l m).get? (zh2 s.heap b c l m).objs.size=Gc _:=vc _ (vc _ (wI _ rfl))
 have g2:(zh5 s.heap b c l m).get? (zh1 s.heap b l).objs.size=Gc _:=vc _ (vc _ (vc _ (wI _ rfl)))
 have g1:(zh5 s.heap b c l m).get? s.heap.objs.size=Gc _:=vc _ (vc _ (vc _ (vc _ (wI _ rfl))))
 show _/\_
 rw[z2,z3,z4]at g5
 rw[z1,z2]at g3
 rw[z3]at g4
 rw[z1]at g2
 rw[z4]
 exact⟨⟨_,g5,rfl⟩,k _ g5 g3 g4 (cR i1 kp g1) (cR i2 kp g2) kp⟩
end
end L2
end
noncomputable section
namespace L2
open PySem PySem.Spec PyProof.Rows
def SqB(K:vZ)(H:Hp)(k:xD)(a:vy)(xs:Wp V):Prop:=match k with|true=>SqT K H a xs|false=>SqL K H a xs
def JIt(h:xZ)(k:xD)(j l:vy)(i:Nat):Prop:=match k with|true=>h.IsTupleIter j l i|false=>h.IsListIter j l i
def JIt.at(q:JIt h k j l i)(e:∀o,h.get? j=Gc o->h'.get? j=Gc o):JIt h' k j l i:=by
 cases k
 .exact Heap.IsListIter.at q e
 .exact Heap.IsTupleIter.at q e
def JIt.sit(q:JIt h k j l i)(p:Of h k l its):SIt h j l i its:=by
 cases k
 .exact .inl ⟨q,p⟩
 .exact .inr ⟨q,p⟩
def SIt.jit(q:SIt h j l i its)(p:Of h k l its):JIt h k j l i:=by
 rcases q with⟨q,r⟩|⟨q,r⟩
 .cases k
  .exact q
  .obtain⟨o,e,c,_⟩:=r;obtain⟨o',e',c',_⟩:=(show h.IsTuple l its from p)
   rw[e]at e';cases e';rw[c]at c';injection c' with z;exact absurd z (by decide)
 .cases k
  .obtain⟨o,e,c,_⟩:=r;obtain⟨o',e',c',_⟩:=(show h.IsList l its from p)
   rw[e]at e';cases e';rw[c]at c';injection c' with z;exact absurd z (by decide)
  .exact q
def Inv.sqB{σ:St}(I:Inv X pins σ H s)(h:SqB X.K H k a xs):∃its,Vals xs its/\Of s.heap k a its.toArray:=by
 cases k
 .obtain⟨its,h1,⟨o,n,q1,q2,_,q3⟩,h3⟩:=I.list h
  exact⟨its,h1,o,q1,q2,n,q3⟩
 .obtain⟨its,h1,h2,h3⟩:=I.tuple h
  exact⟨its,h1,h2⟩
def Inv.Tq{σ:St}(I:Inv X pins σ H s)(h:SqB X.K H k a xs)(g:SqB X.K H k a ys):xs=ys:=by
 cases k
 .exact I.Uj h g
 .exact I.SA h g
noncomputable def Itz(K:vZ)(k:xD)(a:vy)(m:xD)(b:vy):It:=
 ⟨λi H=>∃(xs ys:Wp V) (x y:V),SqB K H k a xs/\SqB K H m b ys/\xs[i]?=Gc x/\ys[i]?=Gc y,
  λi H v H'=>∃(p:vy) (x y:V),H p=none/\v=.ref p/\(∀xs,SqB K H k a xs->xs[i]?=Gc x)/\(∀ys,SqB K H m b ys->ys[i]?=Gc y)/\H'=upd H p (.tup [x,y]),
  λi H=>∃(xs ys:Wp V),SqB K H k a xs/\SqB K H m b ys/\(xs.length<=i\/ys.length<=i)⟩
structure ZSt(h:xZ)(z ti tt j1 j2:vy)(k:xD)(a:vy)(m:xD)(b:vy)(i:Nat):Prop where
 oz:ABa h z ti tt .none
 oi:zL h ti (.ref j1) (.ref j2)
 ot:∃u v,zL h tt u v
 q1:JIt h k j1 a i
 q2:JIt h m j2 b i
structure ZNe(z ti tt j1 j2:vy):Prop where
 n1:ti≠z
 n2:tt≠z
 n3:j1≠z
 n4:j2≠z
 n5:ti≠tt
 n6:ti≠j1
 n7:ti≠j2
 n8:tt≠j1
 n9:tt≠j2
 n10:j1≠j2
def ZNe.apart(N:ZNe z ti tt j1 j2)(ha:a∉ [z,tt,j1,j2])(hb:b∉ [z,tt,j1,j2]):ZipApart z ti tt j1 j2 a b:=by
 simp only[ve,vo,wW,ACv]at ha hb
 exact⟨N.n1,N.n2,N.n3,N.n4,N.n5,N.n6,N.n7,N.n8,N.n9,N.n10,ha.1,ha.2.1,ha.2.2.1,ha.2.2.2,hb.1,hb.2.1,hb.2.2.1,hb.2.2.2⟩
def BR{σ:St}(I:Inv X pins σ H s)(q:SqB X.K H k a xs)(f:SW X pins H c):a≠c:=by
 intro e
 subst e
 have rd:∀o,Rd H a o->yV:=λo r=>by
  rcases r with r|⟨_,r⟩<;>(rw[f.1]at r;cases r)
 have kk:∀o,X.K.lookup a=Gc o->yV:=λo hk=>by
  have b:=I.ok.mod.kin a o hk
  rcases f.2.2.2.1 with z|z
  .exact I.ok.cT a o b z
  .exact absurd (vd (vz (I.ok.bs a o b).1) z) (yD _)
 cases k
 .rcases(show SqL X.K H a xs from q)with q|⟨o,_,_,hk,_⟩
  .exact rd _ q
  .exact kk o hk
 .rcases(show SqT X.K H a xs from q)with q|⟨o,_,_,hk,_⟩
  .exact rd _ q
  .exact kk o hk
theorem ax{P:xK}{K:vZ} k a m b z ti tt j1 j2(N:ZNe z ti tt j1 j2):Turn P w K (.Tuple elts n pos) (Itz K k a m b) [z,ti,tt,j1,j2] z (λi h=>ZSt h z ti tt j1 j2 k a m b i) where
 mem:=by simp
 obj:=λi h st c hc=>by
  have jl:∀{q:xD} {j l:vy},JIt h q j l i->∃o,h.get? j=Gc o/\∀v,o.data≠.cell v:=λ{q j l} x=>by
   cases q
   .obtain⟨o,e,_,d⟩:=(show h.IsListIter j l i from x)
    exact⟨o,e,λv z=>by rw[d]at z;cases z⟩
   .obtain⟨o,e,_,d⟩:=(show h.IsTupleIter j l i from x)
    exact⟨o,e,λv z=>by rw[d]at z;cases z⟩
  simp only[ve,vo,wW]at hc
  rcases hc with rfl|rfl|rfl|rfl|rfl
  .exact⟨_,st.oz,λv z=>nomatch z⟩
  .exact⟨_,st.oi,λv z=>nomatch z⟩
  .obtain⟨u,v,e⟩:=st.ot
   exact⟨_,e,λv z=>nomatch z⟩
  .exact jl st.q1
  .exact jl st.q2
 keep:=λi h h' st kp=>⟨kp z (by simp) _ st.oz,kp ti (by simp) _ st.oi,let⟨u,v,e⟩:=st.ot;⟨u,v,kp tt (by simp) _ e⟩,st.q1.at λo e=>kp j1 (by simp) o e,st.q2.at λo e=>kp j2 (by simp) o e⟩
 item:=by
  intro X hP hw hK hc i pins s σ H E I hf st hg
  subst hP hw hK
  obtain⟨xs,ys,x,y,s1,s2,e1,e2⟩:=hg
  obtain⟨i1,r1,p1⟩:=I.sqB s1
  obtain⟨i2,r2,p2⟩:=I.sqB s2
  obtain⟨u1,h1,ru1⟩:=r1.get e1
  obtain⟨u2,h2,ru2⟩:=r2.get e2
  have fz:=hf z (by simp);have fi:=hf ti (by simp);have ft:=hf tt (by simp);have f1:=hf j1 (by simp);have f2:=hf j2 (by simp)
  have ap:=N.apart (a:=a) (b:=b) (by simp[BR I s1 fz,BR I s1 ft,BR I s1 f1,BR I s1 f2]) (by simp[BR I s2 fz,BR I s2 ft,BR I s2 f1,BR I s2 f2])
  obtain⟨v1,v2,ot⟩:=st.ot
  refine Vt ap st.oz st.oi ot (st.q1.sit p1) (st.q2.sit p2) (x:=u1) (y:=u2) (by simpa using h1) (by simpa using h2) λh' oz ot' q1 q2 op kp=>⟨_,rfl,wpAny_letOwnedTupleGo_zip oz λg oz' sb=>?_⟩
  have lt:∀c o,s.heap.get? c=Gc o->c≠s.heap.objs.size:=λc o q=>wZ (vz q)
  have nz:z≠s.heap.objs.size:=lt _ _ st.oz
  have nt:tt≠s.heap.objs.size:=lt _ _ ot
  have n1:j1≠s.heap.objs.size:=by obtain⟨o,e,_⟩:=(st.q1.sit p1).live;exact lt _ _ e
  have n2:j2≠s.heap.objs.size:=by obtain⟨o,e,_⟩:=(st.q2.sit p2).live;exact lt _ _ e
  have kp2:∀c o,c≠z->c≠tt->c≠j1->c≠j2->s.heap.get? c=Gc o->g.get? c=Gc o:=λc o c1 c2 c3 c4 q=>(sb.2 c c1).trans (kp c o c1 c2 c3 c4 q)
  have fr:H s.heap.objs.size=none:=I.hok.fresh (vf _)
  have op2:g.get? s.heap.objs.size=Gc {cls:=.type "tuple",data:=.seq #[u1,u2]}:=(sb.2 _ (xv nz)).trans op
  have ne:∀c u,c∈ [z,ti,tt,j1,j2]->∀d,H d=Gc u->d≠c:=λc u hc d q e=>by rw[e,(hf c hc).1]at q;cases q
  have kpH:∀c u,H c=Gc u->∀o,s.heap.get? c=Gc o->g.get? c=Gc o:=λc u q o e=>kp2 c o (ne z u (by simp) c q) (ne tt u (by simp) c q) (ne j1 u (by simp) c q) (ne j2 u (by simp) c q) e
  have ka:∀o,s.heap.get? a=Gc o->g.get? a=Gc o:=λo e=>kp2 a o (BR I s1 fz) (BR I s1 ft) (BR I s1 f1) (BR I s1 f2) e
  have kb:∀o,s.heap.get? b=Gc o->g.get? b=Gc o:=λo e=>kp2 b o (BR I s2 fz) (BR I s2 ft) (BR I s2 f1) (BR I s2 f2) e
  have sq:∀{q:xD} {d:vy} {is:AAn vm},Of s.heap q d is->(∀o,s.heap.get? d=Gc o->h'.get? d=Gc o)->Of h' q d is:=λ{q d is} x kd=>by
   cases q
   .exact(show s.heap.IsList d is from x).at kd
   .obtain⟨o,e,r⟩:=(show s.heap.IsTuple d is from x)
    exact⟨o,kd o e,r⟩
  have ka1:∀o,s.heap.get? a=Gc o->h'.get? a=Gc o:=λo e=>kp a o (BR I s1 fz) (BR I s1 ft) (BR I s1 f1) (BR I s1 f2) e
  have kb1:∀o,s.heap.get? b=Gc o->h'.get? b=Gc o:=λo e=>kp b o (BR I s2 fz) (BR I s2 ft) (BR I s2 f1) (BR I s2 f2) e
  refine⟨.ref s.heap.objs.size,upd H s.heap.objs.size (.tup [x,y]),?_,rfl,⟨_,x,y,fr,rfl,λzs hz=>by rw[I.Tq hz s1];exact e1,λzs hz=>by rw[I.Tq hz s2];exact e2,rfl⟩,⟨oz',(sb.2 _ N.n1).trans (kp ti _ N.n1 N.n5 N.n6 N.n7 st.oi),⟨_,_,(sb.2 _ N.n2).trans ot'⟩,(q1.jit (sq p1 ka1)).at λo e=>(sb.2 _ N.n3).trans e,(q2.jit (sq p2 kb1)).at λo e=>(sb.2 _ N.n4).trans e⟩,?_⟩
  .show Inv X pins σ _ {s with heap:=g,gens:=s.gens,drawn:=s.drawn,toks:=s.toks}
   refine I.step (g':=s.gens) (d':=s.drawn) (ch:=[z,tt,j1,j2]) ?_ ?_ ?_ ?_ ?_ ?_ ?_ ?_ ?_ ?_ I.bare
   .intro c hc
    have q:SW X pins H c:=hf c (by simp only[ve,vo,wW]at hc ⊢; rcases hc with z|z|z|z<;>simp[z])
    exact⟨q.2.2.2.1,q.2.1,q.2.2.2.2.1,q.2.2.2.2.2⟩
   .exact λc o _ _ hc q _=>by
     simp only[ve,vo,wW,ACv]at hc
     exact kp2 c o hc.1 hc.2.1 hc.2.2.1 hc.2.2.2 q
   .exact λc o _ _ hc q _=>by
     simp only[ve,vo,wW,ACv]at hc
     exact⟨o.slots,kp2 c o hc.1 hc.2.1 hc.2.2.1 hc.2.2.2 q⟩
   .exact λc o _ q n=>by rw[Ay (lt c o q)];exact n
   .exact λc o hc q=>by
     simp only[ve,vo,wW,ACv]at hc
     exact⟨o,kp2 c o hc.1 hc.2.1 hc.2.2.1 hc.2.2.2 q⟩
   .exact λc ys q=>by rw[Ay (BG q fr)];exact q
   .exact λc o u q=>by rw[Ay (BG q fr)];exact q
   .exact λc ps q=>⟨#[],by rw[Ay (BG q fr),q];simp⟩
   .rintro mm ⟨o,es,ep,ho,r⟩
    exact⟨o,es,ep,kp2 _ o (xv fz.2.1) (xv ft.2.1) (xv f1.2.1) (xv f2.2.1) ho,r⟩
   .intro c v q
    by_cases hb:c=s.heap.objs.size
    .subst hb
     rw[B7]at q
     cases q
     exact⟨by show 2<=sizeLine;decide,[u1,u2],.cons ru1 (.cons ru2 .nil),⟨_,op2,rfl,0,rfl⟩⟩
    .rw[Ay hb]at q
     refine(I.hok c v q).Zw (λd o hd r=>?_) (λd r=>by rw[Ay (BG r fr)];exact r) (λd ys r=>by rw[Ay (BG r fr)];exact r)
     rcases hd with e|e
     .rw[e]at r ⊢; exact kpH c v q o r
     .exact kpH d _ e o r
  .intro c hc
   have q:=hf c hc
   have:c≠s.heap.objs.size:=by
    simp only[ve,vo,wW]at hc
    rcases hc with e|e|e|e|e
    .rw[e];exact nz
    .rw[e];exact lt _ _ st.oi
    .rw[e];exact nt
    .rw[e];exact n1
    .rw[e];exact n2
   rw[Ay this];exact q.1
 done:=by
  intro X hP hw hK hc i pins s σ H E I hf st hg
  subst hP hw hK
  obtain⟨xs,ys,s1,s2,e⟩:=hg
  obtain⟨i1,r1,p1⟩:=I.sqB s1
  obtain⟨i2,r2,p2⟩:=I.sqB s2
  have l1:=r1.length
  have l2:=r2.length
  have hh:X.A.in1.handled=none:=I.ok.hd hc
  have hh0:X.A.handled=none:=I.ok.hd hc
  have fz:=hf z (by simp);have fi:=hf ti (by simp);have ft:=hf tt (by simp);have f1:=hf j1 (by simp);have f2:=hf j2 (by simp)
  have ap:=N.apart (a:=a) (b:=b) (by simp[BR I s1 fz,BR I s1 ft,BR I s1 f1,BR I s1 f2]) (by simp[BR I s2 fz,BR I s2 ft,BR I s2 f1,BR I s2 f2])
  obtain⟨v1,v2,ot⟩:=st.ot
  refine XA hh0 ap st.oz st.oi ot (st.q1.sit p1) (st.q2.sit p2) (by rcases e with e|e;exact .inl (by simp;lia);exact .inr (by simp;lia)) λh' kp=>⟨rfl,?_⟩
  have ne:∀c u,c∈ [z,ti,tt,j1,j2]->∀d,H d=Gc u->d≠c:=λc u hc d q e=>by rw[e,(hf c hc).1]at q;cases q
  show Inv X pins σ _ {s with heap:=h',gens:=s.gens,drawn:=s.drawn,toks:=s.toks}
  refine I.step (g':=s.gens) (d':=s.drawn) (ch:=[z,tt,j1,j2]) ?_ ?_ ?_ ?_ ?_ ?_ ?_ ?_ ?_ ?_ I.bare
  .intro c hc
   have q:SW X pins H c:=hf c (by simp only[ve,vo,wW]at hc ⊢; rcases hc with z|z|z|z<;>simp[z])
   exact⟨q.2.2.2.1,q.2.1,q.2.2.2.2.1,q.2.2.2.2.2⟩
  .exact λc o _ _ hc q _=>by
    simp only[ve,vo,wW,ACv]at hc
    exact kp c o hc.1 hc.2.1 hc.2.2.1 hc.2.2.2 q
  .exact λc o _ _ hc q _=>by
    simp only[ve,vo,wW,ACv]at hc
    exact⟨o.slots,kp c o hc.1 hc.2.1 hc.2.2.1 hc.2.2.2 q⟩
  .exact λc o _ q n=>n
  .exact λc o hc q=>by
    simp only[ve,vo,wW,ACv]at hc
    exact⟨o,kp c o hc.1 hc.2.1 hc.2.2.1 hc.2.2.2 q⟩
  .exact λc ys q=>q
  .exact λc o u q=>q
  .exact λc ps q=>⟨#[],by rw[q];simp⟩
  .rintro mm ⟨o,es,ep,ho,r⟩
   exact⟨o,es,ep,kp _ o (xv fz.2.1) (xv ft.2.1) (xv f1.2.1) (xv f2.2.1) ho,r⟩
  .intro c v q
   refine(I.hok c v q).Zw (λd o hd r=>?_) (λd r=>r) (λd ys r=>r)
   rcases hd with e|e
   .rw[e]at r ⊢; exact kp c o (ne z v (by simp) c q) (ne tt v (by simp) c q) (ne j1 v (by simp) c q) (ne j2 v (by simp) c q) r
   .exact kp d o (ne z _ (by simp) d e) (ne tt _ (by simp) d e) (ne j1 _ (by simp) d e) (ne j2 _ (by simp) d e) r
 self:=λ_ _ _ _ _ st h=>wpAny_pyIter_zip st.oz h
end L2
end
noncomputable section
namespace L2
open PySem PySem.Spec PyProof.Rows
def zne(n:Nat):ZNe (n+4) (n+2) (n+3) n (n+1):=⟨λe=>by have:n+2=n+4:=e;lia,λe=>by have:n+3=n+4:=e;lia,λe=>by have:n=n+4:=e;lia,λe=>by have:n+1=n+4:=e;lia,λe=>by have:n+2=n+3:=e;lia,λe=>by have:n+2=n:=e;lia,λe=>by have:n+2=n+1:=e;lia,λe=>by have:n+3=n:=e;lia,λe=>by have:n+3=n+1:=e;lia,λe=>by have:n=n+1:=e;lia⟩
noncomputable def tN(K:vZ)(ta:TA):TI:=λσ H R=>ta σ H λvs H1=>∃k a m b,vs=[.ref a,.ref b]/\(∃xs,SqB K H1 k a xs)/\(∃ys,SqB K H1 m b ys)/\R (Itz K k a m b) H1
def kh{p pos tp:Pos}{elts:Wp xM}{n:Nat}(hg:Gl X "zip")(hm:X.mg "zip"=none)(ha:PA X [a,b] ta)(hs:xz (wD [a,b] X.env=[(false,eval a X.env),(false,eval b X.env)]) wp)(hs2:xz (wD [b] X.env=[(false,eval b X.env)]) wp):PI X (.Tuple elts n tp) (.Call (.Name "zip" p) [a,b] [] pos) (tN X.K ta):=by
 intro pins s σ H R I h
 refine Call_ (Ow I hg hm boot_zip (zo (thn (ha pos pins s σ H _ I h) λus s1 ⟨vs,H1,I1,r1,q1⟩=>?_) (by rw[hs,hs2]) (by rw[hs2];rfl)))
 obtain⟨k,a',m,b',e,⟨xs,hq⟩,⟨ys,hr⟩,q⟩:=q1
 subst e
 obtain⟨u,v,rfl,ru,rv⟩:=r1.two
 cases (show u=w9 a' from ru)
 cases (show v=w9 b' from rv)
 obtain⟨i1,v1,p1⟩:=I1.sqB hq
 obtain⟨i2,v2,p2⟩:=I1.sqB hr
 refine WM p1 p2 λh' oz oi ot q1 q2 kp=>wpAny_pyIter_zip (s:={s1 with heap:=h'}) oz ?_
 have sq:∀{q:xD} {d:vy} {is:AAn vm},Of s1.heap q d is->Of h' q d is:=λ{q d is} x=>by
  cases q
  .exact(show s1.heap.IsList d is from x).at λo e=>kp _ o e
  .obtain⟨o,e,r⟩:=(show s1.heap.IsTuple d is from x)
   exact⟨o,kp _ o e,r⟩
 refine⟨s1.heap.objs.size+4,[s1.heap.objs.size+4,s1.heap.objs.size+2,s1.heap.objs.size+3,s1.heap.objs.size,s1.heap.objs.size+1],_,_,H1,rfl,I1.kept (t':=s1.toks) kp,
  ax k a' m b' _ _ _ _ _ (zne s1.heap.objs.size),⟨oz,oi,⟨_,_,ot⟩,q1.jit (sq p1),q2.jit (sq p2)⟩,λc hc=>?_,q⟩
 simp only[ve,vo,wW]at hc
 have:s1.heap.objs.size<=c:=by rcases hc with rfl|rfl|rfl|rfl|rfl<;>first|exact vf _|exact yr _ _
 exact I1.gM this (I1.hok.fresh this)
end L2
end
noncomputable section
namespace L2
open PySem PySem.Spec PyProof.Rows
def IsList.T5{h h':xZ}(p:h.IsList a items)(k:∀o,h.get? a=Gc o->h'.get? a=Gc o):h'.IsList a items:=by
 obtain⟨o,ho,r⟩:=p
 exact⟨o,k o ho,r⟩
theorem R6(hne:t≠it):∀n i s Q,s.heap.IsListIter it t i->s.heap.IsList t items->i+n<=items.size->(∀h',h'.IsListIter it t (i+n)->ABF it s.heap h'->Q ((items.toList.drop i).take n) {s with heap:=h'})->wpAny (model prog w) A (draw (.ref it) n) Q E s
 |0,i,s,Q,hit,_,_,hQ=>by
  show wpAny _ _ (pure []) Q E s
  exact v9 (by simpa using hQ s.heap hit (Heap.SameBut.refl ..))
 |n+1,i,s,Q,hit,ht,hle,hQ=>by
  have hlt:i<items.size:=by lia
  show wpAny _ _ (pyNext (.ref it) >>= _) Q E s
  refine vb (zY hit ht (x:=items[i]) (by simp[hlt]) λh1 hit1 hs1=>?_)
  refine vb (xW (R6 hne n (i+1) _ _ hit1 (IsList.T5 ht λo e=>hs1.extBut t o hne e) (by lia) λh2 hit2 hs2=>v9 ?_))
  have hd:items.toList.drop i=items[i]::items.toList.drop (i+1):=by simp[xi,hlt]
  have:=hQ h2 (by rw[show i+(n+1)=i+1+n by lia];exact hit2) (hs1.trans hs2)
  rw[hd,List.take_succ_cons]at this
  exact this
def Mb(hh:A.handled=none)(ht:s.heap.IsList t items)(hty:s.TypeIs (.ref t) "list")(hQ:∀h',ABr s.heap.objs.size s.heap h'->Q items.toList {s with heap:=h'}):wpAny (model prog w) A (unpackItems (.ref t) items.size none) Q E s:=by
 have hlt:t≠s.heap.objs.size:=by obtain⟨o,ho,_⟩:=ht;exact wZ (vz ho)
 unfold unpackItems
 refine vb ?_
 .unfold notIterableAtAll
  refine vb (wpAny_specialOf hty ADG.lookup ?_)
  refine v9 ?_
  simp only[AAX,AAe]
  refine vb (xW (xu ht ?_))
  refine vb (xW (R6 hlt items.size 0 _ _ ⟨_,wI _ rfl,rfl,rfl⟩ (IsList.T5 ht λo e=>vc _ e) (by lia) λh1 hit1 hs1=>?_))
  have hall:List.take items.size (List.drop 0 items.toList)=items.toList:=by
   rw[List.drop_zero];exact yp (by simp)
  rw[hall]
  rw[wy (by simp)]
  have ht1:h1.IsList t items:=IsList.T5 (IsList.T5 ht λo e=>vc _ e) λo e=>hs1.extBut t o hlt e
  refine vb (xW (AAo hh hit1 ht1 (by simp) λh2 he2=>?_))
  simp only[Option.isSome_none,AAX,AAe]
  refine v9 (hQ h2 λb o hb e=>he2 b o hb (hs1.extBut b o hb (vc _ e)))
def Le{x1}(hh:A.handled=none)(ht:s.heap.IsList t items)(hty:s.TypeIs (.ref t) "list")(hn:(assignEach elts env).length=items.size)(hstar:(assignEach elts env).findIdx? (·.1)=none)(h:∀h',ABr s.heap.objs.size s.heap h'->wpAny (model prog w) A (assignInOrder ((assignEach elts env).map (·.2)) items.toList) Q E {s with heap:=h'}):wpAny (model prog w) A (assign (.Tuple elts x1 pos) env (.ref t)) Q E s:=by
 rw[ADO]
 refine vb (zk ?_)
 unfold unpack
 rw[hn,hstar]
 exact vb (xW (Mb hh ht hty h))
section
variable{X:Cx}{pos:Pos}
noncomputable def tw(K:vZ)(n:Nat)(t:TGs):TG:=λv σ H Q=>∃a xs,v=.ref a/\(SqT K H a xs\/H a=Gc (.lst xs))/\xs.length=n/\t xs σ H Q
def lC{k:Nat}(hc:X.calm=true)(h:PGs X es t)(hn:xz ((assignEach es X.env).length=n) wp)(hst:xz ((assignEach es X.env).findIdx? (·.1)=none) wp):PG X (.Tuple es k pos) (tw X.K n t):=by
 intro pins s σ H v u Q I r hw
 obtain⟨a,xs,e1,hq,hl,hw⟩:=hw
 rcases hq with hq|hq
 .exact kC hc h hn hst pins s σ H v u Q I r ⟨a,xs,e1,hq,hl,hw⟩
 .subst e1
  cases r
  obtain⟨its,rv,p,hz⟩:=I.list (SqL.of hq)
  obtain⟨z,its2,m,rv2,_,e⟩:=I.aT hq
  refine Le (I.ok.hd hc) p.isList ⟨_,e,rfl⟩ (by simp[hn,<-hl,rv.length]) hst λh' hx=>?_
  have I1:Inv X pins σ H {s with heap:=h'}:=I.kept (t':=s.toks) λb o e=>hx b o (wZ (vz e)) e
  exact h pins _ σ H xs _ Q I1 (by simpa using rv) hw
end
end L2
end
noncomputable section
namespace L2
open PySem PySem.Spec PyProof.Rows
def JIt.live(q:JIt h k j l i):∃o,h.get? j=Gc o/\∀v,o.data≠.cell v:=by
 cases k with
 |true=>obtain⟨o,e,c,d⟩:=q;exact⟨o,e,λv z=>by rw[d]at z;cases z⟩
 |false=>obtain⟨o,e,c,d⟩:=q;exact⟨o,e,λv z=>by rw[d]at z;cases z⟩
def Of.mono(q:Of h k l its)(e:∀o,h.get? l=Gc o->h'.get? l=Gc o):Of h' k l its:=by
 cases k with
 |true=>obtain⟨o,ho,r⟩:=q;exact⟨o,e o ho,r⟩
 |false=>obtain⟨o,ho,r⟩:=q;exact⟨o,e o ho,r⟩
theorem Wl(hh:A.handled=none) it t(hne:t≠it) items:Draws prog w A it [it,t] items.size (λi v=>items[i]?=Gc v) (λi h=>SIt h it t i items) where
 live:=λ_ _ st=>let⟨o,ho,_⟩:=st.live;⟨o,ho⟩
 frame:=λ_ _ _ st hk=>st.at (λo e=>hk it (by simp) o e) λo e=>hk t (by simp) o e
 item:=λi s Q E hi st hQ=>Mx st (x:=items[i]) (by simp[hi]) λh' a b=>hQ _ h' s.toks (by simp[hi]) a b
 done:=λs Q E st hE=>Mz hh st (by simp) hE
noncomputable def ItE(K:vZ)(kk:xD)(a:vy):It:=
 ⟨λi H=>∃xs x,SqB K H kk a xs/\xs[i]?=Gc x,λi H x H'=>∃p y,H p=none/\x=.ref p/\(∀xs,SqB K H kk a xs->xs[i]?=Gc y)/\H'=upd H p (.tup [.int i,y]),λi H=>∃xs,SqB K H kk a xs/\xs.length<=i⟩
theorem VG{P:xK}{K:vZ} kk a e it(hei:e≠it):Turn P w K (.Tuple elts k pos) (ItE K kk a) [e,it] e (λi h=>(∃old,IsEnum h e it i old)/\JIt h kk it a i) where
 mem:=by simp
 obj:=λi h st b hb=>by
  obtain⟨⟨old,h1⟩,st2⟩:=st
  obtain⟨o,h2,h4⟩:=st2.live
  simp only[ve,vo,wW]at hb
  rcases hb with rfl|rfl
  .exact⟨_,h1,λv z=>nomatch z⟩
  .exact⟨o,h2,h4⟩
 keep:=λi h h' st k=>by
  obtain⟨⟨old,h1⟩,h2⟩:=st
  exact⟨⟨old,k e (by simp) _ h1⟩,h2.at λo q=>k it (by simp) o q⟩
 item:=by
  intro X hP hw hK hc i pins s σ H E I hf st hg
  subst hP hw hK
  obtain⟨xs,x,hq,hx⟩:=hg
  obtain⟨its,rv,p⟩:=I.sqB hq
  obtain⟨u,hu,ru⟩:=rv.get hx
  obtain⟨⟨old,h1⟩,h2⟩:=st
  obtain⟨oi,hi1,hi2⟩:=h2.live
  have hea:a≠e:=BR I hq (hf e (by simp))
  have hia:a≠it:=BR I hq (hf it (by simp))
  have hil:i<its.toArray.size:=by
   have:=(vt.mp hu).1
   simpa using this
  have hh:X.A.in1.handled=none:=I.ok.hd hc
  have D:=Wl (prog:=X.prog) (w:=X.w) hh it a hia its.toArray
  refine wpAny_pyNext_enum_itemD D h1 (h2.sit p) hil hei (by simp[hei,xv hea]) ?_
  intro y h' tk hy out st' tup size kept
  have ey:y=u:=by
   have:its[i]?=Gc y:=by simpa using hy
   rw[hu]at this
   exact(yI this).symm
  subst ey
  refine⟨_,rfl,wpAny_letOwnedTupleGo_enum out λh'' en sb=>?_⟩
  have hfe:=hf e (by simp)
  have hfi:=hf it (by simp)
  have lt:∀b o,s.heap.get? b=Gc o->b≠s.heap.objs.size:=λb o q=>wZ (vz q)
  have kept2:∀b o,b≠e->b≠it->s.heap.get? b=Gc o->h''.get? b=Gc o:=λb o b1 b2 q=>(sb.2 b b1).trans (kept b o b1 b2 q)
  have fr:H s.heap.objs.size=none:=I.hok.fresh (vf _)
  have tup2:h''.get? s.heap.objs.size=Gc {cls:=.type "tuple",data:=.seq #[.int i tk,y]}:=(sb.2 _ (xv (lt e _ h1))).trans tup
  have ne1:∀b u,H b=Gc u->b≠e:=λb u q z=>by rw[z,hfe.1]at q;cases q
  have ne2:∀b u,H b=Gc u->b≠it:=λb u q z=>by rw[z,hfi.1]at q;cases q
  refine⟨.ref s.heap.objs.size,upd H s.heap.objs.size (.tup [.int i,x]),?_,rfl,⟨_,x,fr,rfl,λys hys=>by rw[I.Tq hys hq];exact hx,rfl⟩,⟨⟨y,en⟩,?_⟩,?_⟩
  .show Inv X pins σ _ {s with heap:=h'',gens:=s.gens,drawn:=s.drawn,toks:=tk+1}
   refine I.step (g':=s.gens) (d':=s.drawn) (ch:=[e,it]) ?_ ?_ ?_ ?_ ?_ ?_ ?_ ?_ ?_ ?_ I.bare
   .intro b hb
    simp only[ve,vo,wW]at hb
    rcases hb with rfl|rfl
    .exact⟨hfe.2.2.2.1,hfe.2.1,hfe.2.2.2.2.1,hfe.2.2.2.2.2⟩
    .exact⟨hfi.2.2.2.1,hfi.2.1,hfi.2.2.2.2.1,hfi.2.2.2.2.2⟩
   .exact λb o _ _ hc q _=>kept2 b o (λz=>hc (by simp[z])) (λz=>hc (by simp[z])) q
   .exact λb o _ _ hc q _=>⟨o.slots,kept2 b o (λz=>hc (by simp[z])) (λz=>hc (by simp[z])) q⟩
   .exact λb o _ q n=>by rw[Ay (lt b o q)];exact n
   .exact λb o hc q=>⟨o,kept2 b o (λz=>hc (by simp[z])) (λz=>hc (by simp[z])) q⟩
   .exact λb ys q=>by rw[Ay (BG q fr)];exact q
   .exact λb o u q=>by rw[Ay (BG q fr)];exact q
   .exact λb ps q=>⟨#[],by rw[Ay (BG q fr),q];simp⟩
   .rintro m ⟨o,es,ep,ho,r⟩
    exact⟨o,es,ep,kept2 _ o (xv hfe.2.1) (xv hfi.2.1) ho,r⟩
   .intro b v q
    by_cases hb:b=s.heap.objs.size
    .subst hb
     rw[B7]at q
     cases q
     exact⟨by show 2<=sizeLine;decide,[.int i tk,y],.cons ⟨tk,rfl⟩ (.cons ru .nil),⟨_,tup2,rfl,0,rfl⟩⟩
    .rw[Ay hb]at q
     refine(I.hok b v q).Zw (λc z hc r=>kept2 c z ?_ ?_ r) (λc r=>by rw[Ay (BG r fr)];exact r) (λc ys r=>by rw[Ay (BG r fr)];exact r)
     .rcases hc with z|z
      .rw[z];exact ne1 b v q
      .exact ne1 c _ z
     .rcases hc with z|z
      .rw[z];exact ne2 b v q
      .exact ne2 c _ z
  .have pa:Of h'' kk a its.toArray:=p.mono λo q=>kept2 a o hea hia q
   exact(st'.at (λo q=>(sb.2 it (xv hei)).trans q) λo q=>(sb.2 a hea).trans q).jit pa
  .intro b hb
   simp only[ve,vo,wW]at hb
   rcases hb with rfl|rfl
   .rw[Ay (lt b _ h1)];exact hfe.1
   .rw[Ay (lt b _ hi1)];exact hfi.1
 done:=by
  intro X hP hw hK hc i pins s σ H E I hf st hg
  subst hP hw hK
  obtain⟨xs,hq,hx⟩:=hg
  obtain⟨its,rv,p⟩:=I.sqB hq
  obtain⟨⟨old,h1⟩,h2⟩:=st
  have hl:=rv.length
  have hh:X.A.in1.handled=none:=I.ok.hd hc
  obtain⟨f0,f1,f2,f3,f4,f5⟩:=hf it (by simp)
  have D:Draws X.prog X.w X.A.in1 it [it,a] i (λ_ _=>ABE) (λj h=>j=i/\SIt h it a i its.toArray):=
   {live:=λ_ _ st=>let⟨o,ho,_⟩:=st.2.live;⟨o,ho⟩
    frame:=λ_ _ _ st hk=>⟨st.1,st.2.at (λo e=>hk it (by simp) o e) λo e=>hk a (by simp) o e⟩
    item:=λj s Q E hj st _=>absurd st.1 (wZ hj)
    done:=λs Q E st hE=>Mz hh st.2 (by simp;lia) hE}
  exact wpAny_pyNext_enum_endD D h1 ⟨rfl,h2.sit p⟩ λh' eb=>⟨rfl,I.turned (t':=s.toks) (λb o hb q=>eb b o hb q) f0 f1 f3 f4 f5⟩
 self:=λ_ _ _ _ _ st h=>by
  obtain⟨⟨old,h1⟩,_⟩:=st
  exact wpAny_pyIter_enum h1 h
noncomputable def kW(K:vZ)(ta:TA):TI:=λσ H R=>ta σ H λvs H1=>∃kk a,vs=[.ref a]/\(∃xs,SqB K H1 kk a xs)/\R (ItE K kk a) H1
def Zv(hg:Gl X "enumerate")(hm:X.mg "enumerate"=none)(ha:PA X [a] ta)(hs:xz (wD [a] X.env=[(false,eval a X.env)]) wp):PI X (.Tuple elts k tp) (.Call (.Name "enumerate" p) [a] [] pos) (kW X.K ta):=by
 intro pins s σ H R I h
 refine Call_ (Ow I hg hm boot_enumerate (callWith_type1 (thn (ha pos pins s σ H _ I h) λus s1 z=>?_) hs rfl))
 obtain⟨vs,H1,I1,r1,q1⟩:=z
 obtain⟨kk,b,e,⟨xs,hq⟩,q⟩:=q1
 subst e
 obtain⟨u,rfl,ru⟩:=r1.one
 cases (show u=w9 b from ru)
 obtain⟨its,rv,pt⟩:=I1.sqB hq
 have fin:∀h':xZ,IsEnum h' (s1.heap.objs.size+1) s1.heap.objs.size 0 .none->JIt h' kk s1.heap.objs.size b 0->(∀b o,s1.heap.get? b=Gc o->h'.get? b=Gc o)->wpAny (model X.prog X.w) X.A (pyIter (.ref (s1.heap.objs.size+1))) (PIE X pins σ (.Tuple elts k tp) R) X.xe {s1 with heap:=h'}:=λh' en it kp=>by
  refine wpAny_pyIter_enum (s:={s1 with heap:=h'}) en ?_
  refine⟨s1.heap.objs.size+1,[s1.heap.objs.size+1,s1.heap.objs.size],_,_,H1,rfl,I1.kept (t':=s1.toks) kp,VG kk b (s1.heap.objs.size+1) s1.heap.objs.size (Nat.succ_ne_self _),⟨⟨_,en⟩,it⟩,λc hc=>?_,q⟩
  simp only[ve,vo,wW]at hc
  rcases hc with rfl|rfl
  .exact I1.gM (by lia) (I1.hok.fresh (by lia))
  .exact I1.gM (vf _) (I1.hok.fresh (vf _))
 cases kk with
 |true=>exact Vh (show s1.heap.IsTuple b its.toArray from pt) λh' en it kp=>fin h' en it kp
 |false=>exact call_enumerate_list (show s1.heap.IsList b its.toArray from pt) λh' en it _ kp=>fin h' en it kp
end L2
end
noncomputable section
namespace St
open PySem PySem.Spec L2 PyProof.Rows
inductive Kd where
 |non|bl|int|str|tup|lst|dct
 deriving DecidableEq
noncomputable def Kd.ty:Kd->yo
 | .non=>"NoneType" | .bl=>"bool" | .int=>"int" | .str=>"str" | .tup=>"tuple" | .lst=>"list" | .dct=>"dict"
noncomputable def Kd.isA:Kd->yo->xD
 | .bl,"bool"=>true| .bl,"int"=>true| .int,"int"=>true| .str,"str"=>true| .tup,"tuple"=>true| .lst,"list"=>true| .dct,"dict"=>true
 |_,_=>false
section
variable{K:vZ}
def fU(k:Kd):yv K (.type k.ty) (.type "int")=Gc (k.isA "int"):=by
 cases k<;>first|rfl|(unfold yv;rfl)
def Z7(k:Kd):yv K (.type k.ty) (.type "bool")=Gc (k.isA "bool"):=by
 cases k<;>rfl
def kit_tuple(k:Kd):yv K (.type k.ty) (.type "tuple")=Gc (k.isA "tuple"):=by
 cases k<;>rfl
def gN(k:Kd):yv K (.type k.ty) (.type "str")=Gc (k.isA "str"):=by
 cases k<;>rfl
end
structure Dfn(P:xK)(w:xy)(K:vZ)(mg:Str->vi vm)(base:xZ)(x:Str)(k:Nat)(ps:Wp Str)(sp:Sp):Prop where
 ex:∃f fd,mg x=Gc (.ref f)/\yE K (.ref f)=true/\Binds K fd ps []/\OO P w K mg base CX0 k f fd ps sp
structure Src(K:vZ)(mg:Str->vi vm)(x:Str)(st:wV):Prop where
 ex:∃f fd,Fun K x x st f fd/\mg x=Gc (.ref f)
def q8{X:Cx}{k:Nat}{x:Str}{ps:Wp Str}{p pos:Pos}(d:Dfn X.prog X.w X.K X.mg X.base x k ps sp)(hr:K0 k X.A)(hg:Gl X x)(ha:PA X (e::es) t)(hdb:xz ((x==("__debug__":Str))=false) ww)(he:xz (wD (e::es) X.env=(false,eval e X.env)::wD es X.env) wp)(hpl:xz ((backTo pos (wD es X.env)).any (·.1)=false) wp):PE X (.Call (.Name x p) (e::es) [] pos) (gz sp [] E0 t):=by
 obtain⟨f,fd,a,b,c,F⟩:=d.ex
 exact gu F hr hg a b c .nil mI ha hdb he hpl
def eL(h:n<2^8000):n.log2<9000:=by
 by_cases h0:n=0
 .subst h0;decide
 .exact yN ((Nat.log2_lt h0).mpr h) (by decide)
def aZ:OpR X (binaryOp .FloorDiv) (rI (λ_ j=>0<j/\j.natAbs<2^8000) λi j=>.int (i / j)):=opI λi j _ _ _ _ _ hc q=>by
 have h1:(0:Int)<j:=hc.1
 exact floordiv_int (by lia) (by rw[ABb i (by lia)];exact q) (.inl (PyProof.noPylong_of_log2 (eL hc.2)))
theorem LZ(hh:A.handled=none)(hne:a≠it){vs:Wp vm}:Walks prog w A it [it,a] [it] vs.length (λi v=>vs[i]?=Gc v) (λi h=>h.IsListIter it a i/\h.IsList a vs.toArray) where
 sub:=λb hb=>by simp at hb;simp[hb]
 frame:=λi h h' st k=>⟨st.1.at λo e=>k it (by simp) o e,by
  obtain⟨o,ho,r⟩:=st.2
  exact⟨o,k a (by simp) o ho,r⟩⟩
 item:=λi s Q E hi st hQ=>by
  refine zY st.1 st.2 (x:=vs[i]) (by simp[hi]) λh' st' sb=>?_
  refine hQ _ h' s.toks (by simp[hi]) ⟨st',?_⟩ λb o hb e=>(sb.2 b (by simpa using hb)).trans e
  obtain⟨o,ho,r⟩:=st.2
  exact⟨o,(sb.2 a hne).trans ho,r⟩
 done:=λs Q E st hQ=>AAo hh st.1 st.2 (by simp) λh' eb=>hQ h' s.toks λb o hb e=>eb b o (by simpa using hb) e
 self:=λi s Q E st hQ=>ACl st.1 hQ
def Yx(hc:X.calm=true):Cv X (.builtin "all") (λxs H Q=>∃(p:vy) (bs:Wp xD),xs=[.ref p]/\SqL X.K H p (bs.map V.bl)/\Q (.bl (bs.all id)) H):=by
 intro pins s σ H xs us Q I r h
 obtain⟨p,bs,rfl,hp,q⟩:=h
 obtain⟨u,rfl,ru⟩:=r.one
 cases (show u=w9 p from ru)
 obtain⟨its,rv,pl,hz⟩:=I.list hp
 have hd:X.A.in1.handled=none:=I.ok.hd hc
 refine call_all_walk (xu pl.isList ?_)
 have hlen:bs.length=its.length:=by have:=rv.length;simpa using this
 have hpl:=pl.isList
 have hne:p≠s.heap.objs.size:=by
  obtain⟨o,ho,_⟩:=hpl
  exact wZ (vz ho)
 refine⟨s.heap.objs.size,_,_,its.length,_,_,λi=>bs.getD i true,rfl,LZ (vs:=its) hd hne,⟨⟨_,wI _ rfl,rfl,rfl⟩,?_⟩,?_,?_⟩
 .obtain⟨o,ho,r⟩:=hpl
  exact⟨o,vc _ ho,r⟩
 .intro i v s' Q' E' hv hq
  have hi:i<its.length:=(vt.mp hv).1
  have hb:(bs.map V.bl)[i]?=Gc (.bl (bs.getD i true)):=by
   rw[wJ,vk (by lia)]
   simp[v8,vk (show i<bs.length by lia)]
  obtain⟨u,hu,ru⟩:=rv.get hb
  rw[hv]at hu
  cases hu
  cases (show v=ABR _ from ru)
  exact yM hq
 .intro h' tk hk
  have e:(xI its.length).all (λi=>bs.getD i true)=bs.all id:=by
   rw[<-hlen]
   clear q hp rv hlen
   have:∀(l:Wp xD),(xI l.length).all (λi=>l.getD i true)=l.all id:=by
    intro l
    induction l with
    |nil=>rfl
    |cons b l ih=>
     rw[xT,ACQ,AAO,List.all_map,AAO,<-ih]
     rfl
   exact this bs
  rw[e]
  exact⟨.bl _,H,I.kept (t':=tk) λb o eb=>hk b o (by simp;exact wZ (vz eb)) (vc _ eb),rfl,q⟩
def bX{ns:Wp Int}(h:j<ns.length):(ns.take (j+1)).sum=(ns.take j).sum+ns.getD j 0:=by
 have e:ns.getD j 0=ns[j]:=by simp[v8,vk h]
 rw[List.take_succ,vk h,List.sum_append,e]
 show _+(ns[j]+0)=_
 lia
theorem Nj{ns:Wp Int}:∀{j},j<=ns.length->preSum (λi=>ns.getD i 0) j=(ns.take j).sum
 |0,_=>by simp[preSum]
 |j+1,h=>by
  rw[preSum,Nj (by lia),bX (by lia)]
def Yf{ns:Wp Int}(h:∀n∈ns,0<=n/\n<=1000000):0<=ns.sum/\ns.sum<=1000000*ns.length:=by
 induction ns with
 |nil=>simp
 |cons a l ih=>
  have h1:=h a (by simp)
  have h2:=ih λn hn=>h n (by simp[hn])
  rw[wX,xT]
  have:((l.length+1:Nat):Int)=(l.length:Int)+1:=by lia
  lia
def LY{lo hi:vi Int}(ht:IsTup s.heap t items)(hs:s.heap.IsSliceOf sl vl vu .none)(pl:ACJ vl lo)(pu:ACJ vu hi)(hw:HT.sIx items.size 0 lo=0/\HT.sIx items.size items.size hi=items.size)(h:Q (.ref t) s):wpAny (model prog w) A (getItem (.ref t) (.ref sl)) Q E s:=by
 obtain⟨os,hos,hcs,hds⟩:=id hs
 have hTs:s.TypeIs (.ref sl) "slice":=⟨os,hos,hcs⟩
 unfold getItem
 try with_reducible refine xW ?_
 first|refine vb (v9 ?_)|skip
 refine vb (wpAny_sequenceKey ht.typeIs (by decide) ?_)
 refine vb (yL (name:=vY "__getitem__") ht.typeIs xC
  (ya xC ht.typeIs ADD ?_ (ADU _ _)))
 show wpAny _ _ (ABX (.ref t) >>= _) _ _ s
 refine vb (tupleItemsOf_ ht ?_)
 refine vb (wpAny_typeOf hTs ?_)
 rw[wU (by decide)]
 refine vb (HT.IV hs pl pu ?_)
 show wpAny _ _ (if(((HT.sIx items.size 0 lo:Nat):Int)==0 && (1:Int)==1 && (HT.sIx items.size items.size hi-HT.sIx items.size 0 lo)==items.size)=true then _ else _) _ _ s
 rw[wU (by rw[hw.1,hw.2];simp)]
 unfold Builtin.Tuple.tupleIsExact
 refine vb (vb (wpAny_typeOf ht.typeIs (v9 ?_)))
 rw[wU (by decide)]
 exact vb (ACG (v9 ⟨_,rfl,v9 h⟩))
def ug(K:vZ):V->vi Int->vi Int->Hp->VK->Prop:=λx lo hi H Q=>∃a xs,x=.ref a/\SqT K H a xs/\HT.sIx xs.length 0 lo=0/\HT.sIx xs.length xs.length hi=xs.length/\Q x H
def mH:SlR X (ug X.K):=by
 intro pins s σ H x v vl vu lo hi sl Q I rx hs pl pu h
 obtain⟨a,xs,rfl,hx,h1,h2,q⟩:=h
 cases rx
 obtain⟨its,r,ht,hz⟩:=I.tuple hx
 have hlen:its.toArray.size=xs.length:=by rw[vv];exact r.length.symm
 refine⟨"tuple",_,xC.lookup,ht.typeIs,?_⟩
 exact LY ht hs pl pu (by rw[hlen];exact⟨h1,h2⟩) ⟨.ref a,H,I,rfl,q⟩
noncomputable def qt(K:vZ):R2:=λx y H Q=>∃a b ys,x=.ref a/\y=.ref b/\SqT K H a []/\SqT K H b ys/\Q (.ref b) H
def iD:OpR X (binaryOp .Add) (qt X.K):=by
 intro pins s σ H x y v u Q I rx ry h
 obtain⟨a,b,ys,rfl,rfl,ha,hb,q⟩:=h
 cases rx
 cases ry
 obtain⟨its,r1,p1,_⟩:=I.tuple ha
 obtain⟨its2,r2,p2,_⟩:=I.tuple hb
 have e0:its=[]:=r1.QW.mpr rfl
 subst e0
 obtain⟨⟨cls,dd,data,sl⟩,ho,hc,n,hd⟩:=id p1
 obtain⟨⟨cls2,dd2,data2,sl2⟩,ho2,hc2,n2,hd2⟩:=id p2
 simp only at hc hd hc2 hd2
 subst hc hd hc2 hd2
 exact concat_meets ⟨_,ho,rfl⟩ ⟨_,ho2,rfl⟩ AB7 ADM AAd AAZ (AAM _ _)
  (tuple_addW0 a b #[] its2.toArray n n2 dd dd2 sl sl2 rfl) ⟨ho,ho2,⟨.ref b,H,I,rfl,q⟩⟩
end St
end
noncomputable section
namespace Mi
open PySem PySem.Spec L2
inductive D where
 |non|bl (b:xD)|int (i:Int)|str (x:Str)|ty (n:yo)|tup (ds:Wp D)|lst (ds:Wp D)|dct (kvs:Wp (Key×D))|scr (ns:Wp Int)|ref (n:Nat)
inductive Wv where
 |val (d:D)|own (ds:Wp D)
inductive Cl where
 |lst (ds:Wp D)|dct (kvs:Wp (Key×D))|tab (x:Str)|ins (C:Str) (fs:Wp (Str×D))
abbrev Sto:=Wp Cl
structure Ms where
 cel:Wp vy
 tmp:Wp vy
def Ms.mem(M:Ms)(a:vy):Prop:=a∈M.cel\/a∈M.tmp
noncomputable def Ms.no:Ms:=⟨[],[]⟩
def Ms.dO:¬Ms.no.mem a:=λz=>z.elim (λz=>by cases z) λz=>by cases z
def KL(K:vZ)(a:vy)(xs:Wp V):Prop:=∃(o:Obj) (its:AAn vm) (n:Nat),K.lookup a=Gc o/\o.cls=.type "list" /\o.dict=none/\o.data=.seq its n/\its.size<=sizeLine/\Vals xs its.toList
mutual
inductive BQ(K:vZ)(M:Ms)(H:Hp):V->D->Prop
 |non:BQ K M H .non .non
 |bl (b:xD):BQ K M H (.bl b) (.bl b)
 |int (i:Int):BQ K M H (.int i) (.int i)
 |str (x:Str):BQ K M H (.str x) (.str x)
 |ty (n:yo):BQ K M H (.ty n) (.ty n)
 |tup {a:vy} {xs:Wp V} {ds:Wp D} (h:SqT K H a xs) (r:Ae K M H xs ds):BQ K M H (.ref a) (.tup ds)
 |lst {a:vy} {xs:Wp V} {ds:Wp D} (h:H a=Gc (.lst xs)) (n:¬M.mem a) (r:Ae K M H xs ds):BQ K M H (.ref a) (.lst ds)
 |scr {a:vy} {ns:Wp Int} (h:(Rd H a (.lst (ns.map V.int))/\¬M.mem a)\/KL K a (ns.map V.int)):BQ K M H (.ref a) (.scr ns)
 |dct {a:vy} {kvs:Wp (Key×V)} {es:Wp (Key×D)} (h:H a=Gc (.dK kvs)) (n:¬M.mem a) (r:Mc K M H kvs es):BQ K M H (.ref a) (.dct es)
 |ref {a:vy} {n:Nat} (h:M.cel[n]?=Gc a):BQ K M H (.ref a) (.ref n)
inductive Ae(K:vZ)(M:Ms)(H:Hp):Wp V->Wp D->Prop
 |nil:Ae K M H [] []
 |cons {v:V} {d:D} {vs:Wp V} {ds:Wp D} (h:BQ K M H v d) (t:Ae K M H vs ds):Ae K M H (v::vs) (d::ds)
inductive Mc(K:vZ)(M:Ms)(H:Hp):Wp (Key×V)->Wp (Key×D)->Prop
 |nil:Mc K M H [] []
 |cons {k:Key} {v:V} {d:D} {vs:Wp (Key×V)} {ds:Wp (Key×D)} (h:BQ K M H v d) (t:Mc K M H vs ds):Mc K M H ((k,v)::vs) ((k,d)::ds)
end
def Mob:HO->Prop
 | .lst _=>ABE
 | .dK _=>ABE
 | .tbl _=>ABE
 | .ins _ _ _=>ABE
 |_=>yV
def MOk(M:Ms)(H:Hp):Prop:=∀a,M.mem a->∃o,H a=Gc o/\Mob o
structure Sp1(M:Ms)(H:Hp)(M':Ms)(H':Hp):Prop where
 mo:MOk M H
 pre:M.cel <+: M'.cel
 fresh:∀a,M'.mem a->M.mem a\/H a=none
 keep:∀a o,H a=Gc o->¬M.mem a->H' a=Gc o
structure Gr(M:Ms)(H:Hp)(M':Ms)(H':Hp):Prop where
 mo:MOk M H
 pre:M.cel <+: M'.cel
 tmp:M'.tmp=M.tmp
 fresh:∀a,a∈M'.cel->a∈M.cel\/H a=none
 keep:∀a o,H a=Gc o->a∉M.cel->H' a=Gc o
 some:∀a,H a≠none->H' a≠none
section
variable{M M' M2:Ms}{H H' H2:Hp}
def MOk.some(mo:MOk M H)(h:M.mem a):H a≠none:=λz=>by
 obtain⟨o,e,_⟩:=mo a h
 rw[e]at z;cases z
def MOk.at(mo:MOk M H)(k:∀b o,H b=Gc o->H' b=Gc o)(h:M.mem a):∃o,H' a=Gc o/\Mob o:=(mo a h).imp λo z=>⟨k a o z.1,z.2⟩
def Gr.st(g:Gr M H M' H'):Sp1 M H M' H':=⟨g.mo,g.pre,λa z=>z.elim (λz=>(g.fresh a z).imp .inl id) λz=>.inl (.inr (by rw[<-g.tmp];exact z)),λa o e n=>g.keep a o e λz=>n (.inl z)⟩
def Gr.refl(mo:MOk M H):Gr M H M H:=⟨mo,yS,rfl,λ_ z=>.inl z,λ_ _ e _=>e,λ_ e=>e⟩
def Gr.none(g:Gr M H M' H')(h:H' a=none):H a=none:=by
 cases e:H a with
 |none=>rfl
 |some o=>exact absurd h (g.some a (by rw[e];intro z;cases z))
def Gr.trans(h:Gr M H M' H')(g:Gr M' H' M2 H2):Gr M H M2 H2:=
 ⟨h.mo,h.pre.trans g.pre,g.tmp.trans h.tmp,λa z=>(g.fresh a z).elim (h.fresh a) λz=>.inr (h.none z),λa o e n=>g.keep a o (h.keep a o e n) (λz=>by
   rcases h.fresh a z with z|z
   .exact n z
   .rw[e]at z;cases z),λa e=>g.some a (h.some a e)⟩
def Gr.grow(mo:MOk M H)(k:∀a o,H a=Gc o->H' a=Gc o):Gr M H M H':=
 ⟨mo,yS,rfl,λ_ z=>.inl z,λb u eb _=>k b u eb,λb eb z=>by
   cases h:H b with
   |none=>exact eb h
   |some o=>rw[k b o h]at z;cases z⟩
def Qe{α:Type}{xs ys:Wp α}(h:xs <+: ys){n:Nat}{a:α}(e:xs[n]?=Gc a):ys[n]?=Gc a:=by
 obtain⟨zs,rfl⟩:=h
 rw[vg (vt.mp e).1]
 exact e
def Sp1.Zc(g:Sp1 M H M' H')(e:H a=Gc o)(n:¬Mob o):H' a=Gc o:=g.keep a o e λz=>by
 obtain⟨u,q,m⟩:=g.mo a z
 rw[e]at q;cases q;exact n m
def Sp1.sqT(g:Sp1 M H M' H')(h:SqT K H a xs):SqT K H' a xs:=by
 rcases h with h|h
 .rcases h with h|⟨o,h⟩
  .exact .inl (.inl (g.Zc h id))
  .exact .inl (.inr ⟨o,g.Zc h id⟩)
 .exact .inr h
def Sp1.nm(g:Sp1 M H M' H')(e:H a=Gc o)(n:¬M.mem a):¬M'.mem a:=λz=>by
 rcases g.fresh _ z with z|z
 .exact n z
 .rw[z]at e;cases e
def BQ.step(g:Sp1 M H M' H')(h:BQ K M H v d):BQ K M' H' v d:=
 BQ.rec (motive_1:=λv d _=>BQ K M' H' v d) (motive_2:=λv d _=>Ae K M' H' v d) (motive_3:=λv d _=>Mc K M' H' v d) .non .bl .int .str .ty (λh _ r=>.tup (g.sqT h) r) (λh n _ r=>.lst (g.keep _ _ h n) (g.nm h n) r) (λh=>by
  rcases h with⟨h,n⟩|h
  .rcases h with h|⟨o,h⟩
   .exact .scr (.inl ⟨.inl (g.keep _ _ h n),g.nm h n⟩)
   .exact .scr (.inl ⟨.inr ⟨o,g.keep _ _ h n⟩,g.nm h n⟩)
  .exact .scr (.inr h)) (λh n _ r=>.dct (g.keep _ _ h n) (g.nm h n) r) (λh=>.ref (Qe g.pre h)) .nil (λ_ _ h t=>.cons h t) .nil (λ_ _ h t=>.cons h t) h
def Ae.ind{P:Wp V->Wp D->Prop}(n:P [] [])(c:∀{v} {d} {vs} {ds},BQ K M H v d->P vs ds->P (v::vs) (d::ds))(h:Ae K M H vs ds):P vs ds:=
 Ae.rec (motive_1:=λ_ _ _=>ABE) (motive_2:=λv d _=>P v d) (motive_3:=λ_ _ _=>ABE) trivial (λ_=>trivial) (λ_=>trivial) (λ_=>trivial) (λ_=>trivial) (λ_ _ _=>trivial) (λ_ _ _ _=>trivial) (λ_=>trivial) (λ_ _ _ _=>trivial) (λ_=>trivial) n (λh _ _ t=>c h t) trivial (λ_ _ _ _=>trivial) h
def Mc.ind{P:Wp (Key×V)->Wp (Key×D)->Prop}(n:P [] [])(c:∀{k} {v} {d} {vs} {ds},BQ K M H v d->P vs ds->P ((k,v)::vs) ((k,d)::ds))(h:Mc K M H vs ds):P vs ds:=
 Mc.rec (motive_1:=λ_ _ _=>ABE) (motive_2:=λ_ _ _=>ABE) (motive_3:=λv d _=>P v d) trivial (λ_=>trivial) (λ_=>trivial) (λ_=>trivial) (λ_=>trivial) (λ_ _ _=>trivial) (λ_ _ _ _=>trivial) (λ_=>trivial) (λ_ _ _ _=>trivial) (λ_=>trivial) trivial (λ_ _ _ _=>trivial) n (λh _ _ t=>c h t) h
def Ae.step(g:Sp1 M H M' H')(h:Ae K M H v d):Ae K M' H' v d:=h.ind .nil λh t=>.cons (h.step g) t
def Mc.step(g:Sp1 M H M' H')(h:Mc K M H v d):Mc K M' H' v d:=h.ind .nil λh t=>.cons (h.step g) t
def Ae.length(h:Ae K M H v d):v.length=d.length:=h.ind (P:=λv d=>v.length=d.length) rfl λ_ t=>congrArg (· +1) t
def Ae.get{i:Nat}(h:Ae K M H v d):d[i]?=Gc y->∃x,v[i]?=Gc x/\BQ K M H x y:=
 h.ind (P:=λv d=>∀i,d[i]?=Gc y->∃x,v[i]?=Gc x/\BQ K M H x y) (λi e=>by simp at e) (λh t i e=>by
  cases i with
  |zero=>simp at e;subst e;exact⟨_,rfl,h⟩
  |succ i=>exact t i e) i
def Ae.append(h:Ae K M H v d)(s:Ae K M H v' d'):Ae K M H (v++v') (d++d'):=h.ind (P:=λv d=>Ae K M H (v++v') (d++d')) s λh t=>.cons h t
def Ae.take n(h:Ae K M H v d):Ae K M H (v.take n) (d.take n):=h.ind (P:=λv d=>∀n,Ae K M H (v.take n) (d.take n)) (λn=>by rw[List.take_nil,List.take_nil];exact .nil) (λh t n=>by
 cases n with
 |zero=>exact .nil
 |succ n=>exact .cons h (t n)) n
def Ae.drop n(h:Ae K M H v d):Ae K M H (v.drop n) (d.drop n):=h.ind (P:=λv d=>∀n,Ae K M H (v.drop n) (d.drop n)) (λn=>by rw[List.drop_nil,List.drop_nil];exact .nil) (λh t n=>by
 cases n with
 |zero=>exact .cons h (t 0)
 |succ n=>exact t n) n
theorem Ae.set(r:BQ K M H x y):∀{v} {d} i,Ae K M H v d->Ae K M H (v.set i x) (d.set i y)
 |_,_,_,.nil=>.nil
 |_,_,0,.cons _ t=>.cons r t
 |_,_,i+1,.cons q t=>.cons q (Ae.set r i t)
def Ae.reverse(h:Ae K M H v d):Ae K M H v.reverse d.reverse:=h.ind (P:=λv d=>Ae K M H v.reverse d.reverse) .nil λh t=>by
 rw[AAg,AAg]
 exact t.append (.cons h .nil)
end
abbrev En:=Wp (vi D)
abbrev Sg:=Wp (vi V)
structure EnR(K:vZ)(M:Ms)(E:En)(σ:Sg)(H:Hp):Prop where
 len:E.length=σ.length
 val:∀(i:Nat) (d:D),E[i]?=Gc (Gc d)->∃v,σ[i]?=Gc (Gc v)/\BQ K M H v d
noncomputable def uv(x:Str):Str:=(x++(".<locals>.":Str))++("<lambda>":Str)
def fI(K:vZ)(c P:vy):Prop:=
 ∃o vs file tf flags tg inF text tt,K.lookup c=Gc o/\o.cls=ADR "code" /\o.data=Data.fields vs/\vs[11]?=Gc (w9 P)/\vs.getD 11 xA=w9 P/\vs.getD 18 xA=AAr file tf/\vs.getD 7 xA=AB3 flags tg/\vs.getD 9 xA=ABR inF/\vs.getD 10 xA=AB3 text tt/\c≠P
def TabAt(K:vZ)(x:Str)(P:vy):Prop:=
 ∃f oc od fd osl c,xn K mainGlobals x=Gc (Gc (w9 f))/\K.lookup f=Gc ⟨oc,od,Data.func fd,osl⟩/\fd.code=w9 c/\fI K c P
def jt(q:Str)(o:Obj):Prop:=∃vs t,o.data=Data.fields vs/\vs[1]?=Gc (AAr q t)
structure Zz(K:vZ)(H:Hp)(x:Str)(P:vy)(ps:AAn vm):Prop where
 tri:PySem.TriplesOk ps.toList
 tat:TabAt K x P
 cod:∀pos cv,PySem.codeAmong pos ps.toList=Gc cv->∃c o,cv=w9 c/\H c=Gc (.frz o (.own 0))/\jt (uv x) o
def Zz.step(t:Zz K H x P ps)(g:Sp1 M H M' H'):Zz K H' x P ps:=⟨t.tri,t.tat,λpos cv e=>by
 obtain⟨c,o,h1,h2,h3⟩:=t.cod pos cv e
 exact⟨c,o,h1,g.Zc h2 id,h3⟩⟩
def au(K:vZ)(M:Ms)(H:Hp)(a:vy):Cl->Prop
 | .lst ds=>∃xs,H a=Gc (.lst xs)/\Ae K M H xs ds
 | .dct es=>∃kvs,H a=Gc (.dK kvs)/\Mc K M H kvs es
 | .tab x=>∃ps,H a=Gc (.tbl ps)/\Zz K H x a ps
 | .ins C fs=>∃Ca dx fv,xn K mainGlobals C=Gc (Gc (.ref Ca))/\H a=Gc (.ins Ca dx fv)/\H dx=Gc (.own a)/\fv.map (·.1)=fs.map (·.1)/\Ae K M H (fv.map (·.2)) (fs.map (·.2))
structure StR(K:vZ)(M:Ms)(S:Sto)(H:Hp):Prop where
 mo:MOk M H
 nd:M.cel.Nodup
 nt:∀a∈M.tmp,a∉M.cel
 len:M.cel.length=S.length
 cell:∀(n:Nat) (a:vy) (c:Cl),M.cel[n]?=Gc a->S[n]?=Gc c->au K M H a c
def au.step(q:au K M H a c)(g:Sp1 M H M' H')(k:∀o,H a=Gc o->H' a=Gc o):au K M' H' a c:=by
 cases c with
 |lst ds=>obtain⟨xs,e,rr⟩:=q;exact⟨xs,k _ e,rr.step g⟩
 |dct ds=>obtain⟨xs,e,rr⟩:=q;exact⟨xs,k _ e,rr.step g⟩
 |tab ds=>obtain⟨xs,e,rr⟩:=q;exact⟨xs,k _ e,rr.step g⟩
 |ins C fs=>obtain⟨Ca,dx,fv,h,e,eo,n,rr⟩:=q;exact⟨Ca,dx,fv,h,k _ e,g.Zc eo id,n,rr.step g⟩
def EnR.step(r:EnR K M E σ H)(g:Sp1 M H M' H'):EnR K M' E σ H':=⟨r.len,λi d e=>by
 obtain⟨v,h1,h2⟩:=r.val i d e
 exact⟨v,h1,h2.step g⟩⟩
def StR.grow(r:StR K M S H)(k:∀a o,H a=Gc o->H' a=Gc o):StR K M S H':=by
 have g:Sp1 M H M H':=⟨r.mo,yS,λ_ z=>.inl z,λa o e _=>k a o e⟩
 refine⟨λa z=>r.mo.at k z,r.nd,r.nt,r.len,λn a c h1 h2=>?_⟩
 exact(r.cell n a c h1 h2).step g λo e=>k _ _ e
def StR.chg(r:StR K M S H)(h1:M.cel[n]?=Gc a)(h2:S[n]?=Gc (.lst ds))(hy:Ae K M H ys es):StR K M (S.set n (.lst es)) (upd H a (.lst ys))/\Gr M H M (upd H a (.lst ys)):=by
 have ha:a∈M.cel:=wH h1
 have hl:n<S.length:=(vt.mp h2).1
 have g:Gr M H M (upd H a (.lst ys)):=⟨r.mo,yS,rfl,λ_ z=>.inl z,λb o eb nb=>by rw[Ay (λz=>nb (by rw[z];exact ha))];exact eb,λb eb=>by
  by_cases h:b=a
  .subst h;rw[B7];intro z;cases z
  .rw[Ay h];exact eb⟩
 refine⟨⟨λb z=>?_,r.nd,r.nt,by rw[yR];exact r.len,λm b c e1 e2=>?_⟩,g⟩
 .by_cases h:b=a
  .subst h;exact⟨_,B7,trivial⟩
  .rw[Ay h];exact r.mo b z
 .by_cases h:n=m
  .subst h
   rw[h1]at e1;cases e1
   rw[vx hl]at e2;cases e2
   exact⟨ys,B7,hy.step g.st⟩
  .rw[vj h]at e2
   have hb:b≠a:=λz=>by
    subst z
    exact h ((ABs (vt.mp h1).1 r.nd).mp (h1.trans e1.symm))
   exact(r.cell m b c e1 e2).step g.st λo e=>by rw[Ay hb];exact e
def StR.gj(r:StR K M S H)(e:H a=none)(k:∀b o,H b=Gc o->H' b=Gc o)(ea:H' a=Gc (.lst xs))(rr:Ae K M H xs ds):StR K ⟨M.cel++[a],M.tmp⟩ (S++[.lst ds]) H'/\Gr M H ⟨M.cel++[a],M.tmp⟩ H':=by
 have g:Gr M H ⟨M.cel++[a],M.tmp⟩ H':=⟨r.mo,ABc _ _,rfl,λb z=>by
  rcases wF.mp z with z|z
  .exact .inl z
  .simp at z;subst z;exact .inr e,λb o eb _=>k b o eb,λb eb z=>by
  cases h:H b with
  |none=>exact eb h
  |some o=>rw[k b o h]at z;cases z⟩
 have na:¬M.mem a:=λz=>r.mo.some z e
 refine⟨⟨λb z=>?_,?_,λb hb z=>?_,by simp[r.len],λm b c e1 e2=>?_⟩,g⟩
 .have z':M.mem b\/b=a:=by
   rcases z with z|z
   .rcases wF.mp z with z|z
    .exact .inl (.inl z)
    .simp at z;exact .inr z
   .exact .inl (.inr z)
  rcases z' with z|z
  .exact r.mo.at k z
  .subst z;exact⟨_,ea,trivial⟩
 .rw[ABt]
  refine⟨r.nd,by simp,λx hx y hy=>?_⟩
  simp at hy;subst hy
  exact λz=>na (.inl (by rw[<-z];exact hx))
 .rcases wF.mp z with z|z
  .exact r.nt b hb z
  .simp at z;subst z;exact na (.inr hb)
 .by_cases h:m<S.length
  .rw[vg (by rw[r.len];exact h)]at e1
   rw[vg h]at e2
   exact(r.cell m b c e1 e2).step g.st λo e=>k _ _ e
  .have hm:m=S.length:=by
    have:=(vt.mp e2).1
    simp at this;lia
   subst hm
   rw[xB (by rw[r.len];exact vf _)]at e1
   rw[xB (vf _)]at e2
   rw[r.len]at e1
   simp at e1 e2
   subst e1 e2
   exact⟨xs,ea,rr.step g.st⟩
noncomputable def vD:vi AB5->xD
 |some .local=>true
 |some .cell=>true
 |some .free=>true
 |_=>false
noncomputable def pU(sc:zv)(x:Str):xD:=vD (sc.names.lookup x)
def jO(h:pU sc x=true):Vis sc x:=by
 unfold pU at h
 unfold Vis
 cases e:sc.names.lookup x with
 |none=>rw[e]at h;cases h
 |some k=>
  rw[e]at h
  cases k<;>first|(cases h;done)|simp
abbrev Ev:=En->Sto->vi (D×Sto)
inductive tD(K:vZ)(f:Ev)(σ:Sg)(H:Hp)(Q:VK):Prop
 |mk (M:Ms) (E:En) (S:Sto) (d:D) (S':Sto) (e:f E S=Gc (d,S')) (r:EnR K M E σ H) (st:StR K M S H) (q:∀v H' M',Gr M H M' H'->StR K M' S' H'->BQ K M' H' v d->Q v H')
structure DE(X:Cx)(e:xM)(f:Ev):Prop where
 pe:PE X e (tD X.K f)
def BN(h:PE X e t)(m:∀σ H Q,t' σ H Q->t σ H Q):PE X e t':=λpins s σ H Q I q=>h pins s σ H Q I (m _ _ _ q)
def XR(h:PT X e t)(m:∀σ H Q,t' σ H Q->t σ H Q):PT X e t':=λpins s σ H Q I q=>h pins s σ H Q I (m _ _ _ q)
def GX(h:tD K f σ H Q)(m:∀v H',Q v H'->Q' v H'):tD K f σ H Q':=by
 obtain⟨M,E,S,d,S',e,r,st,q⟩:=h
 exact⟨M,E,S,d,S',e,r,st,λv H' M' g s r=>m _ _ (q v H' M' g s r)⟩
def Ag{α β:Type}{o:vi α}{k:α->vi β}{y:β}(e:o.bind k=Gc y):∃x,o=Gc x/\k x=Gc y:=by
 cases o with
 |none=>cases e
 |some x=>exact⟨x,rfl,e⟩
def Jl{α β:Type}{o:vi α}{k:α->β}{y:β}(e:o.map k=Gc y):∃x,o=Gc x/\k x=y:=by
 cases o with
 |none=>cases e
 |some x=>cases e;exact⟨x,rfl,rfl⟩
noncomputable def fz:Wv->D
 | .val d=>d
 | .own ds=>.lst ds
noncomputable def at?(E:En)(i:Nat):vi D:=(E[i]?).join
def at?_some(h:at? E i=Gc w):E[i]?=Gc (Gc w):=by
 unfold at? at h
 cases e:E[i]? with
 |none=>rw[e]at h;cases h
 |some q=>rw[e]at h;exact congrArg Gc h
noncomputable def evs:Wp Ev->En->Sto->vi (Wp D×Sto)
 | [],_,S=>Gc ([],S)
 |f::fs,E,S=>(f E S).bind λr=>(evs fs E r.2).map λq=>(r.1::q.1,q.2)
noncomputable def tDs(K:vZ):Wp Ev->TA
 | []=>rV
 |f::fs=>mL (tD K f) (tDs K fs)
structure DEs(X:Cx)(es:Wp xM)(fs:Wp Ev):Prop where
 pe:PA X es (tDs X.K fs)
def AF:DEs X [] []:=⟨Xs⟩
def AD(h:DE X e f)(t:DEs X es fs)(hs:xz (wD (e::es) X.env=(false,eval e X.env)::wD es X.env) wp):DEs X (e::es) (f::fs):=⟨QS h.pe t.pe hs⟩
section
variable{K:vZ}{M M':Ms}{E:En}{S:Sto}{σ:Sg}{H H':Hp}
theorem HM:∀{fs} {M} {S} {ds} {S'} {H} {Q},evs fs E S=Gc (ds,S')->EnR K M E σ H->StR K M S H->(∀vs H' M',Gr M H M' H'->StR K M' S' H'->Ae K M' H' vs ds->Q vs H')->tDs K fs σ H Q
 | [],M,S,ds,S',H,Q,e,r,st,q=>by
   cases e
   exact q [] H M (.refl st.mo) st .nil
 |f::fs,M,S,ds,S',H,Q,e,r,st,q=>by
  obtain⟨⟨d,S1⟩,e1,e⟩:=Ag e
  obtain⟨⟨es,S2⟩,e2,e⟩:=Jl e
  cases e
  refine⟨M,E,S,d,S1,e1,r,st,λv H1 M1 g1 st1 d1=>?_⟩
  exact HM e2 (r.step g1.st) st1 λvs H2 M2 g2 st2 d2=>q _ _ M2 (g1.trans g2) st2 (.cons (d1.step g2.st) d2)
theorem N9:∀{fs} {S} {ds} {S'},evs fs E S=Gc (ds,S')->ds.length=fs.length
 | [],_,_,_,e=>by cases e;rfl
 |f::fs,S,ds,S',e=>by
  obtain⟨⟨d,S1⟩,e1,e⟩:=Ag e
  obtain⟨⟨es,S2⟩,e2,e⟩:=Jl e
  cases e
  simp[N9 e2]
def Sh(K:vZ)(M:Ms)(H:Hp)(v:V):Wv->Prop
 | .val d=>BQ K M H v d
 | .own ds=>∃a xs,v=.ref a/\H a=Gc (.lst xs)/\Ae K M H xs ds
def ivP(K:vZ)(M:Ms)(H:Hp)(v:V):D->Prop
 | .non=>v=.non
 | .bl b=>v=.bl b
 | .int i=>v=.int i
 | .str x=>v=.str x
 | .ty n=>v=.ty n
 | .tup ds=>∃a xs,v=.ref a/\SqT K H a xs/\Ae K M H xs ds
 |_=>ABE
def BQ.iv(h:BQ K M H v d):ivP K M H v d:=by
 cases h with
 |tup h r=>exact⟨_,_,rfl,h,r⟩
 |non=>rfl
 |bl=>rfl
 |int=>rfl
 |str=>rfl
 |ty=>rfl
 |_=>trivial
inductive Shs(K:vZ)(M:Ms)(H:Hp):Wp V->Wp Wv->Prop
 |nil:Shs K M H [] []
 |cons {v:V} {w:Wv} {vs:Wp V} {ws:Wp Wv} (h:Sh K M H v w) (t:Shs K M H vs ws):Shs K M H (v::vs) (w::ws)
noncomputable def dr(S:Sto):D->Wv
 | .ref n=>match S[n]? with
   |some (.lst ds)=>.own ds
   |_=>.val (.ref n)
 |d=>.val d
def VE(st:StR K M S H)(h:BQ K M H v d):Sh K M H v (dr S d):=by
 cases h with
 |ref h=>
  rename_i a n
  show Sh K M H (.ref a) (match S[n]? with|some (.lst ds)=>.own ds|_=>.val (.ref n))
  split
  .rename_i ds e
   obtain⟨xs,h1,h2⟩:=st.cell n a _ h e
   exact⟨a,xs,rfl,h1,h2⟩
  .exact .ref h
 |non=>exact .non
 |bl b=>exact .bl b
 |int b=>exact .int b
 |str b=>exact .str b
 |ty b=>exact .ty b
 |tup h r=>exact .tup h r
 |lst h n r=>exact .lst h n r
 |scr h=>exact .scr h
 |dct h n r=>exact .dct h n r
theorem Y3(st:StR K M S H):∀{vs} {ds},Ae K M H vs ds->Shs K M H vs (ds.map (dr S))
 |_,_,.nil=>.nil
 |_,_,.cons h t=>.cons (VE st h) (Y3 st t)
def NwR(K:vZ)(M:Ms)(H H':Hp)(v:V):Wv->Prop
 | .val d=>BQ K M H' v d
 | .own ds=>∃a xs,v=.ref a/\H a=none/\H' a=Gc (.lst xs)/\Ae K M H xs ds
structure Nw(K:vZ)(M:Ms)(H H':Hp)(v:V)(w:Wv):Prop where
 grow:∀a o,H a=Gc o->H' a=Gc o
 rel:NwR K M H H' v w
def Nw.same(mo:MOk M H)(h:BQ K M H v d):Nw K M H H v (.val d):=⟨λ_ _ e=>e,h⟩
def ID(e:H a=none):∀b u,H b=Gc u->upd H a o b=Gc u:=λb u eb=>by rw[Ay (λz=>by subst z;rw[e]at eb;cases eb)];exact eb
def Nw.lst(mo:MOk M H)(e:H a=none)(h:Ae K M H xs ds):Nw K M H (upd H a (.lst xs)) (.ref a) (.own ds):=⟨ID e,a,xs,rfl,e,B7,h⟩
def Nw.tup(mo:MOk M H)(e:H a=none)(h:Ae K M H xs ds):Nw K M H (upd H a (.tup xs)) (.ref a) (.val (.tup ds)):=⟨ID e,.tup (.of B7) (h.step (Gr.grow mo (ID e)).st)⟩
noncomputable def fin:xD->Wv->Sto->vi (D×Sto)
 |_,.val d,S=>Gc (d,S)
 |false,.own ds,S=>Gc (.lst ds,S)
 |true,.own ds,S=>Gc (.ref S.length,S++[.lst ds])
def Nw.fin(n:Nw K M H H' v w)(st:StR K M S H)(e:fin c w S=Gc (d,S')):∃M',Gr M H M' H'/\StR K M' S' H'/\BQ K M' H' v d:=by
 cases w with
 |val d'=>
  cases e
  exact⟨M,.grow st.mo n.grow,st.grow n.grow,n.rel⟩
 |own ds=>
  obtain⟨a,xs,rfl,h1,h2,h3⟩:=n.rel
  cases c with
  |false=>
   cases e
   exact⟨M,.grow st.mo n.grow,st.grow n.grow,.lst h2 (λz=>st.mo.some z h1) (h3.step (Gr.grow st.mo n.grow).st)⟩
  |true=>
   cases e
   obtain⟨s1,g1⟩:=st.gj h1 n.grow h2 h3
   refine⟨_,g1,s1,.ref ?_⟩
   rw[<-st.len]
   exact wK
abbrev Op1:=Wv->vi Wv
abbrev Op2:=Wv->Wv->vi Wv
abbrev OpN:=Wp Wv->vi Wv
inductive rOp(K:vZ)(op:Op2)(x y:V)(H:Hp)(Q:VK):Prop
 |mk (M:Ms) (w1 w2 r:Wv) (e:op w1 w2=Gc r) (mo:MOk M H) (s1:Sh K M H x w1) (s2:Sh K M H y w2) (q:∀v H',Nw K M H H' v r->Q v H')
inductive rUn(K:vZ)(op:Op1)(x:V)(H:Hp)(Q:VK):Prop
 |mk (M:Ms) (w r:Wv) (e:op w=Gc r) (mo:MOk M H) (s:Sh K M H x w) (q:∀v H',Nw K M H H' v r->Q v H')
inductive rN(K:vZ)(op:OpN)(xs:Wp V)(H:Hp)(Q:VK):Prop
 |mk (M:Ms) (ws:Wp Wv) (r:Wv) (e:op ws=Gc r) (mo:MOk M H) (s:Shs K M H xs ws) (q:∀v H',Nw K M H H' v r->Q v H')
noncomputable def Ny(c:xD)(op:OpN)(fs:Wp Ev):Ev:=λE S=>(evs fs E S).bind λr=>(op (r.1.map (dr r.2))).bind λw=>fin c w r.2
abbrev eOp:=Ny false
abbrev jz:=Ny true
noncomputable def o1(op:Op1):OpN| [a]=>op a|_=>none
noncomputable def o2(op:Op2):OpN| [a,b]=>op a b|_=>none
def O1(e:Ny c op fs E S=Gc (d,S'))(r:EnR K M E σ H)(st:StR K M S H)(h:∀v H' M',Gr M H M' H'->StR K M' S' H'->BQ K M' H' v d->Q v H'):tDs K fs σ H λvs H1=>rN K op vs H1 Q:=by
 obtain⟨⟨ds,S1⟩,e1,e⟩:=Ag e
 obtain⟨w,e2,e⟩:=Ag e
 refine HM e1 r st λvs H1 M1 g1 st1 d1=>⟨M1,_,w,e2,st1.mo,Y3 st1 d1,λv H2 n=>?_⟩
 obtain⟨M2,g2,st2,d2⟩:=n.fin st1 e
 exact h v H2 M2 (g1.trans g2) st2 d2
end
def kJ(h:rN K (o2 f) [x,y] H Q):rOp K f x y H Q:=by
 obtain⟨M,ws,r,e,mo,s,q⟩:=h
 cases s with
 |cons h1 s=>
  cases s with
  |cons h2 s=>
   cases s
   exact⟨M,_,_,r,e,mo,h1,h2,q⟩
def kL(h:rN K (o1 f) [x] H Q):rUn K f x H Q:=by
 obtain⟨M,ws,r,e,mo,s,q⟩:=h
 cases s with
 |cons h1 s=>
  cases s
  exact⟨M,_,r,e,mo,h1,q⟩
def UU(h:tD K (Ny c (o2 f) [fa,fb]) σ H Q):tOp (rOp K f) (tD K fa) (tD K fb) σ H Q:=by
 obtain⟨M,E,S,d,S',e,r,st,q⟩:=h
 have z:tD K fa σ H λx H1=>tD K fb σ H1 λy H2=>rN K (o2 f) [x,y] H2 Q:=O1 (Q:=Q) e r st q
 exact GX z λx H1 z1=>GX z1 λy H2 z2=>kJ z2
def Xd(h:tD K (Ny c (o1 f) [fa]) σ H Q):tUn (rUn K f) (tD K fa) σ H Q:=by
 obtain⟨M,E,S,d,S',e,r,st,q⟩:=h
 have z:tD K fa σ H λx H1=>rN K (o1 f) [x] H1 Q:=O1 (Q:=Q) e r st q
 exact GX z λx H1 z1=>kL z1
section
variable{X:Cx}{a b e:xM}{fs:Wp Ev}{pos p:Pos}{c:xD}
def Dt(ho:OpR X (binaryOp op) (rOp X.K f))(ha:DE X a fa)(hb:DE X b fb):DE X (.BinOp a op b pos) (Ny c (o2 f) [fa,fb]):=⟨BN (qu ho ha.pe hb.pe) λ_ _ _ h=>UU h⟩
def WU(ho:OpR X (compareOp op) (rOp X.K f))(ha:DE X a fa)(hb:DE X b fb)(hm:xz (behindInMarks op b=false) wp):DE X (.Compare a [op] [b] pos) (Ny c (o2 f) [fa,fb]):=⟨BN (d8 ho ha.pe hb.pe hm) λ_ _ _ h=>UU h⟩
def kZ(ho:UnR X (unaryOp op) (rUn X.K f))(ha:DE X a fa):DE X (.UnaryOp op a pos) (Ny c (o1 f) [fa]):=⟨BN (pH ho ha.pe) λ_ _ _ h=>Xd h⟩
def FN(hr:IxR X (rOp X.K f))(ha:DE X a fa)(hb:DE X b fb)(hs:xz (Pj b) wT):DE X (.Subscript a b pos) (Ny c (o2 f) [fa,fb]):=⟨BN (iG hr ha.pe hb.pe hs) λ_ _ _ h=>UU h⟩
def Ck{id:yo}(hc:Cv X (.builtin id) (rN X.K f))(hg:Gl X x)(hm:X.mg x=none)(hv:bootBuiltins x=Gc (.builtin id))(ha:DEs X (e::es) fs)(hn:xz (x≠ "__name__") ww)(hdb:xz ((x==("__debug__":Str))=false) ww)(he:xz (wD (e::es) X.env=(false,eval e X.env)::wD es X.env) wp)(hpl:xz ((backTo pos (wD es X.env)).any (·.1)=false) wp):DE X (.Call (.Name x p) (e::es) [] pos) (Ny c f fs):=⟨
 BN (Zq hc hg hm hv ha.pe hn hdb he hpl) λ_ _ _ h=>by
  obtain⟨M,E,S,d,S',e,r,st,q⟩:=h
  exact O1 e r st q⟩
def Cf(hc:Cv X (.type T) (rN X.K f))(hg:Gl X x)(hm:X.mg x=none)(hv:bootBuiltins x=Gc (.type T))(ha:DEs X (e::es) fs)(hn:xz (x≠ "__name__") ww)(hdb:xz ((x==("__debug__":Str))=false) ww)(he:xz (wD (e::es) X.env=(false,eval e X.env)::wD es X.env) wp)(hpl:xz ((backTo pos (wD es X.env)).any (·.1)=false) wp):DE X (.Call (.Name x p) (e::es) [] pos) (Ny c f fs):=⟨
 BN (Y9 hc hg hm hv ha.pe hn hdb he hpl) λ_ _ _ h=>by
  obtain⟨M,E,S,d,S',e,r,st,q⟩:=h
  exact O1 e r st q⟩
noncomputable def eC(d:D):Ev:=λ_ S=>Gc (d,S)
def Ry(h:PE X e (tC v))(r:∀K M H,BQ K M H v d):DE X e (eC d):=⟨BN h λσ H Q z=>by
 obtain⟨M,E,S,w,S',e,rr,st,q⟩:=z
 cases e
 exact q _ _ M (.refl st.mo) st (r _ _ _)⟩
def AX:DE X (.Constant (.int i) j pos) (eC (.int i)):=Ry jU λ_ _ _=>.int _
def RM:DE X (.Constant (.bool i) j pos) (eC (.bl i)):=Ry pX λ_ _ _=>.bl _
def B9:DE X (.Constant (.str i) j pos) (eC (.str i)):=Ry cH λ_ _ _=>.str _
def JR:DE X (.Constant .none j pos) (eC .non):=Ry lX λ_ _ _=>.non
noncomputable def eV(i:Nat):Ev:=λE S=>(at? E i).map λd=>(d,S)
def AG i(hN:xz (X.N[i]?=Gc x) wp)(hv:xz (pU X.env.scope x=true) wp)(hd:xz ((x==("__debug__":Str))=false) ww)(hcd:xz ((x==("__classdict__":Str))=false) ww):DE X (.Name x pos) (eV i):=⟨BN (YC hN (jO hv) hd hcd) λσ H Q z=>by
 obtain⟨M,E,S,d,S',e,r,st,q⟩:=z
 obtain⟨d',e1,e⟩:=Jl e
 cases e
 obtain⟨v,hv,rd⟩:=r.val i d (at?_some e1)
 exact⟨v,hv,q v H M (.refl st.mo) st rd⟩⟩
end
def IW:fillsNumberSlot (.type "tuple") "mul"=pure false:=
 fillsNumberSlot_seq (id:="tuple.__mul__") (r:=Gc (.builtin "tuple.__rmul__")) AAv.lookup (by decide+kernel) F.slot_tuple_rmul.lookup (by decide+kernel)
def MP:seqRepeat? (.type "tuple")=pure (Gc (.builtin "tuple.__mul__")):=by
 unfold seqRepeat?
 rw[seqSlot_of (T:="tuple") (name:="__mul__") (id:="tuple.__mul__") AAv.lookup (by decide+kernel),seqSlot_of (T:="tuple") (name:="__rmul__") (id:="tuple.__rmul__") F.slot_tuple_rmul.lookup (by decide+kernel)]
 rfl
def Jt a(t:Tok) l items n dd sl:Meets (ABJ.«int.__rmul__» ⟨[.int a t,.ref l],[]⟩) (λ_ R s=>s.heap.get? l=Gc {cls:=.type "tuple",dict:=dd,data:=.seq items n,slots:=sl}/\R (.ok (.ret Value.notImplemented)) s):=
 .of_wp λprog w A R s h=>by obtain⟨hp,g,d,tk,os⟩:=s;obtain⟨hl,h⟩:=h;wp_walk;exact⟨_,rfl,h⟩
def X6(its:Wp vm) m:ACO (λx1 x2=>x1++x2) #[] (wB m its.toArray)=(wB m its).flatten.toArray:=by
 have:=foldl_rep its m []
 rw[v7]at this
 exact this
def fQ:OpR X (binaryOp .Mult) (λx y H Q=>∃a xs k,x=.ref a/\y=.int k/\SqT X.K H a xs/\xs≠[]/\1<=k/\xs.length*k.toNat<=sizeLine/\(k=1->Q (.ref a) H)/\(k≠1->∀p,H p=none->Q (.ref p) (upd H p (.tup (wB k.toNat xs).flatten)))):=by
 intro pins s σ H x y v u Q I rx ry h
 obtain⟨a,xs,k,rfl,rfl,hx,hne,hk,hz,q1,q2⟩:=h
 cases rx
 obtain⟨t,rfl⟩:=ry
 obtain⟨its,r,⟨⟨c,dd,data,sl⟩,ho,hc,n,hd⟩,hzz⟩:=I.tuple hx
 simp only at hc hd
 subst hc hd
 have hl:=r.length
 have hsz:its.toArray.size=xs.length:=by rw[vv];exact hl.symm
 have hpos:0<xs.length:=ABC.mpr hne
 have hkl:k.toNat<=sizeLine:=va (Nat.le_mul_of_pos_left _ hpos) hz
 have hk63:k<2^63:=by
  have:(sizeLine:Nat)<2^63:=by decide
  lia
 refine AAK (T:="tuple") (U:="int") (by decide) ⟨_,ho,rfl⟩ (λs'=>AAu s' k t) IW ACg zh MP AB8.lookup
  (zK zh (AAu s k t) AB9 (ABq _ _) (Jt k t a its.toArray n dd sl) ⟨ho,rfl,⟨_,ho,rfl⟩,?_⟩)
 refine ya AAv ⟨_,ho,rfl⟩ F.entry_tuple_mul ?_ (ADY _ _)
 unfold ABJ.«tuple.__mul__»
 wp_walk using wM ho
 rw[wy (show¬(decide (k< -2^63)||decide (k≥2^63))=true by
  rw[xq]
  rintro (z|z)
  .have:=v3 z;lia
  .have:=v3 z;lia)]
 wp_walk using wM ho
 by_cases h1:k=1
 .subst h1
  rw[wU (show(its.toArray.isEmpty||(1:Int)==1)=true by simp)]
  wp_walk using wM ho
  exact⟨_,rfl,.ref a,H,I,rfl,q1 rfl⟩
 .have hemp:its.toArray.isEmpty=false:=by
   cases its with
   |nil=>rw[AAS]at hl;lia
   |cons b bs=>rfl
  rw[wy (show¬(its.toArray.isEmpty||k==1)=true by rw[hemp];simpa using h1)]
  wp_walk using wM ho
  have hmul:((its.toArray.size:Int)*k)=((xs.length*k.toNat:Nat):Int):=by
   rw[hsz,ACi]
   congr 1
   lia
  rw[wy (show¬(decide (k<=0)||its.toArray.isEmpty)=true by
   rw[hemp,Bool.or_false]
   intro z
   have:=v3 z
   lia)]
  wp_walk
  rw[wy (show¬((its.toArray.size:Int)*k>(2^63-1) / 8) by
   rw[hmul]
   have:(sizeLine:Nat)<=(2^63-1) / 8:=by decide
   lia)]
  wp_walk
  rw[wy (show¬ABd ((its.toArray.size:Int)*k)=true by
   unfold ABd
   rw[hmul]
   intro z
   have:=v3 z
   lia)]
  rw[X6]
  wp_walk
  have hlen:(wB k.toNat its).flatten.length<=sizeLine:=by rw[len_rep,xk,<-hl];exact hz
  rw[wy (show¬((wB k.toNat its).flatten.toArray.size>sizeLine) by rw[vv];lia)]
  wp_walk
  refine⟨_,rfl,.ref _,_,I.laid (o:=.tup (wB k.toNat xs).flatten) (t':=s.toks) (λb ob q=>vc _ q) (vf _) ?_,rfl,q2 h1 _ (I.hok.fresh (vf _))⟩
  exact⟨by rw[len_rep,xk];exact hz,_,r.rep k.toNat,zU _ _⟩
mutual
noncomputable def D.py:D->PyData
 | .non=>.none| .bl b=>.bool b| .int i=>.int i| .str x=>.str x| .ty _=>.none
 | .tup ds=>.tuple (D.pys ds)| .lst ds=>.list (D.pys ds)| .dct _=>.none| .scr _=>.none| .ref _=>.none
noncomputable def D.pys:Wp D->Wp PyData
 | []=>[]
 |d::ds=>D.py d::D.pys ds
end
mutual
noncomputable def D.lay:D->xD
 | .non=>true| .bl _=>true| .int _=>true| .str x=>x8 x| .ty _=>false| .dct _=>false| .scr _=>false| .ref _=>false
 | .tup ds=>D.Qf ds| .lst ds=>D.Qf ds
noncomputable def D.Qf:Wp D->xD
 | []=>true
 |d::ds=>D.lay d && D.Qf ds
end
mutual
theorem Lc:∀{d:D},d.lay=true->d.py.canLay0=true
 | .non,_=>rfl
 | .bl _,_=>rfl
 | .int _,_=>rfl
 | .str x,h=>h
 | .ty _,h=>yc h
 | .dct _,h=>yc h
 | .scr _,h=>yc h
 | .ref _,h=>yc h
 | .tup ds,h=>by show AAh (D.pys ds)=true;exact Qa h
 | .lst ds,h=>by show AAh (D.pys ds)=true;exact Qa h
theorem Qa:∀{ds:Wp D},D.Qf ds=true->AAh (D.pys ds)=true
 | [],_=>rfl
 |d::ds,h=>by
  have h':(D.lay d && D.Qf ds)=true:=h
  rw[vn]at h'
  show(PyData.canLay0 d.py && AAh (D.pys ds))=true
  rw[Lc h'.1,Qa h'.2];rfl
end
section
variable{X:Cx}{pins:Wp (vy×Obj)}{σ:Sg}{H:Hp}{s:vw}{M:Ms}
def OD(I:Inv X pins σ H s)(h:Rd H a (.lst xs)):∃its,Vals xs its/\∃o n,s.heap.get? a=Gc o/\o.cls=.type "list" /\o.data=.seq its.toArray n:=by
 obtain⟨z,its,n,r,e⟩:=h.ok I.hok
 exact⟨its,r,_,n,e,rfl,rfl⟩
def BQ.reads(I:Inv X pins σ H s)(h:BQ X.K M H v d):∀{u},RelV v u->d.lay=true->∃as,Reads s.heap u d.py as:=
 BQ.rec (motive_1:=λv d _=>∀{u:vm},RelV v u->d.lay=true->∃as,Reads s.heap u d.py as) (motive_2:=λvs ds _=>∀{us:Wp vm},Vals vs us->D.Qf ds=true->∃as,ReadsAll s.heap us (D.pys ds) as) (motive_3:=λ_ _ _=>ABE)
  (λr _=>by cases r;exact⟨_,.none⟩) (λb _ r _=>by cases r;exact⟨_,.bool b⟩) (λb _ r _=>by obtain⟨t,rfl⟩:=r;exact⟨_,.int b t⟩) (λb _ r _=>by obtain⟨t,rfl⟩:=r;exact⟨_,.str b t⟩) (λ_ _ _ h=>yc h)
  (fun h _ ih _ r hl => by
    cases r
    obtain⟨its,rv,⟨o,e,hc,n,hd⟩,_⟩:=I.tuple h
    obtain⟨as,ra⟩:=ih rv hl
    exact⟨as,.tuple e hc hd ra⟩)
  (fun h _ _ ih _ r hl => by
    cases r
    obtain⟨its,rv,o,n,e,hc,hd⟩:=OD I (.inl h)
    obtain⟨as,ra⟩:=ih rv hl
    exact⟨_,.list e hc hd ra⟩)
  (λ_ _ _ h=>yc h) (λ_ _ _ _ _ _ h=>yc h) (λ_ _ _ h=>yc h)
  (fun r _ => by cases r; exact ⟨_, .nil⟩) (fun {v d vs ds} _ _ ih1 ih2 _ r hl => by
    cases r with
    |cons r1 r2=>
     have hl':(D.lay d && D.Qf ds)=true:=hl
     rw[vn]at hl'
     obtain⟨as,ra⟩:=ih1 r1 hl'.1
     obtain⟨bs,rb⟩:=ih2 r2 hl'.2
     exact⟨_,.cons ra rb⟩) trivial (λ_ _ _ _=>trivial) h
def Ae.reads(I:Inv X pins σ H s)(h:Ae X.K M H vs ds):∀{us},Vals vs us->D.Qf ds=true->∃as,ReadsAll s.heap us (D.pys ds) as:=
 h.ind (P:=λvs ds=>∀{us:Wp vm},Vals vs us->D.Qf ds=true->∃as,ReadsAll s.heap us (D.pys ds) as) (λr _=>by cases r;exact⟨_,.nil⟩) (λ{v d vs ds} h ih2 _ r hl=>by
  cases r with
  |cons r1 r2=>
   have hl':(D.lay d && D.Qf ds)=true:=hl
   rw[vn]at hl'
   obtain⟨as,ra⟩:=h.reads I r1 hl'.1
   obtain⟨bs,rb⟩:=ih2 r2 hl'.2
   exact⟨_,.cons ra rb⟩)
end
noncomputable def deq(a b:D):xD:=PyData.eqv a.py b.py
noncomputable def KI(a b:D):xD:=a.lay && b.lay && decide (min a.py.depth b.py.depth<=60)
noncomputable def wEq:Op2:=λa b=>if KI (fz a) (fz b)=true then Gc (.val (.bl (deq (fz a) (fz b))))else none
noncomputable def wNe:Op2:=λa b=>if KI (fz a) (fz b)=true then Gc (.val (.bl (!deq (fz a) (fz b))))else none
section
variable{X:Cx}
def Sh.reads{pins:Wp (vy×Obj)}{σ:Sg}(h:Sh X.K M H v w)(I:Inv X pins σ H s)(r:RelV v u)(hl:(fz w).lay=true):∃as,Reads s.heap u (fz w).py as:=by
 cases w with
 |val d=>exact BQ.reads I h r hl
 |own ds=>
  obtain⟨a,xs,rfl,h1,h2⟩:=h
  cases r
  obtain⟨its,rv,o,n,e,hc,hd⟩:=OD I (.inl h1)
  obtain⟨as,ra⟩:=Ae.reads I h2 rv hl
  exact⟨_,.list e hc hd ra⟩
def RG(hu:X.A.units+100<cLine):OpR X (compareOp .Eq) (rOp X.K wEq):=by
 intro pins s σ H x y v u Q I rx ry h
 obtain⟨M,w1,w2,r,e,mo,s1,s2,q⟩:=h
 unfold wEq at e
 split at e
 .rename_i hk
  unfold KI at hk
  rw[vn,vn]at hk
  cases e
  obtain⟨as,ra⟩:=s1.reads I rx hk.1.1
  obtain⟨bs,rb⟩:=s2.reads I ry hk.1.2
  have hd:=v3 hk.2
  exact SeqAt.compareEq_reads ra rb (Lc hk.1.1) (Lc hk.1.2) (by lia) ⟨.bl _,H,I,rfl,q _ _ (.same mo (.bl _))⟩
 .cases e
def MB(hu:X.A.units+100<cLine):OpR X (compareOp .NotEq) (rOp X.K wNe):=by
 intro pins s σ H x y v u Q I rx ry h
 obtain⟨M,w1,w2,r,e,mo,s1,s2,q⟩:=h
 unfold wNe at e
 split at e
 .rename_i hk
  unfold KI at hk
  rw[vn,vn]at hk
  cases e
  obtain⟨as,ra⟩:=s1.reads I rx hk.1.1
  obtain⟨bs,rb⟩:=s2.reads I ry hk.1.2
  have hd:=v3 hk.2
  exact SeqAt.compareNe_reads ra rb (Lc hk.1.1) (Lc hk.1.2) (by lia) ⟨.bl _,H,I,rfl,q _ _ (.same mo (.bl _))⟩
 .cases e
noncomputable def wI2(f:Int->Int->vi D):Op2
 | .val (.int i),.val (.int j)=>(f i j).map .val
 |_,_=>none
def Ur(o:OpR X g (rI C h))(hf:∀i j d,f i j=Gc d->C i j/\∀K M H,BQ K M H (h i j) d):OpR X g (rOp X.K (wI2 f)):=by
 intro pins s σ H x y v u Q I rx ry hh
 obtain⟨M,w1,w2,r,e,mo,s1,s2,q⟩:=hh
 unfold wI2 at e
 split at e
 .obtain rfl:=BQ.iv s1
  obtain rfl:=BQ.iv s2
  rename_i i j
  cases e1:f i j with
  |none=>rw[e1]at e;cases e
  |some d=>
   rw[e1]at e
   cases e
   obtain⟨c,rd⟩:=hf i j d e1
   exact o pins s σ H _ _ v u Q I rx ry ⟨i,j,rfl,rfl,c,q _ _ (.same mo (rd _ _ _))⟩
 .cases e
def OL(o:OpR X g (rI0 h))(hf:∀i j d,f i j=Gc d->∀K M H,BQ K M H (h i j) d):OpR X g (rOp X.K (wI2 f)):=by
 intro pins s σ H x y v u Q I rx ry hh
 obtain⟨M,w1,w2,r,e,mo,s1,s2,q⟩:=hh
 unfold wI2 at e
 split at e
 .obtain rfl:=BQ.iv s1
  obtain rfl:=BQ.iv s2
  rename_i i j
  cases e1:f i j with
  |none=>rw[e1]at e;cases e
  |some d=>
   rw[e1]at e
   cases e
   exact o pins s σ H _ _ v u Q I rx ry ⟨i,j,rfl,rfl,q _ _ (.same mo (hf i j d e1 _ _ _))⟩
 .cases e
noncomputable def Ra:Op2:=wI2 λi j=>Gc (.int (i-j))
noncomputable def cm:Nat:=2^60000
noncomputable def F2:Nat:=2^8000
noncomputable def DO(i j:Int):xD:=decide (i.natAbs<2^64)||(decide (j.natAbs<2^64)||(decide (i.natAbs<cm) && decide (j.natAbs<cm)))
def iE:OpR X (binaryOp .Mult) (rI (λi j=>DO i j=true) λi j=>.int (i*j)):=by
 intro pins s σ H x y v u Q I rx ry h
 obtain⟨i,j,rfl,rfl,hk,q⟩:=h
 unfold DO at hk
 rw[xq,xq,vn]at hk
 rcases hk with hk|hk|hk
 .have:=v3 hk
  exact cw pins s σ H _ _ v u Q I rx ry ⟨i,j,rfl,rfl,.inl ⟨by lia,by lia⟩,q⟩
 .have:=v3 hk
  exact cw pins s σ H _ _ v u Q I rx ry ⟨i,j,rfl,rfl,.inr ⟨by lia,by lia⟩,q⟩
 .have h1:i.natAbs<2^60000:=v3 hk.1
  have h2:j.natAbs<2^60000:=v3 hk.2
  obtain⟨t1,rfl⟩:=rx
  obtain⟨t2,rfl⟩:=ry
  exact PyProof.Rows.mul_int ⟨.int _,H,I.tok _,⟨_,rfl⟩,q⟩ (PyProof.Rows.mulOk_of_bits (m:=60000) (n:=60000) (ACw.mpr h1) (ACw.mpr h2) (by decide))
noncomputable def qD:Op2:=wI2 λi j=>if DO i j=true then Gc (.int (i*j))else none
noncomputable def K9:Op2:=wI2 λi j=>if(decide (0<j) && decide (j.natAbs<F2))=true then Gc (.int (i / j))else none
noncomputable def SO:Op2:=wI2 λi j=>if 0<j then Gc (.int (i % j))else none
noncomputable def VY:Op2:=wI2 λi j=>if(decide (0<=j) && decide (j<=1000) && decide (i.natAbs<2^64))=true then Gc (.int (i^j.toNat))else none
noncomputable def wLt:Op2:=wI2 λi j=>Gc (.bl (decide (i<j)))
noncomputable def wLe:Op2:=wI2 λi j=>Gc (.bl (decide (i<=j)))
noncomputable def wGt:Op2:=wI2 λi j=>Gc (.bl (decide (j<i)))
noncomputable def wGe:Op2:=wI2 λi j=>Gc (.bl (decide (j<=i)))
def qC:OpR X (binaryOp .Sub) (rOp X.K Ra):=OL jd λi j d e K M H=>by cases e;exact .int _
def gf:OpR X (binaryOp .Mult) (rOp X.K qD):=Ur iE λi j d e=>by
 split at e
 .rename_i hk
  cases e
  exact⟨hk,λ_ _ _=>.int _⟩
 .cases e
def a9:OpR X (binaryOp .FloorDiv) (rOp X.K K9):=Ur St.aZ λi j d e=>by
 split at e
 .rename_i hk
  rw[vn]at hk
  cases e
  exact⟨⟨v3 hk.1,v3 hk.2⟩,λ_ _ _=>.int _⟩
 .cases e
def qP:OpR X (binaryOp .Mod) (rOp X.K SO):=Ur kB λi j d e=>by
 split at e
 .rename_i hk
  cases e
  exact⟨hk,λ_ _ _=>.int _⟩
 .cases e
def Pq:OpR X (binaryOp .Pow) (rOp X.K VY):=Ur ki λi j d e=>by
 split at e
 .rename_i hk
  rw[vn,vn]at hk
  cases e
  have:=v3 hk.1.2
  exact⟨⟨v3 hk.1.1,by lia,v3 hk.2⟩,λ_ _ _=>.int _⟩
 .cases e
def lg:OpR X (compareOp .Lt) (rOp X.K wLt):=OL pO λi j d e K M H=>by cases e;exact .bl _
def sN:OpR X (compareOp .LtE) (rOp X.K wLe):=OL gE λi j d e K M H=>by cases e;exact .bl _
def lT:OpR X (compareOp .Gt) (rOp X.K wGt):=OL pP λi j d e K M H=>by cases e;exact .bl _
def kg:OpR X (compareOp .GtE) (rOp X.K wGe):=OL qA λi j d e K M H=>by cases e;exact .bl _
noncomputable def asL:Wv->vi (Wp D)
 | .own ds=>Gc ds
 | .val (.lst ds)=>Gc ds
 |_=>none
noncomputable def asT:Wv->vi (Wp D)
 | .val (.tup ds)=>Gc ds
 |_=>none
noncomputable def asC:Wv->vi (Wp D)
 | .val (.scr ns)=>Gc (ns.map .int)
 |_=>none
noncomputable def asS(w:Wv):vi (Wp D):=(asL w).or ((asT w).or (asC w))
section
variable{K:vZ}{M:Ms}{H:Hp}{v:V}{w:Wv}{ds:Wp D}
def Sh.l(h:Sh K M H v w)(e:asL w=Gc ds):∃a xs,v=.ref a/\H a=Gc (.lst xs)/\Ae K M H xs ds:=by
 cases w with
 |own es=>cases e;obtain⟨a,xs,rfl,h1,h2⟩:=h;exact⟨a,xs,rfl,h1,h2⟩
 |val d=>
  cases d<;>first|(cases e;done)|skip
  cases e
  cases h with
  |lst h n r=>exact⟨_,_,rfl,h,r⟩
def Sh.t(h:Sh K M H v w)(e:asT w=Gc ds):∃a xs,v=.ref a/\SqT K H a xs/\Ae K M H xs ds:=by
 cases w with
 |own es=>cases e
 |val d=>
  cases d<;>first|(cases e;done)|skip
  cases e
  cases h with
  |tup h r=>exact⟨_,_,rfl,h,r⟩
theorem M9:∀{ns:Wp Int},Ae K M H (ns.map V.int) (ns.map D.int)
 | []=>.nil
 |n::ns=>.cons (.int n) M9
def Sh.c(h:Sh K M H v w)(e:asC w=Gc ds):∃a xs,v=.ref a/\SqL K H a xs/\Ae K M H xs ds:=by
 cases w with
 |own es=>cases e
 |val d=>
  cases d<;>first|(cases e;done)|skip
  cases e
  cases h with
  |scr h=>
   refine⟨_,_,rfl,?_,M9⟩
   rcases h with h|h
   .exact .inl h.1
   .exact .inr h
def Sh.s(h:Sh K M H v w)(e:asS w=Gc ds):∃a xs,v=.ref a/\(SqL K H a xs\/SqT K H a xs)/\Ae K M H xs ds:=by
 unfold asS at e
 cases e1:asL w with
 |some es=>
  rw[e1]at e
  cases e
  obtain⟨a,xs,h1,h2,h3⟩:=h.l e1
  exact⟨a,xs,h1,.inl (.of h2),h3⟩
 |none=>
  rw[e1]at e
  cases e2:asT w with
  |some es=>
   rw[e2]at e
   cases e
   obtain⟨a,xs,h1,h2,h3⟩:=h.t e2
   exact⟨a,xs,h1,.inr h2,h3⟩
  |none=>
   rw[e2]at e
   obtain⟨a,xs,h1,h2,h3⟩:=h.c e
   exact⟨a,xs,h1,.inl h2,h3⟩
end
noncomputable def FI:Op1:=λw=>match w with
 | .val (.str z)=>if z.length<=sizeLine then Gc (.val (.int z.length))else none
 |_=>(asS w).map λds=>.val (.int ds.length)
def HQ:Cv X (.builtin "len") (rN X.K (o1 FI)):=by
 intro pins s σ H xs us Q I r h
 obtain⟨M,ws,w,e,mo,sh,q⟩:=h
 cases sh with
 |nil=>cases e
 |cons h1 t=>
  cases t with
  |cons h2 t=>cases e
  |nil=>
   rename_i v w1
   have e':FI w1=Gc w:=e
   unfold FI at e'
   split at e'
   .split at e'
    .rename_i z hz
     cases e'
     cases h1
     exact Rl pins s σ H _ us Q I r ⟨z,rfl,hz,q _ _ (.same mo (.int _))⟩
    .cases e'
   .cases e1:asS w1 with
    |none=>rw[e1]at e';cases e'
    |some ds=>
     rw[e1]at e'
     cases e'
     obtain⟨a,ys,rfl,h3,h4⟩:=h1.s e1
     refine Rr pins s σ H _ us Q I r ⟨a,ys,rfl,h3,q _ _ ?_⟩
     rw[h4.length]
     exact .same mo (.int _)
noncomputable def wIx:Op2:=λa b=>match a,b with
 |a,.val (.int i)=>(asS a).bind λds=>(atI ds i).map .val
 |_,_=>none
def di(h:Ae K M H xs ds)(e:atI ds i=Gc d):∃x,atI xs i=Gc x/\BQ K M H x d:=by
 unfold atI at e⊢
 rw[h.length]
 cases e1:ixN ds.length i with
 |none=>rw[e1]at e;cases e
 |some j=>
  rw[e1]at e
  exact h.get e
def Mh:IxR X (rOp X.K wIx):=by
 intro value slice pins s σ H x y v u Q I rx ry h hs
 obtain⟨M,w1,w2,r,e,mo,s1,s2,q⟩:=h
 unfold wIx at e
 split at e
 .rename_i i
  cases e1:asS w1 with
  |none=>rw[e1]at e;cases e
  |some ds=>
   rw[e1]at e
   simp only[AAw]at e
   cases e2:atI ds i with
   |none=>rw[e2]at e;cases e
   |some d=>
    rw[e2]at e
    cases e
    obtain rfl:=BQ.iv s2
    obtain⟨a,ys,rfl,h3,h4⟩:=s1.s e1
    obtain⟨z,h5,h6⟩:=di h4 e2
    rcases h3 with h3|h3
    .exact gP value slice pins s σ H _ _ v u Q I rx ry ⟨a,ys,i,z,rfl,rfl,h3,h5,q _ _ (.same mo h6)⟩ hs
    .exact kF value slice pins s σ H _ _ v u Q I rx ry ⟨a,ys,i,z,rfl,rfl,h3,h5,q _ _ (.same mo h6)⟩ hs
 .cases e
end
section
variable{X:Cx}
noncomputable def asI:Wv->vi Int
 | .val (.int i)=>Gc i
 |_=>none
noncomputable def asX:Wv->vi Str
 | .val (.str x)=>Gc x
 |_=>none
def RX(e:asI w=Gc i):w=.val (.int i):=by
 cases w with
 |own=>cases e
 |val d=>cases d with
  |int=>cases e;rfl
  |_=>cases e
def dB(e:asX w=Gc i):w=.val (.str i):=by
 cases w with
 |own=>cases e
 |val d=>cases d with
  |str=>cases e;rfl
  |_=>cases e
def Ut(e:asT w=Gc i):w=.val (.tup i):=by
 cases w with
 |own=>cases e
 |val d=>cases d with
  |tup=>cases e;rfl
  |_=>cases e
noncomputable def V1{α β:Type}(f:Wv->vi α)(g:α->α->vi β)(h:vi β)(a b:Wv):vi β:=match f a with
 |none=>h
 |some x=>match f b with
  |none=>h
  |some y=>g x y
def QK{α β:Type}{f:Wv->vi α}{g:α->α->vi β}{h:vi β}{r:β}(e:V1 f g h a b=Gc r):h=Gc r\/∃x y,f a=Gc x/\f b=Gc y/\g x y=Gc r:=by
 unfold V1 at e
 cases e1:f a with
 |none=>rw[e1]at e;exact .inl e
 |some x=>
  rw[e1]at e
  cases e2:f b with
  |none=>rw[e2]at e;exact .inl e
  |some y=>rw[e2]at e;exact .inr ⟨x,y,rfl,rfl,e⟩
noncomputable def BF:Op2:=λa b=>V1 asI (λi j=>Gc (.val (.int (i+j)))) (V1 asX (λx y=>if x.length+y.length<=sizeLine then Gc (.val (.str (x++y)))else none) (V1 asT (λxs ys=>if xs.length+ys.length<=sizeLine then Gc (.val (.tup (xs++ys)))else none)
 (V1 asL (λxs ys=>if xs.length+ys.length<=sizeLine then Gc (.own (xs++ys))else none) none a b) a b) a b) a b
def Vs{α:Type}{p:Prop} [Decidable p] {x:α}{r:α}(e:(if p then Gc x else none)=Gc r):p/\x=r:=by
 by_cases h:p
 .rw[wU h]at e;cases e;exact⟨h,rfl⟩
 .rw[wy h]at e;cases e
def Br:OpR X (binaryOp .Add) (rOp X.K BF):=by
 intro pins s σ H x y v u Q I rx ry h
 obtain⟨M,w1,w2,r,e,mo,s1,s2,q⟩:=h
 rcases QK e with e|⟨i,j,e1,e2,e⟩
 .rcases QK e with e|⟨i,j,e1,e2,e⟩
  .rcases QK e with e|⟨xs,ys,e1,e2,e⟩
   .rcases QK e with e|⟨xs,ys,e1,e2,e⟩
    .cases e
    .obtain⟨hz,rfl⟩:=Vs e
     obtain⟨a,xs',rfl,h1,r1⟩:=s1.l e1
     obtain⟨b,ys',rfl,h2,r2⟩:=s2.l e2
     have l1:=r1.length
     have l2:=r2.length
     exact lU pins s σ H _ _ v u Q I rx ry ⟨a,b,xs',ys',rfl,rfl,h1,h2,by lia,λp hp=>q _ _ (.lst mo hp (r1.append r2))⟩
   .obtain rfl:=Ut e1
    obtain rfl:=Ut e2
    obtain⟨hz,rfl⟩:=Vs e
    obtain⟨a,xs',rfl,h1,r1⟩:=BQ.iv s1
    obtain⟨b,ys',rfl,h2,r2⟩:=BQ.iv s2
    have l1:=r1.length
    have l2:=r2.length
    by_cases hx:xs'=[]
    .subst hx
     cases r1
     refine St.iD pins s σ H _ _ v u Q I rx ry ⟨_,_,_,rfl,rfl,h1,h2,q _ _ (.same mo ?_)⟩
     exact .tup h2 r2
    .refine fV pins s σ H _ _ v u Q I rx ry ⟨_,_,_,_,rfl,rfl,h1,h2,hx,by lia,λz=>?_,λ_ p hp=>q _ _ (.tup mo hp (r1.append r2))⟩
     subst z
     cases r2
     rw[yJ]at q
     exact q _ _ (.same mo (.tup h1 r1))
  .obtain rfl:=dB e1
   obtain rfl:=dB e2
   obtain⟨hz,rfl⟩:=Vs e
   obtain rfl:=BQ.iv s1
   obtain rfl:=BQ.iv s2
   exact Vl pins s σ H _ _ v u Q I rx ry ⟨_,_,rfl,rfl,hz,q _ _ (.same mo (.str _))⟩
 .obtain rfl:=RX e1
  obtain rfl:=RX e2
  cases e
  obtain rfl:=BQ.iv s1
  obtain rfl:=BQ.iv s2
  exact kR pins s σ H _ _ v u Q I rx ry ⟨_,_,rfl,rfl,q _ _ (.same mo (.int _))⟩
noncomputable def kl:Op2:=λa b=>(asI b).bind λk=>match asI a with
 |some i=>if DO i k=true then Gc (.val (.int (i*k)))else none
 |none=>match asT a with
  |some xs=>if(!xs.isEmpty && decide (1<=k) && decide (xs.length*k.toNat<=sizeLine))=true then Gc (.val (.tup (wB k.toNat xs).flatten))else none
  |none=>(asL a).bind λxs=>if(decide (k<2^63) && decide (-(2^63)<=k) && decide (xs.length*k.toNat<=sizeLine))=true then Gc (.own (wB k.toNat xs).flatten)else none
theorem Ae.rep(h:Ae K M H xs ds):∀n,Ae K M H (wB n xs).flatten (wB n ds).flatten
 |0=>.nil
 |n+1=>by
  rw[x9,x9,zD,zD]
  exact h.append (Ae.rep h n)
def eR:OpR X (binaryOp .Mult) (rOp X.K kl):=by
 intro pins s σ H x y v u Q I rx ry h
 obtain⟨M,w1,w2,r,e,mo,s1,s2,q⟩:=h
 obtain⟨k,e2,e0⟩:=Ag e
 obtain rfl:=RX e2
 clear e e2
 cases e1:asI w1 with
 |some i=>
  obtain rfl:=RX e1
  clear e1
  refine gf pins s σ H x y v u Q I rx ry ⟨M,_,_,r,?_,mo,s1,s2,q⟩
  obtain⟨hk,rfl⟩:=Vs e0
  show ADZ Wv.val (if DO i k=true then Gc (D.int (i*k))else none)=Gc _
  rw[wU hk]
  rfl
 |none=>
  rw[e1]at e0
  dsimp only at e0
  obtain rfl:=BQ.iv s2
  cases e3:asT w1 with
  |some xs=>
   rw[e3]at e0
   obtain rfl:=Ut e3
   obtain⟨hk,rfl⟩:=Vs e0
   rw[vn,vn]at hk
   obtain⟨a,ys,rfl,h1,r1⟩:=BQ.iv s1
   have l1:=r1.length
   have z:=v3 hk.2
   have hk1:=v3 hk.1.2
   have hne:ys≠[]:=λzz=>by
    subst zz
    cases r1
    exact absurd hk.1.1 (by decide)
   refine fQ pins s σ H _ _ v u Q I rx ry ⟨a,ys,k,rfl,rfl,h1,hne,hk1,by rw[l1];exact z,λe1=>?_,λ_ p hp=>q _ _ (.tup mo hp (r1.rep _))⟩
   subst e1
   have:(wB (1:Int).toNat xs).flatten=xs:=by simp
   rw[this]at q
   exact q _ _ (.same mo (.tup h1 r1))
  |none=>
   rw[e3]at e0
   obtain⟨xs,e4,e0⟩:=Ag e0
   obtain⟨hk,rfl⟩:=Vs e0
   rw[vn,vn]at hk
   obtain⟨a,xs',rfl,h1,r1⟩:=s1.l e4
   have l1:=r1.length
   have z:=v3 hk.2
   exact mT pins s σ H _ _ v u Q I rx ry ⟨a,k,xs',rfl,rfl,h1,v3 hk.1.2,v3 hk.1.1,by rw[l1];exact z,λp hp=>q _ _ (.lst mo hp (r1.rep _))⟩
noncomputable def ZN:Op1
 | .val (.int i)=>Gc (.val (.int (-i)))
 |_=>none
def X4:UnR X (unaryOp .USub) (rUn X.K ZN):=by
 intro pins s σ H x v Q I rx h
 obtain⟨M,w,r,e,mo,s1,q⟩:=h
 unfold ZN at e
 split at e
 .cases e
  obtain rfl:=BQ.iv s1
  exact lB pins s σ H _ v Q I rx ⟨_,rfl,q _ _ (.same mo (.int _))⟩
 .cases e
noncomputable def Ip:D->xD
 | .non=>true| .bl _=>true| .int _=>true| .str _=>true
 |_=>false
def Sh.flat(h:Sh K M H v w)(f:Ip (fz w)=true):BQ K M H v (fz w):=by
 cases w with
 |val d=>exact h
 |own ds=>cases f
noncomputable def inD(x:D)(xs:Wp D):xD:=xs.any λy=>deq y x
def Tv(h:BQ K M H v d)(f:Ip d=true):NN v=true:=by
 cases h<;>first|rfl|cases f
def d9(h:BQ K M H v d)(g:BQ K M H u e)(f:Ip d=true)(f':Ip e=true):eqV v u=deq d e:=by
 cases h<;>first|(cases f;done)|skip
 all_goals (cases g<;>first|(cases f';done)|rfl)
def Ww(h:Ae K M H vs ds):ds.all Ip=true->vs.all NN=true:=h.ind (P:=λvs ds=>ds.all Ip=true->vs.all NN=true) (λ_=>rfl) λh t f=>by
 rw[AAO,vn]at f⊢
 exact⟨Tv h f.1,t f.2⟩
def iN(g:BQ K M H u e)(f':Ip e=true)(h:Ae K M H vs ds):ds.all Ip=true->inV u vs=inD e ds:=h.ind (P:=λvs ds=>ds.all Ip=true->inV u vs=inD e ds) (λ_=>rfl) λh t f=>by
 rw[AAO,vn]at f
 have ih:=t f.2
 unfold inV inD at ih⊢
 rw[AAP,AAP,ih,d9 h g f.1 f']
noncomputable def wIn(neg:xD):Op2:=λa b=>(asS b).bind λds=>if(Ip (fz a) && ds.all Ip)=true then Gc (.val (.bl (if neg then !inD (fz a) ds else inD (fz a) ds)))else none
def cj(e:wIn neg w1 w2=Gc r)(mo:MOk M H)(s1:Sh X.K M H x w1)(s2:Sh X.K M H y w2)(q:∀v H',Nw X.K M H H' v r->Q v H'):rIn X.K neg x y H Q:=by
 unfold wIn at e
 cases e1:asS w2 with
 |none=>rw[e1]at e;cases e
 |some ds=>
  rw[e1]at e
  simp only[AAw]at e
  split at e
  .rename_i hk
   rw[vn]at hk
   cases e
   obtain⟨a,xs,rfl,h3,h4⟩:=s2.s e1
   have g1:=s1.flat hk.1
   refine⟨a,xs,rfl,h3,Tv g1 hk.1,Ww h4 hk.2,?_⟩
   rw[iN g1 hk.1 h4 hk.2]
   exact q _ _ (.same mo (.bl _))
  .cases e
def sG:OpR X (compareOp .In) (rOp X.K (wIn false)):=by
 intro pins s σ H x y v u Q I rx ry h
 obtain⟨M,w1,w2,r,e,mo,s1,s2,q⟩:=h
 exact X8 pins s σ H _ _ v u Q I rx ry (cj e mo s1 s2 q)
def W7:OpR X (compareOp .NotIn) (rOp X.K (wIn true)):=by
 intro pins s σ H x y v u Q I rx ry h
 obtain⟨M,w1,w2,r,e,mo,s1,s2,q⟩:=h
 exact Rv pins s σ H _ _ v u Q I rx ry (cj e mo s1 s2 q)
noncomputable def isN:Wv->xD
 | .val .non=>true
 |_=>false
noncomputable def SD(neg:xD):Op2:=λa b=>match b with
 | .val .non=>Gc (.val (.bl (if neg then !isN a else isN a)))
 |_=>none
def WR(s:Sh K M H x w):decide (x=.non)=isN w:=by
 cases w with
 |own ds=>obtain⟨a,xs,rfl,_⟩:=s;rfl
 |val d=>cases s<;>rfl
def TM:OpR X (compareOp .Is) (rOp X.K (SD false)):=by
 intro pins s σ H x y v u Q I rx ry h
 obtain⟨M,w1,w2,r,e,mo,s1,s2,q⟩:=h
 unfold SD at e
 split at e
 .cases e
  obtain rfl:=BQ.iv s2
  refine jq pins s σ H _ _ v u Q I rx ry ⟨rfl,?_⟩
  rw[WR s1]
  exact q _ _ (.same mo (.bl _))
 .cases e
def Z6:OpR X (compareOp .IsNot) (rOp X.K (SD true)):=by
 intro pins s σ H x y v u Q I rx ry h
 obtain⟨M,w1,w2,r,e,mo,s1,s2,q⟩:=h
 unfold SD at e
 split at e
 .cases e
  obtain rfl:=BQ.iv s2
  refine fc pins s σ H _ _ v u Q I rx ry ⟨rfl,?_⟩
  rw[WR s1]
  exact q _ _ (.same mo (.bl _))
 .cases e
def GR(h:Shs K M H xs ws)(e:o1 f ws=Gc r):∃v w,xs=[v]/\ws=[w]/\Sh K M H v w/\f w=Gc r:=by
 cases h with
 |nil=>cases e
 |cons h1 t=>
  cases t with
  |cons h2 t=>cases e
  |nil=>exact⟨_,_,rfl,rfl,h1,e⟩
def Sj(h:Shs K M H xs ws)(e:o2 f ws=Gc r):∃v w v' w',xs=[v,v']/\ws=[w,w']/\Sh K M H v w/\Sh K M H v' w'/\f w w'=Gc r:=by
 cases h with
 |nil=>cases e
 |cons h1 t=>
  cases t with
  |nil=>cases e
  |cons h2 t=>
   cases t with
   |cons h3 t=>cases e
   |nil=>exact⟨_,_,_,_,rfl,rfl,h1,h2,e⟩
noncomputable def ie:Op1
 | .val (.int i)=>Gc (.val (.int (if i<0 then-i else i)))
 |_=>none
def jA:Cv X (.builtin "abs") (rN X.K (o1 ie)):=by
 intro pins s σ H xs us Q I r h
 obtain⟨M,ws,w,e,mo,sh,q⟩:=h
 obtain⟨v,w1,rfl,rfl,s1,e1⟩:=GR sh e
 unfold ie at e1
 split at e1
 .cases e1
  obtain rfl:=BQ.iv s1
  exact aB pins s σ H _ us Q I r ⟨_,rfl,q _ _ (.same mo (.int _))⟩
 .cases e1
noncomputable def m9:Op2:=wI2 λi j=>Gc (.int (if j>i then j else i))
noncomputable def iT:Op2:=wI2 λi j=>Gc (.int (if j<i then j else i))
def UO(e:wI2 f a b=Gc r):∃i j d,a=.val (.int i)/\b=.val (.int j)/\f i j=Gc d/\r=.val d:=by
 unfold wI2 at e
 split at e
 .rename_i i j
  cases e1:f i j with
  |none=>rw[e1]at e;cases e
  |some d=>rw[e1]at e;cases e;exact⟨i,j,d,rfl,rfl,e1,rfl⟩
 .cases e
def Yo(hc:X.calm=true):Cv X (.builtin "max") (rN X.K (o2 m9)):=by
 intro pins s σ H xs us Q I r h
 obtain⟨M,ws,w,e,mo,sh,q⟩:=h
 obtain⟨v,w1,v',w2,rfl,rfl,s1,s2,e1⟩:=Sj sh e
 obtain⟨i,j,d,rfl,rfl,e2,rfl⟩:=UO e1
 cases e2
 obtain rfl:=BQ.iv s1
 obtain rfl:=BQ.iv s2
 exact Yv hc pins s σ H _ us Q I r ⟨_,_,rfl,q _ _ (.same mo (.int _))⟩
def ZD(hc:X.calm=true):Cv X (.builtin "min") (rN X.K (o2 iT)):=by
 intro pins s σ H xs us Q I r h
 obtain⟨M,ws,w,e,mo,sh,q⟩:=h
 obtain⟨v,w1,v',w2,rfl,rfl,s1,s2,e1⟩:=Sj sh e
 obtain⟨i,j,d,rfl,rfl,e2,rfl⟩:=UO e1
 cases e2
 obtain rfl:=BQ.iv s1
 obtain rfl:=BQ.iv s2
 exact WJ hc pins s σ H _ us Q I r ⟨_,_,rfl,q _ _ (.same mo (.int _))⟩
noncomputable def CD:Op1:=λw=>(asS w).map λds=>.val (.tup ds)
def Ke:Cv X (.type "tuple") (rN X.K (o1 CD)):=by
 intro pins s σ H xs us Q I r h
 obtain⟨M,ws,w,e,mo,sh,q⟩:=h
 obtain⟨v,w1,rfl,rfl,s1,e1⟩:=GR sh e
 unfold CD at e1
 cases e2:asS w1 with
 |none=>rw[e2]at e1;cases e1
 |some ds=>
  rw[e2]at e1
  cases e1
  obtain⟨a,ys,rfl,h3,h4⟩:=s1.s e2
  refine QL pins s σ H _ us Q I r ⟨a,ys,rfl,?_⟩
  rcases h3 with h3|h3
  .exact .inl ⟨h3,λl hl=>q _ _ (.tup mo hl h4)⟩
  .exact .inr ⟨h3,q _ _ (.same mo (.tup h3 h4))⟩
noncomputable def RB:Op1:=λw=>(asS w).map λds=>.own ds
def iR:Cv X (.type "list") (rN X.K (o1 RB)):=by
 intro pins s σ H xs us Q I r h
 obtain⟨M,ws,w,e,mo,sh,q⟩:=h
 obtain⟨v,w1,rfl,rfl,s1,e1⟩:=GR sh e
 unfold RB at e1
 cases e2:asS w1 with
 |none=>rw[e2]at e1;cases e1
 |some ds=>
  rw[e2]at e1
  cases e1
  obtain⟨a,ys,rfl,h3,h4⟩:=s1.s e2
  exact Rc pins s σ H _ us Q I r ⟨a,ys,rfl,h3,λl hl=>q _ _ (.lst mo hl h4)⟩
noncomputable def eZ:Op1
 | .val (.int i)=>Gc (.val (.int i))
 | .val (.bl b)=>Gc (.val (.int (if b then 1 else 0)))
 |_=>none
def lx:Cv X (.type "int") (rN X.K (o1 eZ)):=by
 intro pins s σ H xs us Q I r h
 obtain⟨M,ws,w,e,mo,sh,q⟩:=h
 obtain⟨v,w1,rfl,rfl,s1,e1⟩:=GR sh e
 unfold eZ at e1
 split at e1
 .cases e1
  obtain rfl:=BQ.iv s1
  exact SJ pins s σ H _ us Q I r (.inl ⟨_,rfl,q _ _ (.same mo (.int _))⟩)
 .cases e1
  obtain rfl:=BQ.iv s1
  exact SJ pins s σ H _ us Q I r (.inr ⟨_,rfl,q _ _ (.same mo (.int _))⟩)
 .cases e1
noncomputable def qz:Op1
 | .val (.int i)=>if i.natAbs.log2<1920 then Gc (.val (.str (toString i)))else none
 |_=>none
def Wi:Cv X (.type "str") (rN X.K (o1 qz)):=by
 intro pins s σ H xs us Q I r h
 obtain⟨M,ws,w,e,mo,sh,q⟩:=h
 obtain⟨v,w1,rfl,rfl,s1,e1⟩:=GR sh e
 unfold qz at e1
 split at e1
 .split at e1
  .cases e1
   obtain rfl:=BQ.iv s1
   exact Q9 pins s σ H _ us Q I r ⟨_,rfl,by assumption,q _ _ (.same mo (.str _))⟩
  .cases e1
 .cases e1
noncomputable def blD:D->vi xD
 | .bl b=>Gc b
 |_=>none
noncomputable def bls(ds:Wp D):vi (Wp xD):=ds.mapM blD
theorem Sv:∀{vs} {ds} {bs},Ae K M H vs ds->bls ds=Gc bs->vs=bs.map V.bl
 |_,_,bs,.nil,e=>by cases e;rfl
 |_,_,bs,.cons (d:=d) (ds:=ds) h t,e=>by
  unfold bls at e
  rw[ABe]at e
  cases e1:blD d with
  |none=>rw[e1]at e;cases e
  |some b=>
   rw[e1]at e
   cases e2:ds.mapM blD with
   |none=>rw[e2]at e;cases e
   |some cs=>
    rw[e2]at e
    cases e
    have hd:d=.bl b:=by
     cases d<;>first|(cases e1;done)|skip
     cases e1;rfl
    subst hd
    cases h
    rw[v5,<-Sv t e2]
noncomputable def ZP:Op1:=λw=>(asL w).bind λds=>(bls ds).map λbs=>.val (.bl (bs.all id))
def YR(hc:X.calm=true):Cv X (.builtin "all") (rN X.K (o1 ZP)):=by
 intro pins s σ H xs us Q I r h
 obtain⟨M,ws,w,e,mo,sh,q⟩:=h
 obtain⟨v,w1,rfl,rfl,s1,e1⟩:=GR sh e
 unfold ZP at e1
 cases e2:asL w1 with
 |none=>rw[e2]at e1;cases e1
 |some ds=>
  rw[e2]at e1
  simp only[AAw]at e1
  cases e3:bls ds with
  |none=>rw[e3]at e1;cases e1
  |some bs=>
   rw[e3]at e1
   cases e1
   obtain⟨a,ys,rfl,h3,h4⟩:=s1.l e2
   exact St.Yx hc pins s σ H _ us Q I r ⟨a,bs,rfl,by rw[<-Sv h4 e3];exact .of h3,q _ _ (.same mo (.bl _))⟩
noncomputable def kdW:Wv->vi St.Kd
 | .own _=>Gc .lst
 | .val .non=>Gc .non| .val (.bl _)=>Gc .bl| .val (.int _)=>Gc .int| .val (.str _)=>Gc .str| .val (.lst _)=>Gc .lst| .val (.dct _)=>Gc .dct| .val (.tup _)=>Gc .tup
 | .val (.ty _)=>none| .val (.scr _)=>none| .val (.ref _)=>none
end
section
variable{X:Cx}
def aX(k:St.Kd):yv K (.type k.ty) (.type "list")=Gc (k.isA "list"):=by
 cases k<;>rfl
noncomputable def Ql(T:yo):xD:=T== "int" ||T== "bool" ||T== "tuple" ||T== "str" ||T== "list"
def jx(h:Ql T=true)(k:St.Kd):yv K (.type k.ty) (.type T)=Gc (k.isA T):=by
 unfold Ql at h
 simp only[xq,AAV]at h
 rcases h with(((rfl|rfl)|rfl)|rfl)|rfl
 .exact St.fU k
 .exact St.Z7 k
 .exact St.kit_tuple k
 .exact St.gN k
 .exact aX k
noncomputable def SQ:Op2:=λa t=>match t with
 | .val (.ty T)=>if Ql T=true then(kdW a).map λk=>.val (.bl (k.isA T))else none
 |_=>none
def N8:Cv X (.builtin "isinstance") (rN X.K (o2 SQ)):=by
 intro pins s σ H xs us Q I r h
 obtain⟨M,ws,w,e,mo,sh,q⟩:=h
 obtain⟨v,w1,v',w2,rfl,rfl,s1,s2,e1⟩:=Sj sh e
 unfold SQ at e1
 split at e1
 .rename_i T
  split at e1
  .rename_i hT
   cases e2:kdW w1 with
   |none=>rw[e2]at e1;cases e1
   |some k=>
    rw[e2]at e1
    cases e1
    obtain rfl:=BQ.iv s2
    obtain⟨u1,u2,rfl,r1,r2⟩:=r.two
    cases (show u2=ADR T from r2)
    have fin:∀tk,EP X pins σ Q (.bool (k.isA T)) {s with toks:=tk}:=λtk=>⟨.bl _,H,I.tok tk,rfl,q _ _ (.same mo (.bl _))⟩
    have kk:=jx (K:=X.K) hT k
    cases w1 with
    |own ds=>
     cases e2
     obtain⟨a,ys,rfl,h1,_⟩:=s1
     exact GO I r1 (.lst h1) kk fin
    |val d=>
     have s1':BQ X.K M H v d:=s1
     cases s1' with
     |non=>cases e2;exact GO I r1 .non kk fin
     |bl b=>cases e2;exact GO I r1 (.bl b) kk fin
     |int b=>cases e2;exact GO I r1 (.int b) kk fin
     |str b=>cases e2;exact GO I r1 (.str b) kk fin
     |ty b=>cases e2
     |scr h=>cases e2
     |lst h n rr=>cases e2;exact GO I r1 (.lst h) kk fin
     |dct h n rr=>cases e2;exact GO I r1 (.dK h) kk fin
     |ref h=>cases e2
     |tup h rr=>
      cases e2
      rename_i a ys ds
      cases (show u1=w9 a from r1)
      obtain⟨its,_,⟨o,h1,h2,_⟩,_⟩:=I.tuple h
      exact xo ADT I.kIn ⟨o,h1,h2⟩ kk (λz=>nomatch z) fin
  .cases e1
 .cases e1
noncomputable def Bh(fs:Wp Ev):Ev:=λE S=>(evs fs E S).bind λr=>if r.1.length<=sizeLine then Gc (.tup r.1,r.2)else none
noncomputable def ZU(c:xD)(fs:Wp Ev):Ev:=λE S=>(evs fs E S).bind λr=>if r.1.length<=sizeLine then fin c (.own r.1) r.2 else none
abbrev Km:=ZU false
abbrev J4:=ZU true
def Gn(h:DEs X es fs):DE X (.Tuple es k pos) (Bh fs):=⟨BN (jb h.pe) λσ H Q z=>by
 obtain⟨M,E,S,d,S',e,r,st,q⟩:=z
 obtain⟨⟨ds,S1⟩,e1,e⟩:=Ag e
 dsimp only at e
 split at e
 .cases e
  refine HM e1 r st λvs H1 M1 g1 st1 d1=>⟨by rw[d1.length];assumption,λp hp=>?_⟩
  have n:=Nw.tup st1.mo hp d1
  exact q _ _ M1 (g1.trans (.grow st1.mo n.grow)) (st1.grow n.grow) n.rel
 .cases e⟩
def WQ(h:DEs X es fs):DE X (.List es pos) (ZU c fs):=⟨BN (mO h.pe) λσ H Q z=>by
 obtain⟨M,E,S,d,S',e,r,st,q⟩:=z
 obtain⟨⟨ds,S1⟩,e1,e⟩:=Ag e
 dsimp only at e
 split at e
 .refine HM e1 r st λvs H1 M1 g1 st1 d1=>⟨by rw[d1.length];assumption,λp hp=>?_⟩
  obtain⟨M2,g2,st2,d2⟩:=(Nw.lst st1.mo hp d1).fin st1 e
  exact q _ _ M2 (g1.trans g2) st2 d2
 .cases e⟩
noncomputable def Fi(f g:Ev):Ev:=λE S=>(f E S).bind λr=>match r.1 with
 | .bl true=>g E r.2
 | .bl false=>Gc (.bl false,r.2)
 |_=>none
noncomputable def eOr(f g:Ev):Ev:=λE S=>(f E S).bind λr=>match r.1 with
 | .bl false=>g E r.2
 | .bl true=>Gc (.bl true,r.2)
 |_=>none
noncomputable def Jm(f:Ev):Ev:=λE S=>(f E S).bind λr=>match r.1 with
 | .bl b=>Gc (.bl (!b),r.2)
 |_=>none
noncomputable def eIf(c f g:Ev):Ev:=λE S=>(c E S).bind λr=>match r.1 with
 | .bl true=>f E r.2
 | .bl false=>g E r.2
 |_=>none
def Ot(h:BQ K M H v (.bl b)):v=.bl b:=by cases h;rfl
variable{a b c:xM}{rest:Wp xM}{f g h:Ev}
def cW(h:DE X a f):DE X (.BoolOp op [a] pos) f:=⟨kE h.pe⟩
def jT(ha:DE X a f)(hb:DE X (.BoolOp .And (b::rest) pos) g):DE X (.BoolOp .And (a::b::rest) pos) (Fi f g):=⟨BN (jh ha.pe hb.pe) λσ H Q z=>by
 obtain⟨M,E,S,d,S',e,r,st,q⟩:=z
 obtain⟨⟨d1,S1⟩,e1,e⟩:=Ag e
 dsimp only at e
 refine⟨M,E,S,d1,S1,e1,r,st,λv H1 M1 g1 st1 r1=>?_⟩
 split at e
 .cases Ot r1
  refine⟨_,rfl,?_⟩
  refine dP ?_
  exact⟨M1,E,S1,d,S',e,r.step g1.st,st1,λv H2 M2 g2 st2 r2=>q _ _ M2 (g1.trans g2) st2 r2⟩
 .cases e
  cases Ot r1
  refine⟨_,rfl,?_⟩
  refine bq ?_
  exact q _ _ M1 g1 st1 r1
 .cases e⟩
def qk(ha:DE X a f)(hb:DE X (.BoolOp .Or (b::rest) pos) g):DE X (.BoolOp .Or (a::b::rest) pos) (eOr f g):=⟨BN (pY ha.pe hb.pe) λσ H Q z=>by
 obtain⟨M,E,S,d,S',e,r,st,q⟩:=z
 obtain⟨⟨d1,S1⟩,e1,e⟩:=Ag e
 dsimp only at e
 refine⟨M,E,S,d1,S1,e1,r,st,λv H1 M1 g1 st1 r1=>?_⟩
 split at e
 .cases Ot r1
  refine⟨_,rfl,?_⟩
  refine bq ?_
  exact⟨M1,E,S1,d,S',e,r.step g1.st,st1,λv H2 M2 g2 st2 r2=>q _ _ M2 (g1.trans g2) st2 r2⟩
 .cases e
  cases Ot r1
  refine⟨_,rfl,?_⟩
  refine dP ?_
  exact q _ _ M1 g1 st1 r1
 .cases e⟩
def si(ha:DE X a f):DE X (.UnaryOp .Not a pos) (Jm f):=⟨BN (mJ ha.pe) λσ H Q z=>by
 obtain⟨M,E,S,d,S',e,r,st,q⟩:=z
 obtain⟨⟨d1,S1⟩,e1,e⟩:=Ag e
 dsimp only at e
 split at e
 .cases e
  refine⟨M,E,S,_,_,e1,r,st,λv H1 M1 g1 st1 r1=>?_⟩
  cases Ot r1
  exact⟨_,rfl,q _ _ M1 g1 st1 (.bl _)⟩
 .cases e⟩
inductive tDT(K:vZ)(f:Ev)(σ:Sg)(H:Hp)(Q:xD->Hp->Prop):Prop
 |mk (M:Ms) (E:En) (S:Sto) (b:xD) (S':Sto) (e:f E S=Gc (.bl b,S')) (r:EnR K M E σ H) (st:StR K M S H) (q:∀H' M',Gr M H M' H'->StR K M' S' H'->Q b H')
structure DT(X:Cx)(e:xM)(f:Ev):Prop where
 pe:PT X e (tDT X.K f)
structure DW(X:Cx)(e:xM)(f:Ev):Prop where
 pe:PW X e (tDT X.K f)
def DW.dt(h:DW X a f):DT X a f:=⟨PW.pt h.pe⟩
def bI(h:PT X a (kf t))(m:∀σ H Q,tD X.K f σ H Q->t σ H Q):DT X a f:=⟨XR h λσ H Q z=>by
 obtain⟨M,E,S,b,S',e,r,st,q⟩:=z
 refine m _ _ _ ⟨M,E,S,_,S',e,r,st,λv H1 M1 g1 st1 r1=>?_⟩
 cases Ot r1
 exact⟨_,rfl,q _ M1 g1 st1⟩⟩
def JO(h:DE X a f)(he:xz (∀whole,isTrue a X.env whole=(do let v<-whole;standAt a.pos;holding [v] (truthy v))) wv):DT X a f:=bI (t:=tD X.K f) (lu h.pe he) λ_ _ _ z=>z
def Ec{f:Op2}(ho:OpR X (compareOp op) (rOp X.K f))(ha:DE X a fa)(hb:DE X b fb)(hm:xz (behindInMarks op b=false) wp):DT X (.Compare a [op] [b] pos) (eOp (o2 f) [fa,fb]):=
 bI (YU ho ha.pe hb.pe hm) λ_ _ _ h=>UU h
def NV(ha:DT X a f):DT X (.UnaryOp .Not a pos) (Jm f):=⟨XR (jC ha.pe) λσ H Q z=>by
 obtain⟨M,E,S,b,S',e,r,st,q⟩:=z
 obtain⟨⟨w1,S1⟩,e1,e⟩:=Ag e
 dsimp only at e
 split at e
 .cases e
  exact⟨M,E,S,_,_,e1,r,st,q⟩
 .cases e⟩
def Yw(ha:DT X a f):DW X (.BoolOp .And [a] pos) f:=⟨eQ ha.pe⟩
def Ov(ha:DT X a f):DW X (.BoolOp .Or [a] pos) f:=⟨k7 ha.pe⟩
def Yj(h:PW X e t)(m:∀σ H Q,t' σ H Q->t σ H Q):PW X e t':=λwh pins s σ H Q I q=>h wh pins s σ H Q I (m _ _ _ q)
def dJ(ha:DT X a f)(hb:DW X (.BoolOp .And (b::rest) pos) g):DW X (.BoolOp .And (a::b::rest) pos) (Fi f g):=⟨Yj (j5 ha.pe hb.pe) λσ H Q z=>by
 obtain⟨M,E,S,k,S',e,r,st,q⟩:=z
 obtain⟨⟨w1,S1⟩,e1,e⟩:=Ag e
 dsimp only at e
 split at e
 .refine⟨M,E,S,_,S1,e1,r,st,λH1 M1 g1 st1=>?_⟩
  refine dP ?_
  exact⟨M1,E,S1,k,S',e,r.step g1.st,st1,λH2 M2 g2 st2=>q _ M2 (g1.trans g2) st2⟩
 .cases e
  refine⟨M,E,S,_,_,e1,r,st,λH1 M1 g1 st1=>?_⟩
  refine bq ?_
  exact q _ M1 g1 st1
 .cases e⟩
def Vf(ha:DT X a f)(hb:DW X (.BoolOp .Or (b::rest) pos) g):DW X (.BoolOp .Or (a::b::rest) pos) (eOr f g):=⟨Yj (rD ha.pe hb.pe) λσ H Q z=>by
 obtain⟨M,E,S,k,S',e,r,st,q⟩:=z
 obtain⟨⟨w1,S1⟩,e1,e⟩:=Ag e
 dsimp only at e
 split at e
 .refine⟨M,E,S,_,S1,e1,r,st,λH1 M1 g1 st1=>?_⟩
  refine bq ?_
  exact⟨M1,E,S1,k,S',e,r.step g1.st,st1,λH2 M2 g2 st2=>q _ M2 (g1.trans g2) st2⟩
 .cases e
  refine⟨M,E,S,_,_,e1,r,st,λH1 M1 g1 st1=>?_⟩
  refine dP ?_
  exact q _ M1 g1 st1
 .cases e⟩
def eU(hc:DT X c f)(ha:DE X a g)(hb:DE X b h):DE X (.IfExp c a b pos) (eIf f g h):=⟨BN (bD hc.pe ha.pe hb.pe) λσ H Q z=>by
 obtain⟨M,E,S,d,S',e,r,st,q⟩:=z
 obtain⟨⟨w1,S1⟩,e1,e⟩:=Ag e
 dsimp only at e
 split at e
 .refine⟨M,E,S,_,S1,e1,r,st,λH1 M1 g1 st1=>?_⟩
  refine dP ?_
  exact⟨M1,E,S1,d,S',e,r.step g1.st,st1,λv H2 M2 g2 st2 r2=>q _ _ M2 (g1.trans g2) st2 r2⟩
 .refine⟨M,E,S,_,S1,e1,r,st,λH1 M1 g1 st1=>?_⟩
  refine bq ?_
  exact⟨M1,E,S1,d,S',e,r.step g1.st,st1,λv H2 M2 g2 st2 r2=>q _ _ M2 (g1.trans g2) st2 r2⟩
 .cases e⟩
end
inductive Fl where
 |nx
 |ret (d:D)
abbrev Ex:=En->Sto->vi (Fl×En×Sto)
def End(K:vZ)(M:Ms)(H:Hp)(Dn:Ends)(E':En)(S':Sto):Fl->Prop
 | .nx=>∀σ' H' M',Gr M H M' H'->EnR K M' E' σ' H'->StR K M' S' H'->Dn.nx σ' H'
 | .ret d=>∀v H' M',Gr M H M' H'->StR K M' S' H'->BQ K M' H' v d->Dn.rt v H'
inductive tX(K:vZ)(f:Ex)(Dn:Ends)(σ:Sg)(H:Hp):Prop
 |mk (M:Ms) (E:En) (S:Sto) (fl:Fl) (E':En) (S':Sto) (e:f E S=Gc (fl,E',S')) (r:EnR K M E σ H) (st:StR K M S H) (q:End K M H Dn E' S' fl)
structure DS(X:Cx)(st:wV)(f:Ex):Prop where
 pe:PS X st (tX X.K f)
structure DSs(X:Cx)(st:Wp wV)(f:Ex):Prop where
 pe:PSs X st (tX X.K f)
def GH(h:PS X e t)(m:∀Dn σ H,t' Dn σ H->t Dn σ H):PS X e t':=λpins s σ H Dn I q=>h pins s σ H Dn I (m _ _ _ q)
def QM(h:PSs X e t)(m:∀Dn σ H,t' Dn σ H->t Dn σ H):PSs X e t':=λpins s σ H Dn I q=>h pins s σ H Dn I (m _ _ _ q)
def End.later{M M1:Ms}(q:End K M H Dn E' S' fl)(g:Gr M H M1 H1):End K M1 H1 Dn E' S' fl:=by
 cases fl with
 |nx=>exact λσ' H' M' g' r st=>q σ' H' M' (g.trans g') r st
 |ret d=>exact λv H' M' g' st r=>q v H' M' (g.trans g') st r
noncomputable def AM(f g:Ex):Ex:=λE S=>(f E S).bind λr=>match r.1 with
 | .nx=>g r.2.1 r.2.2
 | .ret w=>Gc (.ret w,r.2)
noncomputable def BX:Ex:=λE S=>Gc (.nx,E,S)
section
variable{X:Cx}{st:wV}{rest a b:Wp wV}{f g h:Ex}{c e:xM}{k:Ev}{pos:Pos}
def Cw:DSs X [] BX:=⟨QM fF λDn σ H z=>by
 obtain⟨M,E,S,fl,E',S',e,r,st,q⟩:=z
 cases e
 exact q _ _ M (.refl st.mo) r st⟩
def AW(h1:DS X st f)(h2:DSs X rest g):DSs X (st::rest) (AM f g):=⟨QM (Tw h1.pe h2.pe) λDn σ H z=>by
 obtain⟨M,E,S,fl,E',S',e,r,st,q⟩:=z
 obtain⟨⟨f1,E1,S1⟩,e1,e⟩:=Ag e
 dsimp only at e
 split at e
 .exact⟨M,E,S,.nx,E1,S1,e1,r,st,λσ1 H1 M1 g1 r1 st1=>⟨M1,E1,S1,fl,E',S',e,r1,st1,q.later g1⟩⟩
 .cases e
  exact⟨M,E,S,.ret _,_,_,e1,r,st,q⟩⟩
def AZ(h1:DS X st f):DSs X [st] f:=⟨Wn h1.pe⟩
noncomputable def xIf(c:Ev)(f g:Ex):Ex:=λE S=>(c E S).bind λr=>match r.1 with
 | .bl true=>f E r.2
 | .bl false=>g E r.2
 |_=>none
def JT(hc:DT X c k)(ha:DSs X a f)(hb:DSs X b g):DS X (.If c a b pos) (xIf k f g):=⟨GH (qX hc.pe ha.pe hb.pe) λDn σ H z=>by
 obtain⟨M,E,S,fl,E',S',e,r,st,q⟩:=z
 obtain⟨⟨w1,S1⟩,e1,e⟩:=Ag e
 dsimp only at e
 split at e
 .refine⟨M,E,S,_,S1,e1,r,st,λH1 M1 g1 st1=>?_⟩
  refine dP ?_
  exact⟨M1,E,S1,fl,E',S',e,r.step g1.st,st1,q.later g1⟩
 .refine⟨M,E,S,_,S1,e1,r,st,λH1 M1 g1 st1=>?_⟩
  refine bq ?_
  exact⟨M1,E,S1,fl,E',S',e,r.step g1.st,st1,q.later g1⟩
 .cases e⟩
noncomputable def AU(k:Ev):Ex:=λE S=>(k E S).map λr=>(.ret r.1,E,r.2)
def A7(h:DE X e k):DS X (.Return (Gc e) pos) (AU k):=⟨GH (b0 h.pe) λDn σ H z=>by
 obtain⟨M,E,S,fl,E',S',e,r,st,q⟩:=z
 obtain⟨⟨d,S1⟩,e1,e⟩:=Jl e
 cases e
 exact⟨M,E,S,d,S1,e1,r,st,λv H1 M1 g1 st1 r1=>q _ _ M1 g1 st1 r1⟩⟩
end
section
variable{K:vZ}
def EnR.put(r:EnR K M E σ H)(rd:BQ K M H v d):EnR K M (E.set i (Gc d)) (σ.set i (Gc v)) H:=by
 refine⟨by rw[yR,yR];exact r.len,λj e ej=>?_⟩
 by_cases h:i=j
 .subst h
  by_cases hi:i<E.length
  .rw[vx hi]at ej
   cases ej
   exact⟨v,vx (by rw[<-r.len];exact hi),rd⟩
  .rw[List.getElem?_eq_none_iff.mpr (by rw[yR];lia)]at ej;cases ej
 .rw[vj h]at ej
  obtain⟨v',h1,h2⟩:=r.val j e ej
  exact⟨v',by rw[vj h];exact h1,h2⟩
end
noncomputable def A6(i:Nat)(k:Ev):Ex:=λE S=>(k E S).map λr=>(.nx,E.set i (Gc r.1),r.2)
def Fd{X:Cx}{e:xM}{pos pos':Pos} i(h:DE X e k)(hN:X.N.Nodup)(hi:xz (X.N[i]?=Gc x) wp)(hx:xz (Loc X.env.scope x) wS)(hs:xz (swapsWith e (Gc (.Name x pos')) pos.line X.env=pure false) wp)(hf:xz (X.fn x=true\/X.env.scope.names.lookup x=Gc .local) wP):DS X (.Assign [.Name x pos'] e pos) (A6 i k):=⟨
 GH (dC hN hi hx h.pe hs hf) λDn σ H z=>by
  obtain⟨M,E,S,fl,E',S',e,r,st,q⟩:=z
  obtain⟨⟨d,S1⟩,e1,e⟩:=Jl e
  cases e
  exact⟨M,E,S,d,S1,e1,r,st,λv H1 M1 g1 st1 r1=>q _ _ M1 g1 ((r.step g1.st).put r1) st1⟩⟩
noncomputable def EA(k:Ev):Ex:=λE S=>(k E S).map λr=>(.nx,E,r.2)
def Xx(h:DE X e k)(hs:xz (swapsWith e none pos.line X.env=pure false) wp):DS X (.Expr e pos) (EA k):=⟨GH (fg h.pe hs) λDn σ H z=>by
 obtain⟨M,E,S,fl,E',S',e,r,st,q⟩:=z
 obtain⟨⟨d,S1⟩,e1,e⟩:=Jl e
 cases e
 exact⟨M,E,S,d,S1,e1,r,st,λv H1 M1 g1 st1 r1=>q _ _ M1 g1 (r.step g1.st) st1⟩⟩
noncomputable def FK(S:Sto)(n:Nat):vi (Wp D):=match S[n]? with
 |some (.lst ds)=>Gc ds
 |_=>none
def Eo(h:FK S n=Gc ds):S[n]?=Gc (.lst ds):=by
 unfold FK at h
 split at h
 .rename_i e
  cases h
  exact e
 .cases h
abbrev Mo:=Sto->Wp D->Wp D->vi (D×Wp D)
noncomputable def Mq(op:Mo)(f:Ev)(fs:Wp Ev):Ev:=λE S=>(f E S).bind λr=>match r.1 with
 | .ref n=>(FK r.2 n).bind λ_=>(evs fs E r.2).bind λp=>(FK p.2 n).bind λds=>(op p.2 ds p.1).map λq=>(q.1,p.2.set n (.lst q.2))
 |_=>none
inductive oB(K:vZ)(op:Mo)(x:V)(vs:Wp V)(H:Hp)(Q:VK):Prop
 |mk (M:Ms) (S:Sto) (n:Nat) (a:vy) (ds args:Wp D) (d:D) (ds':Wp D) (hx:x=.ref a) (hc:M.cel[n]?=Gc a) (hn:S[n]?=Gc (.lst ds)) (e:op S ds args=Gc (d,ds')) (st:StR K M S H) (ra:Ae K M H vs args) (q:∀v H',StR K M (S.set n (.lst ds')) H'->Gr M H M H'->BQ K M H' v d->Q v H')
section
variable{X:Cx}
def kT(h:tD X.K (Mq op f fs) σ H Q):tBM X.K "list" (oB X.K op) (tD X.K f) (tDs X.K fs) σ H Q:=by
 obtain⟨M,E,S,d,S',e,r,st,q⟩:=h
 obtain⟨⟨d1,S1⟩,e1,e⟩:=Ag e
 dsimp only at e
 split at e
 .rename_i n
  obtain⟨ds0,e2,e⟩:=Ag e
  obtain⟨⟨args,S2⟩,e3,e⟩:=Ag e
  obtain⟨ds,e4,e⟩:=Ag e
  obtain⟨⟨dd,ds'⟩,e5,e⟩:=Jl e
  cases e
  refine⟨M,E,S,_,S1,e1,r,st,λv H1 M1 g1 st1 r1=>?_⟩
  cases r1 with
  |ref hc=>
   rename_i a
   obtain⟨xs,h1,h2⟩:=st1.cell n a _ hc (Eo e2)
   refine⟨.inl ⟨rfl,xs,.of h1⟩,?_⟩
   refine HM e3 (r.step g1.st) st1 λvs H2 M2 g2 st2 r2=>?_
   exact⟨M2,S2,n,a,ds,args,dd,ds',rfl,Qe g2.pre hc,Eo e4,e5,st2,r2,λv H3 st3 g3 r3=>q _ _ M2 ((g1.trans g2).trans g3) st3 r3⟩
 .cases e
def ck{id:yo}{name:Str}{apos cpos:Pos}(slot:Slot "list" name id)(hty:typeOf (.builtin id)=pure (.type "method_descriptor"))(hm:MtR X id (oB X.K op))(ho:DE X o f)(ha:DEs X (e::es) fs)(hbase:xz (attributeBase o name X.env (eval o X.env)=eval o X.env) wp)(hfew:xz (((backTo cpos (wD (e::es) X.env)).all (λx=> !x.1) && (backToKw cpos (keywordEach [] X.env)).all (λx=>x.1.isSome) && decide ((e::es).length+([]:Wp AAz).length+(if([]:Wp AAz).isEmpty then 0 else 1)<30))=true) wp)(hline:xz ((apos.endLine==cpos.line)=true) wp)(hs:xz (wD (e::es) X.env=(false,eval e X.env)::wD es X.env) wp)(hplain:xz ((backTo cpos (wD es X.env)).any (·.1)=false) wp):DE X (.Call (.Attribute o name apos) (e::es) [] cpos) (Mq op f fs):=⟨BN (jy PySem.F.plainAttrs_list slot hty hm ho.pe ha.pe hbase hfew hline hs hplain) λσ H Q z=>kT z⟩
noncomputable def Ng:Mo
 |_,ds,[x]=>if ds.length<sizeLine then Gc (.non,ds++[x])else none
 |_,_,_=>none
def UB(h:Ae K M H vs [d]):∃v,vs=[v]/\BQ K M H v d:=by
 cases h with
 |cons h t=>cases t;exact⟨_,rfl,h⟩
def Yh:MtR X "list.append" (oB X.K Ng):=by
 intro pins s σ H x vs v us Q I rx rv h
 obtain⟨M,S,n,a,ds,args,d,ds',rfl,hc,hn,e,st,ra,q⟩:=h
 unfold Ng at e
 split at e
 .split at e
  .rename_i hz
   cases e
   obtain⟨xs,h1,h2⟩:=st.cell n a _ hc hn
   obtain⟨y,rfl,ry⟩:=UB ra
   obtain⟨st2,g2⟩:=st.chg hc hn (h2.append (.cons ry .nil))
   exact Qq pins s σ H _ _ v us Q I rx rv ⟨a,xs,y,rfl,rfl,h1,by rw[h2.length];exact hz,q _ _ st2 g2 .non⟩
  .cases e
 .cases e
end
noncomputable def PJ(k f o:Ev):Ex:=λE S=>(k E S).bind λr=>(f E r.2).bind λb=>(o E b.2).bind λi=>match b.1,i.1 with
 | .ref n,.int j=>(FK i.2 n).bind λds=>(ixN ds.length j).map λm=>(.nx,E,i.2.set n (.lst (ds.set m r.1)))
 |_,_=>none
def nJ {ps pos:Pos}(h:DE X e k)(hb:DE X bs f)(ht:DE X t o)(ha:xz (∀v,assign (.Subscript bs t ps) X.env v=(do
      let ov ← holding [v] (eval bs X.env)
      let iv ← holding [v, ov] (eval t X.env)
      standAt ps
      holding [v, ov, iv] (setItem ov iv v)
      release [v, ov, iv] [])) wn)
    (hs:xz (swapsWithSole [.Subscript bs t ps] e pos.line X.env=pure false) wp)(hw:xz (swappedStores [.Subscript bs t ps] e X.env=pure none) wp)
    (h1:xz ((assignEach [.Subscript bs t ps] X.env).map (·.2)=[assign (.Subscript bs t ps) X.env]) wp) :
    DS X (.Assign [.Subscript bs t ps] e pos) (PJ k f o):=⟨
  GH (X9 h.pe (lG hb.pe ht.pe set_list ha) hs hw h1) fun Dn σ H z => by
    obtain⟨M,E,S,fl,E',S',e,r,st,q⟩:=z
    obtain⟨⟨d,S1⟩,e1,e⟩:=Ag e
    obtain⟨⟨b,S2⟩,e2,e⟩:=Ag e
    obtain⟨⟨i,S3⟩,e3,e⟩:=Ag e
    dsimp only at e e1 e2 e3
    split at e
    · rename_i n j _
      obtain⟨ds,e4,e⟩:=Ag e
      obtain⟨m,e5,e⟩:=Jl e
      cases e
      refine ⟨M, E, S, d, S1, e1, r, st, fun v H1 M1 g1 st1 r1 => ?_⟩
      refine ⟨M1, E, S1, _, S2, e2, r.step g1.st, st1, fun bv H2 M2 g2 st2 r2 => ?_⟩
      refine ⟨M2, E, S2, _, S3, e3, (r.step g1.st).step g2.st, st2, fun iv H3 M3 g3 st3 r3 => ?_⟩
      cases r3
      cases r2 with
      | ref hc =>
        rename_i a
        have hc3:=Qe g3.pre hc
        obtain⟨xs,h1,h2⟩:=st3.cell n a _ hc3 (Eo e4)
        obtain⟨st4,g4⟩:=st3.chg hc3 (Eo e4) (h2.set ((r1.step g2.st).step g3.st) m)
        have g:=((g1.trans g2).trans g3).trans g4
        exact ⟨a, xs, j, m, rfl, rfl, h1, by rw [h2.length]; exact e5, q _ _ M3 g (r.step g.st) st4⟩
    · cases e⟩
abbrev Fn:=Wp D->Sto->vi (D×Sto)
noncomputable def flD:Fl->D
 | .nx=>.non
 | .ret d=>d
noncomputable def AV(N:Nat)(body:Ex):Fn:=λds S=>(body (ds.map Gc++wB (N-ds.length) none) S).map λr=>(flD r.1,r.2.2)
def AR{α:Type}(a:α):α:=Classical.choose (⟨a,rfl⟩:∃x,x=a)
def QX(a:α):AR a=a:=Classical.choose_spec (⟨a,rfl⟩:∃x,x=a)
inductive spD(K:vZ)(np:Nat)(f:Fn)(vs:Wp V)(H:Hp)(Q:VK)(E:XK):Prop
 |mk (M:Ms) (ds:Wp D) (S:Sto) (d:D) (S':Sto) (l:ds.length=np) (e:f ds S=Gc (d,S')) (r:Ae K M H vs ds) (st:StR K M S H) (q:∀v H' M',Gr M H M' H'->StR K M' S' H'->BQ K M' H' v d->Q v H')
def R0{α:Type}{xs:Wp α}{i:Nat}{x:α}(h:(xs.map Gc)[i]?=Gc (Gc x)):xs[i]?=Gc x:=by
 rw[wJ]at h
 cases e:xs[i]? with
 |none=>rw[e]at h;cases h
 |some y=>rw[e]at h;cases h;rfl
def ZF{α:Type}{xs:Wp (vi α)}{k i:Nat}{x:α}(h:(xs++wB k none)[i]?=Gc (Gc x)):xs[i]?=Gc (Gc x):=by
 by_cases hi:i<xs.length
 .rw[vg hi]at h;exact h
 .rw[xB (by lia),AB6]at h
  split at h<;>cases h
def gJ{α:Type}{xs:Wp (vi α)}{k i:Nat}{x:vi α}(h:xs[i]?=Gc x):(xs++wB k none)[i]?=Gc x:=by
 rw[vg (vt.mp h).1];exact h
def EnR.args(r:Ae K M H vs ds) k:EnR K M (ds.map Gc++wB k none) (vs.map Gc++wB k none) H:=by
 refine⟨by simp[r.length],λi d e=>?_⟩
 obtain⟨v,h1,h2⟩:=r.get (R0 (ZF e))
 exact⟨v,gJ (by rw[wJ,h1];rfl),h2⟩
def k8(Fu:Fun K x x st f fd)(S:Ak N ps (AE st))(hp:ps.length=np)(hb:∀cdv A outer s H E,K0 k (A.deeper (xR x (AE st) s.heap.objs.size f cdv))->DSs (TK CX0 P w K mg base N x (AE st) f cdv A outer s H E).nox (Dz st) b):OO P w K mg base CX0 (k+1) f fd ps (spD K np (AR (AV N.length b))):=by
 rw[QX]
 refine Fu.ok S (λvs H Q E h=>?_) (λcdv A outer s H vs Q E hr h=>?_)
 .obtain⟨M,ds,S0,d,S',hl,_,r,_⟩:=h
  have:=r.length
  lia
 .obtain⟨M,ds,S0,d,S',hl,e,r,st,q⟩:=h
  have hlen:=r.length
  refine⟨_,(hb cdv A outer s H E hr).pe,?_⟩
  obtain⟨⟨fl,E',S1⟩,e1,e⟩:=Jl e
  cases e
  refine⟨M,_,S0,fl,E',S1,e1,?_,st,?_⟩
  .rw[show L2.start N vs=vs.map Gc++wB (N.length-ds.length) none from by unfold L2.start;rw[hlen]]
   exact .args r _
  .cases fl with
   |nx=>exact λσ' H' M' g _ st'=>q _ _ M' g st' .non
   |ret d=>exact λv H' M' g st' r'=>q _ _ M' g st' r'
def lq(S:St.Src K mg x st)(sc:Ak N ps (AE st))(hp:ps.length=np)(hbi:∀f fd,Fun K x x st f fd->Binds K fd ps [])(hb:∀f cdv A outer s H E,K0 k (A.deeper (xR x (AE st) s.heap.objs.size f cdv))->DSs (TK CX0 P w K mg base N x (AE st) f cdv A outer s H E).nox (Dz st) b):St.Dfn P w K mg base x (k+1) ps (spD K np (AR (AV N.length b))):=by
 obtain⟨f,fd,Fu,hm⟩:=S.ex
 exact⟨f,fd,hm,Fu.kp,hbi f fd Fu,k8 Fu sc hp λcdv A outer s H E hr=>hb f cdv A outer s H E hr⟩
noncomputable def AB(f:Fn)(fs:Wp Ev):Ev:=λE S=>(evs fs E S).bind λr=>f r.1 r.2
def Xg(hn:fs.length=np)(h:tD K (AB f fs) σ H Q):gz (spD K np f) [] E0 (tDs K fs) σ H Q:=by
 obtain⟨M,E,S,d,S',e,r,st,q⟩:=h
 obtain⟨⟨ds,S1⟩,e1,e⟩:=Ag e
 refine HM e1 r st λvs H1 M1 g1 st1 r1=>?_
 rw[yJ]
 exact⟨M1,ds,S1,d,S',by rw[N9 e1];exact hn,e,r1,st1,λv H2 M2 g2 st2 r2=>q _ _ M2 (g1.trans g2) st2 r2⟩
def iM{X:Cx}{k np:Nat}{x:Str}{ps:Wp Str}{p pos:Pos}(d:St.Dfn X.prog X.w X.K X.mg X.base x k ps (spD X.K np f))(hr:K0 k X.A)(hg:Gl X x)(ha:DEs X (e::es) fs)(hn:xz (fs.length=np) wp)(hdb:xz ((x==("__debug__":Str))=false) ww)(he:xz (wD (e::es) X.env=(false,eval e X.env)::wD es X.env) wp)(hpl:xz ((backTo pos (wD es X.env)).any (·.1)=false) wp):DE X (.Call (.Name x p) (e::es) [] pos) (AB f fs):=⟨BN (St.q8 d hr hg ha.pe hdb he hpl) λσ H Q z=>Xg hn z⟩
abbrev Tf:=D->En->Sto->vi En
inductive tG(K:vZ)(t:Tf)(v:V)(σ:Sg)(H:Hp)(Q:St->Hp->Prop):Prop
 |mk (M:Ms) (d:D) (E E':En) (S:Sto) (e:t d E S=Gc E') (r:EnR K M E σ H) (st:StR K M S H) (rd:BQ K M H v d) (q:∀σ',EnR K M E' σ' H->Q σ' H)
structure DG(X:Cx)(tg:xM)(t:Tf):Prop where
 pe:PG X tg (tG X.K t)
noncomputable def tNm(i:Nat):Tf:=λd E _=>Gc (E.set i (Gc d))
def YQ(h:PG X e t)(m:∀v σ H Q,t' v σ H Q->t v σ H Q):PG X e t':=λpins s σ H v u Q I r q=>h pins s σ H v u Q I r (m _ _ _ _ q)
def CZ{X:Cx}{pos:Pos} i(hN:X.N.Nodup)(hi:xz (X.N[i]?=Gc x) wp)(hx:xz (Loc X.env.scope x) wS)(hf:xz (X.fn x=true\/X.env.scope.names.lookup x=Gc .local) wP):DG X (.Name x pos) (tNm i):=⟨YQ (TC hN hi hx hf) λv σ H Q z=>by
 obtain⟨M,d,E,E',S,e,r,st,rd,q⟩:=z
 cases e
 exact q _ (r.put rd)⟩
noncomputable def tMs:Wp Tf->Wp D->En->Sto->vi En
 | [],[],E,_=>Gc E
 |t::ts,d::ds,E,S=>(t d E S).bind λE1=>tMs ts ds E1 S
 |_,_,_,_=>none
noncomputable def tTp(ts:Wp Tf):Tf:=λd E S=>match d with
 | .tup ds=>tMs ts ds E S
 | .lst ds=>tMs ts ds E S
 | .ref n=>(FK S n).bind λds=>tMs ts ds E S
 |_=>none
noncomputable def tGs(K:vZ):Wp Tf->TGs
 | []=>sO
 |t::ts=>kv (tG K t) (tGs K ts)
theorem Tz{K:vZ}{M:Ms}{H:Hp}{S:Sto}(st:StR K M S H):∀{ts} {ds} {vs} {E E'} {σ} {Q:Sg->Hp->Prop},tMs ts ds E S=Gc E'->EnR K M E σ H->Ae K M H vs ds->(∀σ',EnR K M E' σ' H->Q σ' H)->tGs K ts vs σ H Q
 | [],[],_,E,E',σ,Q,e,r,rd,q=>by
   cases e
   cases rd
   exact⟨rfl,q _ r⟩
 |t::ts,d::ds,_,E,E',σ,Q,e,r,rd,q=>by
  obtain⟨E1,e1,e⟩:=Ag e
  cases rd with
  |cons h1 h2=>exact⟨_,_,rfl,M,d,E,E1,S,e1,r,st,h1,λσ1 r1=>Tz st e r1 h2 q⟩
 | [],_::_,_,E,E',σ,Q,e,r,rd,q=>by cases e
 |_::_,[],_,E,E',σ,Q,e,r,rd,q=>by cases e
theorem P5:∀{ts} {ds} {E E'} {S},tMs ts ds E S=Gc E'->ds.length=ts.length
 | [],[],_,_,_,_=>rfl
 |t::ts,d::ds,E,E',S,e=>by
  obtain⟨E1,e1,e⟩:=Ag e
  simp[P5 e]
 | [],_::_,_,_,_,e=>by cases e
 |_::_,[],_,_,_,e=>by cases e
structure DGs(X:Cx)(es:Wp xM)(ts:Wp Tf):Prop where
 pe:PGs X es (tGs X.K ts)
def Lq:DGs X [] []:=⟨fA⟩
def Bo(h:DG X e t)(g:DGs X es ts)(hs:xz ((assignEach (e::es) X.env).map (·.2)=assign e X.env::(assignEach es X.env).map (·.2)) wp):DGs X (e::es) (t::ts):=⟨ZS h.pe g.pe hs⟩
def Vc{X:Cx}{k:Nat}{pos:Pos}(hc:X.calm=true)(h:DGs X es ts)(hn:xz ((assignEach es X.env).length=ts.length) wp)(hst:xz ((assignEach es X.env).findIdx? (·.1)=none) wp):DG X (.Tuple es k pos) (tTp ts):=⟨
 YQ (lC hc h.pe hn hst) λv σ H Q z=>by
  obtain⟨M,d,E,E',S,e,r,st,rd,q⟩:=z
  unfold tTp at e
  split at e
  .cases rd with
   |tup h1 h2=>exact⟨_,_,rfl,.inl h1,by rw[h2.length];exact P5 e,Tz st e r h2 q⟩
  .cases rd with
   |lst h1 n h2=>exact⟨_,_,rfl,.inr h1,by rw[h2.length];exact P5 e,Tz st e r h2 q⟩
  .obtain⟨ds,e1,e⟩:=Ag e
   cases rd with
   |ref hc=>
    obtain⟨xs,h1,h2⟩:=st.cell _ _ _ hc (Eo e1)
    exact⟨_,_,rfl,.inr h1,by rw[h2.length];exact P5 e,Tz st e r h2 q⟩
  .cases e⟩
noncomputable def Ki(t:Tf)(k:Ev):Ex:=λE S=>(k E S).bind λr=>(t r.1 E r.2).map λE'=>(.nx,E',r.2)
def Uy{pos:Pos}(h:DE X e k)(hg:DG X tg t)(hs:xz (swapsWithSole [tg] e pos.line X.env=pure false) wp)(hw:xz (swappedStores [tg] e X.env=pure none) wp)(h1:xz ((assignEach [tg] X.env).map (·.2)=[assign tg X.env]) wp):DS X (.Assign [tg] e pos) (Ki t k):=⟨GH (X9 h.pe hg.pe hs hw h1) λDn σ H z=>by
 obtain⟨M,E,S,fl,E',S',e,r,st,q⟩:=z
 obtain⟨⟨d,S1⟩,e1,e⟩:=Ag e
 obtain⟨E2,e2,e⟩:=Jl e
 cases e
 exact⟨M,E,S,d,S1,e1,r,st,λv H1 M1 g1 st1 r1=>⟨M1,d,E,_,S1,e2,r.step g1.st,st1,r1,λσ' r2=>q _ _ M1 g1 r2 st1⟩⟩⟩
noncomputable def WC(i j:Nat)(f g:Ev):Ex:=λE S=>(evs [f,g] E S).bind λr=>match r.1 with
 | [d,d']=>Gc (.nx,(E.set i (Gc d)).set j (Gc d'),r.2)
 |_=>none
def rS{pt2 pos:Pos}(hc:X.calm=true)(hN:X.N.Nodup)(hi:X.N[i]?=Gc x)(hj:X.N[j]?=Gc y)(hij:i≠j)(hx:X.env.scope.names.lookup x=Gc .local)(hy:X.env.scope.names.lookup y=Gc .local)(ha:DE X a f)(hb:DE X b g)(hw:xz (swappedStores [.Tuple [.Name x px,.Name y py] kt pt] (.Tuple [a,b] k2 pt2) X.env=pure (Gc [x,y])) wp)(hsa:xz (wD [a,b] X.env=(false,eval a X.env)::wD [b] X.env) wp)(hsb:xz (wD [b] X.env=(false,eval b X.env)::wD [] X.env) wp)(hs:xz (swapsWithSole [.Tuple [.Name x px,.Name y py] kt pt] (.Tuple [a,b] k2 pt2) pos.line X.env=pure false) wp):DS X (.Assign [.Tuple [.Name x px,.Name y py] kt pt] (.Tuple [a,b] k2 pt2) pos) (WC i j f g):=⟨by
 refine GH (jF hc hN hi hj hij hx hy (QS ha.pe (QS hb.pe Xs hsb) hsa) hw hs) λDn σ H z=>?_
 obtain⟨M,E,S,fl,E',S',e,r,st,q⟩:=z
 obtain⟨⟨ds,S1⟩,e1,e⟩:=Ag e
 refine HM (K:=X.K) (fs:=[f,g]) e1 r st λvs H1 M1 g1 st1 r1=>?_
 dsimp only at e
 split at e
 .rename_i d d'
  cases e
  cases r1 with
  |cons h1 t=>
   cases t with
   |cons h2 t=>
    cases t
    exact⟨_,_,rfl,q _ _ M1 g1 (((r.step g1.st).put h1).put h2) st1⟩
 .cases e⟩
noncomputable def IX:Ex:=λ_ _=>none
def P7:DS X st IX:=⟨λ_ _ _ _ _ _ z=>by
 obtain⟨M,E,S,fl,E',S',e,_⟩:=z
 cases e⟩
abbrev Gd:=Wp (Nat×Wp D)
def gOk(gs:Gd)(S:Sto):Prop:=∀g∈gs,FK S g.1=Gc g.2
abbrev Sr:=En->Sto->vi ((Wp D×Gd)×Sto)
structure kN(K:vZ)(M:Ms)(H:Hp)(gs:Gd)(ds:Wp D)(J:It):Prop where
 go:∀(i:Nat) (H2:Hp) (M2:Ms) (S2:Sto),Sp1 M H M2 H2->StR K M2 S2 H2->gOk gs S2->i<ds.length->J.go i H2
 stop:∀(i:Nat) (H2:Hp) (M2:Ms) (S2:Sto),Sp1 M H M2 H2->StR K M2 S2 H2->gOk gs S2->ds.length<=i->J.stop i H2
 yld:∀(i:Nat) (H2:Hp) (M2:Ms) (S2:Sto) (x:V) (H3:Hp) (d:D),Sp1 M H M2 H2->StR K M2 S2 H2->gOk gs S2->ds[i]?=Gc d->J.yld i H2 x H3->(∀a o,H2 a=Gc o->H3 a=Gc o)/\BQ K M2 H3 x d
inductive tI(K:vZ)(s:Sr)(σ:Sg)(H:Hp)(R:It->Hp->Prop):Prop
 |mk (M:Ms) (E:En) (S:Sto) (ds:Wp D) (gs:Gd) (S':Sto) (e:s E S=Gc ((ds,gs),S')) (r:EnR K M E σ H) (st:StR K M S H) (q:∀J H' M',Gr M H M' H'->StR K M' S' H'->kN K M' H' gs ds J->R J H')
structure DI(X:Cx)(tg iter:xM)(s:Sr):Prop where
 pe:PI X tg iter (tI X.K s)
def QO(h:PI X tg e t)(m:∀σ H R,t' σ H R->t σ H R):PI X tg e t':=λpins s σ H R I q=>h pins s σ H R I (m _ _ _ q)
noncomputable def uQ(K:vZ)(tl:TE):TI:=λσ H R=>tl σ H λx H1=>∃a,x=.ref a/\(((∃xs,SqL K H1 a xs)/\R (Itl K a) H1)\/((∃xs,SqT K H1 a xs)/\R (Itt K a) H1))
def jL(hl:PE X l tl):PI X tg l (uQ X.K tl):=by
 intro pins s σ H R I h
 refine thn (hl pins s σ H _ I h) λv s1 z=>?_
 obtain⟨x,H1,I1,r1,q1⟩:=z
 obtain⟨a,e,q1⟩:=q1
 subst e
 cases r1
 rcases q1 with⟨⟨xs,hq⟩,q⟩|⟨⟨xs,hq⟩,q⟩
 .obtain⟨its,rv,p,hz⟩:=I1.list hq
  refine xu p.isList ?_
  refine⟨s1.heap.objs.size,[s1.heap.objs.size],_,_,H1,rfl,I1.kept (t':=s1.toks) λb o e=>vc _ e,W9 a _,⟨_,wI _ rfl,rfl,rfl⟩,λb hb=>?_,q⟩
  have e:b=s1.heap.objs.size:=by simpa using hb
  subst e
  exact I1.gM (vf _) (I1.hok.fresh (vf _))
 .obtain⟨its,rv,p,hz⟩:=I1.tuple hq
  refine yb (show s1.heap.IsTuple a its.toArray from p) ?_
  refine⟨s1.heap.objs.size,[s1.heap.objs.size],_,_,H1,rfl,I1.kept (t':=s1.toks) λb o e=>vc _ e,VF a _,⟨_,wI _ rfl,rfl,rfl⟩,λb hb=>?_,q⟩
  have e:b=s1.heap.objs.size:=by simpa using hb
  subst e
  exact I1.gM (vf _) (I1.hok.fresh (vf _))
def Ae.get'(h:Ae K M H vs ds)(hi:i<ds.length):∃x,vs[i]?=Gc x:=by
 have:=h.length
 exact⟨vs[i],vk (by lia)⟩
structure SqF(K:vZ)(M:Ms)(H:Hp)(gs:Gd)(k:xD)(a:vy)(ds:Wp D):Prop where
 keep:∀(H2:Hp) (M2:Ms) (S2:Sto),Sp1 M H M2 H2->StR K M2 S2 H2->gOk gs S2->∃xs,(if k=true then SqT K H2 a xs else SqL K H2 a xs)/\Ae K M2 H2 xs ds
noncomputable def sqD(S:Sto):D->vi (Wp D×Gd)
 | .tup ds=>Gc (ds,[])
 | .lst ds=>Gc (ds,[])
 | .ref n=>(FK S n).map λds=>(ds,[(n,ds)])
 | .scr ns=>Gc (ns.map .int,[])
 |_=>none
def Uc(st:StR K M S H)(h:BQ K M H v d)(e:sqD S d=Gc (ds,gs)):∃k a,v=.ref a/\SqF K M H gs k a ds:=by
 cases h with
 |tup h r=>cases e;exact⟨true,_,rfl,⟨λH2 M2 S2 g _ _=>⟨_,g.sqT h,r.step g⟩⟩⟩
 |lst h n r=>cases e;exact⟨false,_,rfl,⟨λH2 M2 S2 g _ _=>⟨_,SqL.of (g.keep _ _ h n),r.step g⟩⟩⟩
 |scr h=>
  cases e
  refine⟨false,_,rfl,⟨λH2 M2 S2 g _ _=>⟨_,?_,M9⟩⟩⟩
  rcases h with⟨h,n⟩|h
  .rcases h with h|⟨o,h⟩
   .exact .inl (.inl (g.keep _ _ h n))
   .exact .inl (.inr ⟨o,g.keep _ _ h n⟩)
  .exact .inr h
 |ref h=>
  obtain⟨es,e1,e⟩:=Jl e
  cases e
  refine⟨false,_,rfl,⟨λH2 M2 S2 g st2 ok=>?_⟩⟩
  obtain⟨xs,h1,h2⟩:=st2.cell _ _ _ (Qe g.pre h) (Eo (ok _ (wN.mpr rfl)))
  exact⟨xs,SqL.of h1,h2⟩
 |non=>cases e
 |bl b=>cases e
 |int b=>cases e
 |str b=>cases e
 |ty b=>cases e
 |dct h n r=>cases e
def pZ(h:SqF K M H gs k a ds):kN K M H gs ds (if k=true then Itt K a else Itl K a):=by
 cases k with
 |true=>
  exact{
   go:=λi H2 M2 S2 g st ok hi=>let⟨xs,h1,h2⟩:=h.keep H2 M2 S2 g st ok;let⟨x,hx⟩:=h2.get' hi;⟨xs,x,h1,hx⟩
   stop:=λi H2 M2 S2 g st ok hi=>let⟨xs,h1,h2⟩:=h.keep H2 M2 S2 g st ok;⟨xs,h1,by have:=h2.length;lia⟩
   yld:=λi H2 M2 S2 x H3 d g st ok hd hy=>by
    obtain⟨xs,h1,h2⟩:=h.keep H2 M2 S2 g st ok
    obtain⟨rfl,hy⟩:=hy
    refine⟨λ_ _ e=>e,?_⟩
    have hx:=hy xs h1
    obtain⟨x',h3,h4⟩:=h2.get hd
    rw[hx]at h3;cases h3
    exact h4}
 |false=>
  exact{
   go:=λi H2 M2 S2 g st ok hi=>let⟨xs,h1,h2⟩:=h.keep H2 M2 S2 g st ok;let⟨x,hx⟩:=h2.get' hi;⟨xs,x,h1,hx⟩
   stop:=λi H2 M2 S2 g st ok hi=>let⟨xs,h1,h2⟩:=h.keep H2 M2 S2 g st ok;⟨xs,h1,by have:=h2.length;lia⟩
   yld:=λi H2 M2 S2 x H3 d g st ok hd hy=>by
    obtain⟨xs,h1,h2⟩:=h.keep H2 M2 S2 g st ok
    obtain⟨rfl,hy⟩:=hy
    refine⟨λ_ _ e=>e,?_⟩
    have hx:=hy xs h1
    obtain⟨x',h3,h4⟩:=h2.get hd
    rw[hx]at h3;cases h3
    exact h4}
noncomputable def C7(f:Ev):Sr:=λE S=>(f E S).bind λr=>(sqD r.2 r.1).map λp=>(p,r.2)
def Pr(e:sqD S d=Gc (ds,gs)):gOk gs S:=by
 cases d<;>first|(cases e;done)|skip
 all_goals first
  |(cases e;intro g hg;cases hg;done)
  |(obtain⟨es,e1,e⟩:=Jl e
    cases e
    intro g hg
    rw[wN.mp hg]
    exact e1)
def Ed(h:DE X e f):DI X tg e (C7 f):=⟨QO (jL h.pe) λσ H R z=>by
 obtain⟨M,E,S,ds,gs,S',e,r,st,q⟩:=z
 obtain⟨⟨d,S1⟩,e1,e⟩:=Ag e
 obtain⟨⟨ds',gs'⟩,e2,e⟩:=Jl e
 cases e
 refine⟨M,E,S,d,S1,e1,r,st,λv H1 M1 g1 st1 r1=>?_⟩
 obtain⟨k,a,rfl,sq⟩:=Uc st1 r1 e2
 obtain⟨xs,hs,_⟩:=sq.keep H1 M1 S1 (Gr.refl st1.mo).st st1 (Pr e2)
 have it:=pZ sq
 refine⟨a,rfl,?_⟩
 cases k with
 |true=>exact .inr ⟨⟨xs,hs⟩,q _ _ M1 g1 st1 it⟩
 |false=>exact .inl ⟨⟨xs,hs⟩,q _ _ M1 g1 st1 it⟩⟩
noncomputable def OX(lo:Int)(n:Nat):Wp D:=(xI n).map λ(i:Nat)=>.int (lo+(i:Int))
theorem jg:kN K M H [] (OX lo n) (Itr lo n) where
 go:=λi H2 M2 S2 g st ok hi=>by
  have:i<n:=by unfold OX at hi;simpa using hi
  exact this
 stop:=λi H2 M2 S2 g st ok hi=>by
  have:n<=i:=by unfold OX at hi;simpa using hi
  exact this
 yld:=λi H2 M2 S2 x H3 d g st ok hd hy=>by
  obtain⟨rfl,rfl⟩:=hy
  refine⟨λ_ _ e=>e,?_⟩
  unfold OX at hd
  rw[wJ]at hd
  cases e:(xI n)[i]? with
  |none=>rw[e]at hd;cases hd
  |some j=>
   rw[e]at hd
   cases hd
   have:j=i:=by
    obtain⟨h1,h2⟩:=vt.mp e
    simpa using h2.symm
   subst this
   exact .int _
noncomputable def Ts(fs:Wp Ev):Sr:=λE S=>(evs fs E S).bind λr=>match r.1 with
 | [.int j]=>if(decide (-(2^62)<=j) && decide (j<2^62))=true then Gc ((OX 0 j.toNat,[]),r.2)else none
 | [.int i,.int j]=>if(decide (-(2^62)<=i) && decide (i<2^62) && decide (-(2^62)<=j) && decide (j<2^62))=true then Gc ((OX i (j-i).toNat,[]),r.2)else none
 |_=>none
def UI(h:Ae K M H vs [.int j]):vs=[.int j]:=by
 cases h with
 |cons h t=>cases t;cases h;rfl
def Xq(h:Ae K M H vs [.int i,.int j]):vs=[.int i,.int j]:=by
 cases h with
 |cons h t=>cases h;cases UI t;rfl
def YI(hg:Gl X "range")(hm:X.mg "range"=none)(ha:DEs X [a] [o])(hs:xz (wD [a] X.env=[(false,eval a X.env)]) wp):DI X tg (.Call (.Name "range" p) [a] [] pos) (Ts [o]):=⟨
 QO (Xb hg hm ha.pe hs) λσ H R z=>by
  obtain⟨M,E,S,ds,gs,S',e,r,st,q⟩:=z
  obtain⟨⟨ws,S1⟩,e1,e⟩:=Ag e
  have hl:=N9 e1
  refine HM e1 r st λvs H1 M1 g1 st1 r1=>?_
  dsimp only at e
  split at e
  .split at e
   .rename_i j hk
    rw[vn]at hk
    cases e
    exact⟨j,UI r1,v3 hk.1,v3 hk.2,q _ _ M1 g1 st1 jg⟩
   .cases e
  .simp at hl
  .cases e⟩
open Classical in
def Mu(gs:Gd)(t:Tf)(body:Ex):Wp D->En->Sto->vi (Fl×En×Sto)
 | [],E,S=>if gOk gs S then Gc (.nx,E,S)else none
 |d::ds,E,S=>if gOk gs S then(t d E S).bind λE1=>(body E1 S).bind λr=>match r.1 with
  | .nx=>Mu gs t body ds r.2.1 r.2.2
  | .ret w=>Gc (.ret w,r.2)
  else none
def Ml(s:Sr)(t:Tf)(body:Ex):Ex:=λE S=>(s E S).bind λr=>Mu r.1.2 t body r.1.1 E r.2
def RP{α:Type}{xs:Wp α}{x:α}{r:Wp α}(h:xs.drop i=x::r):xs[i]?=Gc x/\xs.drop (i+1)=r/\i<xs.length:=by
 have hi:i<xs.length:=by
  by_cases hi:i<xs.length
  .exact hi
  .rw[yO (by lia)]at h;cases h
 rw[xi hi]at h
 cases h
 exact⟨vk hi,rfl,hi⟩
def U8(hp:PassesOwn (model X.prog X.w) X.A X.env X.xe)(hc:X.calm=true)(hi:DI X tg iter s)(hg:DG X tg t)(hb:DSs X body b)(hs:xz (∀x,foldedSetIterable iter X.env x=pure x) wv):DS X (.For tg iter body [] pos) (Ml s t b):=⟨GH (jB hp hc hi.pe hg.pe hb.pe hs) λDn σ H z=>by
 obtain⟨M,E,S,fl,E',S',e,r,st,q⟩:=z
 obtain⟨⟨⟨ds,gs⟩,S1⟩,e1,e⟩:=Ag e
 dsimp only at e
 refine⟨M,E,S,ds,gs,S1,e1,r,st,λJ H1 M1 g1 st1 it=>?_⟩
 refine⟨λi m σ' H'=>m=ds.length-i/\∃E2 S2 M2,Mu gs t b (ds.drop i) E2 S2=Gc (fl,E',S')/\Gr M1 H1 M2 H'/\EnR X.K M2 E2 σ' H'/\StR X.K M2 S2 H',⟨_,rfl,E,S1,M1,e,.refl st1.mo,r.step g1.st,st1⟩,λi m σ2 H2 hW=>?_⟩
 obtain⟨rfl,E2,S2,M2,e2,g2,r2,st2⟩:=hW
 cases ed:ds.drop i with
 |nil=>
  rw[ed]at e2
  unfold Mu at e2
  split at e2
  .rename_i ok
   cases e2
   left
   exact⟨it.stop i H2 M2 _ g2.st st2 ok (ACx.mp ed),q _ _ M2 (g1.trans g2) r2 st2⟩
  .cases e2
 |cons d rest=>
  obtain⟨d1,d2,d3⟩:=RP ed
  rw[ed]at e2
  unfold Mu at e2
  split at e2
  .rename_i ok
   obtain⟨E3,e3,e2⟩:=Ag e2
   obtain⟨⟨f4,E4,S4⟩,e4,e2⟩:=Ag e2
   dsimp only at e2
   right
   refine⟨it.go i H2 M2 S2 g2.st st2 ok d3,λσ' H'=>∃m',m'<ds.length-i/\(m'=ds.length-(i+1)/\∃E2 S2 M2,Mu gs t b (ds.drop (i+1)) E2 S2=Gc (fl,E',S')/\Gr M1 H1 M2 H'/\EnR X.K M2 E2 σ' H'/\StR X.K M2 S2 H'),λσ' H' z=>z,λx H3 hy=>?_⟩
   obtain⟨k3,rx⟩:=it.yld i H2 M2 S2 x H3 d g2.st st2 ok d1 hy
   have g3:Gr M2 H2 M2 H3:=.grow st2.mo k3
   refine⟨M2,d,E2,E3,S2,e3,r2.step g3.st,st2.grow k3,rx,λσ4 r4=>?_⟩
   refine⟨M2,E3,S2,f4,E4,S4,e4,r4,st2.grow k3,?_⟩
   split at e2
   .exact λσ6 H6 M6 g6 r6 st6=>⟨_,ACy _ _ d3,rfl,E4,S4,M6,by rw[d2];exact e2,(g2.trans g3).trans g6,r6,st6⟩
   .cases e2
    exact λv H6 M6 g6 st6 r6=>q _ _ M6 (((g1.trans g2).trans g3).trans g6) st6 r6
  .cases e2⟩
noncomputable def GC(c:Ev)(b:Ex):Nat->En->Sto->vi (Fl×En×Sto)
 |0,_,_=>none
 |k+1,E,S=>(c E S).bind λr=>match r.1 with
  | .bl true=>(b E r.2).bind λp=>match p.1 with
    | .nx=>GC c b k p.2.1 p.2.2
    | .ret w=>Gc (.ret w,p.2)
  | .bl false=>Gc (.nx,E,r.2)
  |_=>none
noncomputable def LO(fuel:En->Nat)(c:Ev)(b:Ex):Ex:=λE S=>GC c b (fuel E) E S
def bZ fuel(hp:PassesOwn (model X.prog X.w) X.A X.env X.xe)(hc:DT X c k)(hb:DSs X body b):DS X (.While c body [] pos) (LO fuel k b):=⟨
 GH (ba hp hc.pe hb.pe) λDn σ H z=>by
  obtain⟨M,E,S,fl,E',S',e,r,st,q⟩:=z
  refine⟨λm σ' H'=>∃E2 S2 M2,GC k b m E2 S2=Gc (fl,E',S')/\Gr M H M2 H'/\EnR X.K M2 E2 σ' H'/\StR X.K M2 S2 H',⟨fuel E,E,S,M,e,.refl st.mo,r,st⟩,λm σ2 H2 hW=>?_⟩
  obtain⟨E2,S2,M2,e2,g2,r2,st2⟩:=hW
  cases m with
  |zero=>cases e2
  |succ m=>
   obtain⟨⟨w3,S3⟩,e3,e2⟩:=Ag e2
   dsimp only at e2
   split at e2
   .obtain⟨⟨f4,E4,S4⟩,e4,e2⟩:=Ag e2
    refine⟨M2,E2,S2,true,S3,e3,r2,st2,λH3 M3 g3 st3=>?_⟩
    refine dP ⟨λσ' H'=>∃m',m'<m+1/\∃E2 S2 M2,GC k b m' E2 S2=Gc (fl,E',S')/\Gr M H M2 H'/\EnR X.K M2 E2 σ' H'/\StR X.K M2 S2 H',λσ' H' z=>z,?_⟩
    refine⟨M3,E2,S3,f4,E4,S4,e4,r2.step g3.st,st3,?_⟩
    dsimp only at e2
    split at e2
    .exact λσ5 H5 M5 g5 r5 st5=>⟨m,by lia,E4,S4,M5,e2,(g2.trans g3).trans g5,r5,st5⟩
    .cases e2
     exact λv H5 M5 g5 st5 r5=>q _ _ M5 ((g2.trans g3).trans g5) st5 r5
   .cases e2
    refine⟨M2,_,S2,false,_,e3,r2,st2,λH3 M3 g3 st3=>?_⟩
    refine bq ?_
    exact q _ _ M3 (g2.trans g3) (r2.step g3.st) st3
   .cases e2⟩
noncomputable def Od(i:Nat):En->Nat:=λE=>match at? E i with
 |some (.int j)=>j.natAbs+2
 |_=>0
section
variable{M M' M2:Ms}{H H' H2:Hp}{S:Sto}
structure GrX(M:Ms)(H:Hp)(M':Ms)(H':Hp):Prop where
 pre:M.cel <+: M'.cel
 fresh:∀a,a∈M'.cel->a∈M.cel\/H a=none
 keep:∀a o,H a=Gc o->a∉M.cel->H' a=Gc o
 some:∀a,H a≠none->H' a≠none
def GrX.none(g:GrX M H M' H')(h:H' a=none):H a=none:=by
 cases e:H a with
 |none=>rfl
 |some o=>exact absurd h (g.some a (by rw[e];intro z;cases z))
def Gr.x(g:Gr M H M' H'):GrX M H M' H':=⟨g.pre,g.fresh,g.keep,g.some⟩
def GrX.trans(h:GrX M H M' H')(g:GrX M' H' M2 H2):GrX M H M2 H2:=
 ⟨h.pre.trans g.pre,λa z=>(g.fresh a z).elim (h.fresh a) λz=>.inr (h.none z),λa o e n=>g.keep a o (h.keep a o e n) (λz=>by
   rcases h.fresh a z with z|z
   .exact n z
   .rw[e]at z;cases z),λa e=>g.some a (h.some a e)⟩
def StR.jD(r:StR K M S H)(e:H a=none):StR K ⟨M.cel,a::M.tmp⟩ S (upd H a (.lst []))/\GrX M H ⟨M.cel,a::M.tmp⟩ (upd H a (.lst []))/\Sp1 M H ⟨M.cel,a::M.tmp⟩ (upd H a (.lst [])):=by
 have k:∀b o,H b=Gc o->upd H a (.lst []) b=Gc o:=ID e
 have na:¬M.mem a:=λz=>r.mo.some z e
 have s1:Sp1 M H ⟨M.cel,a::M.tmp⟩ (upd H a (.lst [])):=⟨r.mo,yS,λb z=>by
  rcases z with z|z
  .exact .inl (.inl z)
  .rcases ve.mp z with z|z
   .subst z;exact .inr e
   .exact .inl (.inr z),λb o eb _=>k b o eb⟩
 refine⟨⟨λb z=>?_,r.nd,λb hb z=>?_,r.len,λn b c h1 h2=>?_⟩,⟨yS,λb z=>.inl z,λb o eb _=>k b o eb,λb eb z=>?_⟩,s1⟩
 .by_cases h:b=a
  .subst h;exact⟨_,B7,trivial⟩
  .rw[Ay h]
   refine r.mo b ?_
   rcases z with z|z
   .exact .inl z
   .rcases ve.mp z with z|z
    .exact absurd z h
    .exact .inr z
 .rcases ve.mp hb with hb|hb
  .subst hb;exact na (.inl z)
  .exact r.nt b hb z
 .exact(r.cell n b c h1 h2).step s1 λo e=>k _ _ e
 .cases h:H b with
  |none=>exact eb h
  |some o=>rw[k b o h]at z;cases z
def StR.fY(r:StR K M S H)(ha:a∈M.tmp):StR K M S (upd H a (.lst ys))/\Sp1 M H M (upd H a (.lst ys)):=by
 have s1:Sp1 M H M (upd H a (.lst ys)):=⟨r.mo,yS,λb z=>.inl z,λb o eb nb=>by rw[Ay (λz=>nb (by rw[z];exact .inr ha))];exact eb⟩
 refine⟨⟨λb z=>?_,r.nd,r.nt,r.len,λn b c h1 h2=>?_⟩,s1⟩
 .by_cases h:b=a
  .subst h;exact⟨_,B7,trivial⟩
  .rw[Ay h];exact r.mo b z
 .have hb:b≠a:=λz=>r.nt a ha (by rw[<-z];exact wH h1)
  exact(r.cell n b c h1 h2).step s1 λo e=>by rw[Ay hb];exact e
def StR.fX(r:StR K ⟨c,a::t⟩ S H)(nt:a∉t)(e:H a=Gc (.lst xs))(rr:Ae K ⟨c,a::t⟩ H xs ds)(ef:fin cf (.own ds) S=Gc (d,S')):∃c',StR K ⟨c',t⟩ S' H/\BQ K ⟨c',t⟩ H (.ref a) d/\c <+: c'/\(∀b∈c',b∈c\/b=a):=by
 have nc:a∉c:=r.nt a vp
 cases cf with
 |false=>
  cases ef
  have s1:Sp1 ⟨c,a::t⟩ H ⟨c,t⟩ H:=⟨r.mo,yS,λb z=>.inl (z.imp id (vh _)),λ_ _ e _=>e⟩
  refine⟨c,⟨λb z=>r.mo b (z.imp id (vh _)),r.nd,λb hb=>r.nt b (vh _ hb),r.len,λn b cl h1 h2=>?_⟩,.lst e (λz=>z.elim nc nt) (rr.step s1),yS,λb z=>.inl z⟩
  exact(r.cell n b cl h1 h2).step s1 λo e=>e
 |true=>
  cases ef
  have s1:Sp1 ⟨c,a::t⟩ H ⟨c++[a],t⟩ H:=⟨r.mo,ABc _ _,λb z=>by
   rcases z with z|z
   .rcases wF.mp z with z|z
    .exact .inl (.inl z)
    .exact .inl (.inr (by rw[wN.mp z];exact vp))
   .exact .inl (.inr (vh _ z)),λ_ _ e _=>e⟩
  have hl:c.length=S.length:=r.len
  refine⟨c++[a],⟨λb z=>?_,?_,λb hb z=>?_,by simp[hl],λn b cl h1 h2=>?_⟩,.ref ?_,ABc _ _,λb z=>?_⟩
  .refine r.mo b ?_
   rcases z with z|z
   .rcases wF.mp z with z|z
    .exact .inl z
    .exact .inr (by rw[wN.mp z];exact vp)
   .exact .inr (vh _ z)
  .rw[ABt]
   refine⟨r.nd,by simp,λx hx y hy z=>?_⟩
   simp at hy;subst hy
   exact nc (by rw[<-z];exact hx)
  .rcases wF.mp z with z|z
   .exact r.nt b (vh _ hb) z
   .rw[wN.mp z]at hb;exact nt hb
  .by_cases h:n<S.length
   .rw[vg (by rw[hl];exact h)]at h1
    rw[vg h]at h2
    exact(r.cell n b cl h1 h2).step s1 λo e=>e
   .have hm:n=S.length:=by
     have:=(vt.mp h2).1
     simp at this;lia
    subst hm
    rw[xB (by rw[hl];exact vf _)]at h1
    rw[xB (vf _)]at h2
    rw[hl]at h1
    simp at h1 h2
    subst h1 h2
    exact⟨xs,e,rr.step s1⟩
  .rw[<-hl];exact wK
  .rcases wF.mp z with z|z
   .exact .inl z
   .exact .inr (wN.mp z)
end
open Classical in
def Bk(gs:Gd)(t:Tf)(c:Ev)(f:Ev):Wp D->Wp D->En->Sto->vi (Wp D×Sto)
 | [],acc,_,S=>if gOk gs S then Gc (acc,S)else none
 |d::ds,acc,E,S=>if gOk gs S then(if acc.length<sizeLine then(t d E S).bind λE1=>(c E1 S).bind λr=>match r.1 with
   | .bl true=>(f E1 r.2).bind λp=>Bk gs t c f ds (acc++[p.1]) E1 p.2
   | .bl false=>Bk gs t c f ds acc E1 r.2
   |_=>none
  else none)else none
noncomputable def Ai:Ev:=λ_ S=>Gc (.bl true,S)
noncomputable def Vn(cap:Wp Nat)(m:Nat)(E:En):En:=cap.map (at? E)++wB m none
def O5(cf:xD)(cap:Wp Nat)(m:Nat)(s:Sr)(t:Tf)(c:Ev)(f:Ev):Ev:=λE S=>(s E S).bind λr=>(Bk r.1.2 t c f r.1.1 [] (Vn cap m E) r.2).bind λq=>fin cf (.own q.1) q.2
noncomputable abbrev As:=O5 false
noncomputable abbrev c9:=O5 true
noncomputable def ixC(cap:Wp Nat)(m:Nat):Wp (vi Nat):=cap.map Gc++wB m none
def EnR.cap(r:EnR K M E σ H) cap m:EnR K M (Vn cap m E) (sig (ixC cap m) σ) H:=by
 unfold Vn sig ixC
 refine⟨by simp,λi d e=>?_⟩
 have h1:=ZF e
 rw[wJ]at h1
 cases e1:cap[i]? with
 |none=>rw[e1]at h1;cases h1
 |some j=>
  rw[e1]at h1
  have h2:at? E j=Gc d:=by simpa using h1
  obtain⟨v,hv,rd⟩:=r.val j d (at?_some h2)
  refine⟨v,?_,rd⟩
  have hi:i<cap.length:=(vt.mp e1).1
  rw[yT,vg (by simpa using hi),wJ,wJ,e1]
  show Gc ((σ[j]?).join)=Gc (Gc v)
  rw[hv]
  rfl
def WK(h:tD K (O5 cf cap m s t c f) σ H Q):gq (ixC cap m) (tI K s) (tG K t) (tDT K c) (tD K f) σ H Q:=by
 obtain⟨M,E,S,d,S',e,r,st,q⟩:=h
 obtain⟨⟨⟨ds,gs⟩,S1⟩,e1,e⟩:=Ag e
 obtain⟨⟨accf,Sf⟩,e3,e⟩:=Ag e
 dsimp only at e e3
 refine⟨M,E,S,ds,gs,S1,e1,r,st,λJ H1 M1 g1 st1 it A0 hD=>?_⟩
 obtain⟨st0,gx0,s0⟩:=st1.jD hD
 have nt:A0∉M1.tmp:=λz=>st1.mo.some (.inr z) hD
 refine⟨λi mm σ' H' ys=>mm=ds.length-i/\∃Ei Si Mi acc,Bk gs t c f (ds.drop i) acc Ei Si=Gc (accf,Sf)/\GrX M1 H1 Mi H'/\Mi.tmp=A0::M1.tmp/\EnR K Mi Ei σ' H'/\StR K Mi Si H'/\H' A0=Gc (.lst ys)/\Ae K Mi H' ys acc,
  ⟨_,rfl,_,S1,_,[],e3,gx0,rfl,((r.step g1.st).step s0).cap cap m,st0,B7,.nil⟩,λi mm σ2 H2 ys hW=>?_⟩
 obtain⟨rfl,Ei,Si,Mi,acc,ec,gx,ht,r2,st2,hy,ry⟩:=hW
 have sp:Sp1 M1 H1 Mi H2:=⟨st1.mo,gx.pre,λa z=>by
  rcases z with z|z
  .exact(gx.fresh a z).imp .inl id
  .rw[ht]at z
   rcases ve.mp z with z|z
   .subst z;exact .inr hD
   .exact .inl (.inr z),λa o eo no=>gx.keep a o eo λz=>no (.inl z)⟩
 refine⟨hy,?_⟩
 cases ed:ds.drop i with
 |nil=>
  rw[ed]at ec
  unfold Bk at ec
  split at ec
  .rename_i ok
   cases ec
   left
   obtain⟨ci,ti⟩:=Mi
   have ht':ti=A0::M1.tmp:=ht
   subst ht'
   obtain⟨c',st',rd',pr',sub'⟩:=st2.fX nt hy ry e
   refine⟨it.stop i H2 _ _ sp st2 ok (ACx.mp ed),q _ _ ⟨c',M1.tmp⟩ (g1.trans ⟨st1.mo,gx.pre.trans pr',rfl,λa z=>?_,gx.keep,gx.some⟩) st' rd'⟩
   rcases sub' a z with z|z
   .exact gx.fresh a z
   .subst z;exact .inr hD
  .cases ec
 |cons d rest=>
  obtain⟨d1,d2,d3⟩:=RP ed
  rw[ed]at ec
  unfold Bk at ec
  split at ec
  .rename_i ok
   split at ec
   .rename_i hz
    obtain⟨E3,e4,ec⟩:=Ag ec
    obtain⟨⟨w5,S5⟩,e5,ec⟩:=Ag ec
    right
    refine⟨it.go i H2 Mi Si sp st2 ok d3,by rw[ry.length];exact hz,λx H3 hyl=>?_⟩
    obtain⟨k3,rx⟩:=it.yld i H2 Mi Si x H3 d sp st2 ok d1 hyl
    have g3:Gr Mi H2 Mi H3:=.grow st2.mo k3
    have st3:=st2.grow k3
    refine⟨Mi,d,Ei,E3,Si,e4,r2.step g3.st,st3,rx,λσ4 r4=>?_⟩
    have hA:A0∈Mi.tmp:=by rw[ht];exact vp
    have hy3:H3 A0=Gc (.lst ys):=k3 _ _ hy
    have ry3:Ae K Mi H3 ys acc:=ry.step g3.st
    have fin:∀{E6:En} {S6:Sto} {M6:Ms} {H6:Hp} {zs:Wp V} {acc6:Wp D},Bk gs t c f rest acc6 E6 S6=Gc (accf,Sf)->GrX M1 H1 M6 H6->M6.tmp=A0::M1.tmp->EnR K M6 E6 σ4 H6->StR K M6 S6 H6->H6 A0=Gc (.lst zs)->Ae K M6 H6 zs acc6->
      ∃m',m'<ds.length-i/\(m'=ds.length-(i+1)/\∃Ei Si Mi acc,Bk gs t c f (ds.drop (i+1)) acc Ei Si=Gc (accf,Sf)/\GrX M1 H1 Mi H6/\Mi.tmp=A0::M1.tmp/\EnR K Mi Ei σ4 H6/\StR K Mi Si H6/\H6 A0=Gc (.lst zs)/\Ae K Mi H6 zs acc):=
     λ{E6 S6 M6 H6 zs acc6} ec g6 t6 r6 st6 h6 y6=>⟨_,ACy _ _ d3,rfl,E6,S6,M6,acc6,by rw[d2];exact ec,g6,t6,r6,st6,h6,y6⟩
    dsimp only at ec
    split at ec
    .obtain⟨⟨w7,S7⟩,e7,ec⟩:=Ag ec
     refine⟨Mi,E3,Si,true,S5,e5,r4,st3,λH5 M5 g5 st5=>?_⟩
     refine dP ?_
     refine⟨M5,E3,S5,w7,S7,e7,r4.step g5.st,st5,λy H7 M7 g7 st7 d7=>?_⟩
     have nA:∀{M6:Ms} {H6:Hp} {S6:Sto},StR K M6 S6 H6->A0∈M6.tmp->A0∉M6.cel:=λr6 h6=>r6.nt A0 h6
     have hA5:A0∈M5.tmp:=by rw[g5.tmp];exact hA
     have hA7:A0∈M7.tmp:=by rw[g7.tmp];exact hA5
     have hy5:H5 A0=Gc (.lst ys):=g5.keep _ _ hy3 (nA st3 hA)
     have hy7:H7 A0=Gc (.lst ys):=g7.keep _ _ hy5 (nA st5 hA5)
     have ry7:Ae K M7 H7 ys acc:=(ry3.step g5.st).step g7.st
     refine⟨hy7,?_⟩
     obtain⟨st8,s8⟩:=st7.fY (ys:=ys++[y]) hA7
     have gx7:GrX M1 H1 M7 H7:=((gx.trans g3.x).trans g5.x).trans g7.x
     have gx8:GrX M1 H1 M7 (upd H7 A0 (.lst (ys++[y]))):=⟨gx7.pre,gx7.fresh,λa o eo no=>by
      rw[Ay (λz=>by subst z;rw[hD]at eo;cases eo)]
      exact gx7.keep a o eo no,λa ea=>by
      by_cases h:a=A0
      .subst h;rw[B7];intro z;cases z
      .rw[Ay h];exact gx7.some a ea⟩
     exact fin ec gx8 (by rw[g7.tmp,g5.tmp];exact ht) (((r4.step g5.st).step g7.st).step s8) st8 B7 ((ry7.append (.cons d7 .nil)).step s8)
    .refine⟨Mi,E3,Si,false,S5,e5,r4,st3,λH5 M5 g5 st5=>?_⟩
     refine bq ?_
     exact fin ec ((gx.trans g3.x).trans g5.x) (by rw[g5.tmp];exact ht) (r4.step g5.st) st5 (g5.keep _ _ hy3 (st3.nt A0 hA)) (ry3.step g5.st)
    .cases ec
   .cases ec
  .cases ec
structure DTs(X:Cx)(ifs:Wp xM)(c:Ev):Prop where
 pe:PTs X ifs (tDT X.K c)
def Z5(h:PTs X e t)(m:∀σ H Q,t' σ H Q->t σ H Q):PTs X e t':=λpins s σ H Q I q=>h pins s σ H Q I (m _ _ _ q)
def DL:DTs X [] Ai:=⟨Z5 eH λσ H Q z=>by
 obtain⟨M,E,S,b,S',e,r,st,q⟩:=z
 cases e
 exact q _ M (.refl st.mo) st⟩
def Yr(h:DT X c f):DTs X [c] f:=⟨de h.pe⟩
section
variable{X:Cx}{N':Wp Str}{cf:xD}{scope:zv}{elt tg iter:xM}{pos:Pos}{t:Tf}
def Blk(X:Cx)(N':Wp Str)(scope:zv)(tg:xM)(ifs:Wp xM)(elt:xM)(t:Tf)(c f:Ev):Prop:=
 ∀(s:vw) (H:Hp) (fp:Wp vy),DG (JK X N' scope s H fp) tg t/\DTs (JK X N' scope s H fp) ifs c/\DE (JK X N' scope s H fp) elt f
def DP cap m N'(hc:X.calm=true)(S:AJ X.N X.env.scope N' (ixC cap m) scope)(hi:DI X tg iter s)(hb:Blk X N' scope tg ifs elt t c f)(hs:xz (∀x,foldedSetIterable iter X.env x=pure x) wv):DE X (.ListComp elt [⟨tg,iter,ifs,0⟩] scope pos) (O5 cf cap m s t c f):=⟨
 BN (eG (g:=tG X.K t) (tc:=tDT X.K c) (te:=tD X.K f) hc S hi.pe (λs H fp=>⟨(hb s H fp).1.pe,(hb s H fp).2.1.pe,(hb s H fp).2.2.pe⟩) hs) λ_ _ _ h=>WK h⟩
def PZ{py spos:Pos} cap m N'(hc:X.calm=true)(hN:X.N.Nodup)(hi':X.N[i]?=Gc y)(hx:X.env.scope.names.lookup y=Gc .local)(S:AJ X.N X.env.scope N' (ixC cap m) scope)(hi:DI X tg iter s)(hb:Blk X N' scope tg ifs elt t c f)(hsw:xz (swapsWith (.ListComp elt [⟨tg,iter,ifs,0⟩] scope pos) (Gc (.Name y py)) spos.line X.env=pure true) wp)(hs:xz (∀x,foldedSetIterable iter X.env x=pure x) wv):DS X (.Assign [.Name y py] (.ListComp elt [⟨tg,iter,ifs,0⟩] scope pos) spos) (A6 i (O5 cf cap m s t c f)):=⟨
 GH (Vj (g:=tG X.K t) (tc:=tDT X.K c) (te:=tD X.K f) hc hN hi' hx S hi.pe (λs H fp=>⟨(hb s H fp).1.pe,(hb s H fp).2.1.pe,(hb s H fp).2.2.pe⟩) hsw hs) λDn σ H z=>by
  obtain⟨M,E,S,fl,E',S',e,r,st,q⟩:=z
  obtain⟨⟨d,S1⟩,e1,e⟩:=Jl e
  cases e
  exact WK ⟨M,E,S,d,S1,e1,r,st,λv H1 M1 g1 st1 r1=>q _ _ M1 g1 ((r.step g1.st).put r1) st1⟩⟩
end
noncomputable def MU{α:Type}(xs:Wp α)(lo hi:vi Int):Wp α:=(xs.drop (HT.sIx xs.length 0 lo)).take (HT.sIx xs.length xs.length hi-HT.sIx xs.length 0 lo)
def Xn(h:Ae K M H xs ds) lo hi:Ae K M H (cK xs lo hi) (MU ds lo hi):=by
 unfold cK MU
 rw[h.length]
 exact(h.drop _).take _
def Wc{xs:Wp α}(h1:HT.sIx xs.length 0 lo=0)(h2:HT.sIx xs.length xs.length hi=xs.length):MU xs lo hi=xs:=by
 unfold MU
 rw[h1,h2]
 simp
noncomputable def wSl(lo hi:vi Int):Op1:=λw=>match w with
 | .val (.tup ds)=>Gc (.val (.tup (MU ds lo hi)))
 | .val (.str z)=>if z.length<=sizeLine then Gc (.val (.str (ADC z lo hi)))else none
 |w=>(asL w).map λds=>.own (MU ds lo hi)
def vB(K:vZ):V->vi Int->vi Int->Hp->VK->Prop:=λx lo hi H Q=>∃M w r,wSl lo hi w=Gc r/\MOk M H/\Sh K M H x w/\∀v H',Nw K M H H' v r->Q v H'
def mS:SlR X (λx lo hi H Q=>∃z,x=.str z/\z.length<=sizeLine/\Q (.str (ADC z lo hi)) H):=by
 intro pins s σ H x v vl vu lo hi sl Q I rx hs pl pu h
 obtain⟨z,rfl,hz,q⟩:=h
 obtain⟨t,rfl⟩:=rx
 have fin:∀t' k,EP X pins σ Q (.str (ADC z lo hi) t') {s with toks:=k}:=λt' k=>⟨.str _,H,I.tok k,⟨t',rfl⟩,q⟩
 cases pl with
 |none=>
  cases pu with
  |none=>exact⟨"str",_,zM.lookup,zc _ _ _,zQ (l:=none) (u:=none) (st:=none) hs rfl (AA9 ⟨va (ACR z _ _) hz,fin⟩)⟩
  |int j u=>exact⟨"str",_,zM.lookup,zc _ _ _,zQ (l:=none) (u:=Gc (j,u)) (st:=none) hs rfl (AA9 ⟨va (ACR z _ _) hz,fin⟩)⟩
 |int i u'=>
  cases pu with
  |none=>exact⟨"str",_,zM.lookup,zc _ _ _,zQ (l:=Gc (i,u')) (u:=none) (st:=none) hs rfl (AA9 ⟨va (ACR z _ _) hz,fin⟩)⟩
  |int j u=>exact⟨"str",_,zM.lookup,zc _ _ _,zQ (l:=Gc (i,u')) (u:=Gc (j,u)) (st:=none) hs rfl (AA9 ⟨va (ACR z _ _) hz,fin⟩)⟩
def qh:SlR X (vB X.K):=by
 intro pins s σ H x v vl vu lo hi sl Q I rx hs pl pu h
 obtain⟨M,w,r,e,mo,sh,q⟩:=h
 unfold wSl at e
 split at e
 .rename_i ds
  cases e
  cases sh with
  |tup hx rr=>
   rename_i a xs
   have hl:=rr.length
   by_cases hw:HT.sIx xs.length 0 lo=0/\HT.sIx xs.length xs.length hi=xs.length
   .refine St.mH pins s σ H _ v vl vu lo hi sl Q I rx hs pl pu ⟨a,xs,rfl,hx,hw.1,hw.2,?_⟩
    have ew:MU ds lo hi=ds:=Wc (by rw[<-hl];exact hw.1) (by rw[<-hl];exact hw.2)
    rw[ew]at q
    exact q _ _ (.same mo (.tup hx rr))
   .exact lJ pins s σ H _ v vl vu lo hi sl Q I rx hs pl pu ⟨a,xs,rfl,hx,hw,λp hp=>q _ _ (.tup mo hp (Xn rr lo hi))⟩
 .split at e
  .cases e
   cases sh
   exact mS pins s σ H _ v vl vu lo hi sl Q I rx hs pl pu ⟨_,rfl,by assumption,q _ _ (.same mo (.str _))⟩
  .cases e
 .cases e1:asL w with
  |none=>rw[e1]at e;cases e
  |some ds=>
   rw[e1]at e
   cases e
   obtain⟨a,xs,rfl,h1,rr⟩:=sh.l e1
   exact eT pins s σ H _ v vl vu lo hi sl Q I rx hs pl pu ⟨a,xs,rfl,.of h1,λp hp=>q _ _ (.lst mo hp (Xn rr lo hi))⟩
noncomputable def iZ:Wv->vi Int
 | .val (.int i)=>Gc i
 |_=>none
noncomputable def HR(l h:xD):OpN:=λws=>match l,h,ws with
 |false,false,[a]=>wSl none none a
 |true,false,[a,b]=>(iZ b).bind λi=>wSl (Gc i) none a
 |false,true,[a,b]=>(iZ b).bind λi=>wSl none (Gc i) a
 |true,true,[a,b,c]=>(iZ b).bind λi=>(iZ c).bind λj=>wSl (Gc i) (Gc j) a
 |_,_,_=>none
def X2(s:Sh K M H v w)(e:iZ w=Gc i):v=.int i:=by
 cases w with
 |own ds=>cases e
 |val d=>
  cases d<;>first|(cases e;done)|skip
  cases e;cases s;rfl
section
variable{X:Cx}{e lo hi:xM}{oe ol oh:Ev}{c:xD}{pos p2:Pos}
def Qb(h:DE X e oe)(hl:DE X lo ol):DE X (.Subscript e (.Slice (Gc lo) none none p2) pos) (Ny c (HR true false) [oe,ol]):=⟨BN (QU qh h.pe (NZ hl.pe) Y0) λσ H Q z=>by
 obtain⟨M0,E,S0,w,S1,e,r,st,q⟩:=z
 have z:tD X.K oe σ H λx H1=>tD X.K ol σ H1 λy H2=>rN X.K (HR true false) [x,y] H2 Q:=O1 (Q:=Q) e r st q
 refine GX z λx H1 z1=>GX z1 λy H2 z2=>?_
 obtain⟨M,ws,w',e1,mo,sh,q1⟩:=z2
 cases sh with
 |cons h1 t=>
  cases t with
  |cons h2 t=>
   cases t
   obtain⟨i,ei,e1⟩:=Ag e1
   exact⟨i,X2 h2 ei,M,_,w',e1,mo,h1,q1⟩⟩
def XO(h:DE X e oe)(hh:DE X hi oh):DE X (.Subscript e (.Slice none (Gc hi) none p2) pos) (Ny c (HR false true) [oe,oh]):=⟨BN (QU qh h.pe Y0 (NZ hh.pe)) λσ H Q z=>by
 obtain⟨M0,E,S0,w,S1,e,r,st,q⟩:=z
 have z:tD X.K oe σ H λx H1=>tD X.K oh σ H1 λy H2=>rN X.K (HR false true) [x,y] H2 Q:=O1 (Q:=Q) e r st q
 refine GX z λx H1 z1=>GX z1 λy H2 z2=>?_
 obtain⟨M,ws,w',e1,mo,sh,q1⟩:=z2
 cases sh with
 |cons h1 t=>
  cases t with
  |cons h2 t=>
   cases t
   obtain⟨i,ei,e1⟩:=Ag e1
   exact⟨i,X2 h2 ei,M,_,w',e1,mo,h1,q1⟩⟩
def XH(r:BQ K M H v d)(e:iZ (dr S d)=Gc i):v=.int i:=by
 cases r<;>first|(cases e;done)|skip
 .cases e;rfl
 .rename_i n h
  unfold dr at e
  dsimp only at e
  split at e<;>cases e
def eA(h:DE X e oe)(hl:DE X lo ol)(hh:DE X hi oh):DE X (.Subscript e (.Slice (Gc lo) (Gc hi) none p2) pos) (Ny c (HR true true) [oe,ol,oh]):=⟨BN (QU qh h.pe (NZ hl.pe) (NZ hh.pe)) λσ H Q z=>by
 obtain⟨M0,E,S0,w,S1,e,r,st,q⟩:=z
 obtain⟨⟨ds,S2⟩,e1,e⟩:=Ag e
 obtain⟨w2,e2,e⟩:=Ag e
 obtain⟨⟨d1,Sa⟩,ea,e1⟩:=Ag e1
 obtain⟨⟨ds1,Sb⟩,eb,e1⟩:=Jl e1
 cases e1
 obtain⟨⟨d2,Sc⟩,ec,eb⟩:=Ag eb
 obtain⟨⟨ds2,Sd⟩,ed,eb⟩:=Jl eb
 cases eb
 obtain⟨⟨d3,Se⟩,ee,ed⟩:=Ag ed
 obtain⟨⟨ds3,Sf⟩,ef,ed⟩:=Jl ed
 cases ed
 cases ef
 obtain⟨i,ei,e2⟩:=Ag e2
 obtain⟨j,ej,e2⟩:=Ag e2
 refine⟨M0,E,S0,d1,Sa,ea,r,st,λx H1 M1 g1 st1 r1=>?_⟩
 refine⟨M1,E,Sa,d2,Sc,ec,r.step g1.st,st1,λy H2 M2 g2 st2 r2=>⟨i,?_,?_⟩⟩
 .exact XH r2 ei
 refine⟨M2,E,Sc,d3,Se,ee,(r.step g1.st).step g2.st,st2,λu H3 M3 g3 st3 r3=>⟨j,?_,?_⟩⟩
 .exact XH r3 ej
 refine⟨M3,_,w2,e2,st3.mo,VE st3 ((r1.step g2.st).step g3.st),λv H4 n=>?_⟩
 obtain⟨M4,g4,st4,d4⟩:=n.fin st3 e
 exact q v H4 M4 (((g1.trans g2).trans g3).trans g4) st4 d4⟩
noncomputable def VJ(oa ob oc:Ev):Ev:=λE S=>(evs [oa,ob] E S).bind λr=>match r.1 with
 | [.int i,.int j]=>if i<=j then(oc E r.2).bind λp=>match p.1 with
     | .int k=>Gc (.bl (decide (j<=k)),p.2)
     |_=>none
   else Gc (.bl false,r.2)
 |_=>none
def pL(h:tD K (VJ oa ob oc) σ H Q):cJ (rI0 λi j=>.bl (decide (i<=j))) (rI0 λi j=>.bl (decide (i<=j))) (tD K oa) (tD K ob) (tD K oc) σ H Q:=by
 obtain⟨M,E,S,d,S',e,r,st,q⟩:=h
 obtain⟨⟨ws,S1⟩,e1,e⟩:=Ag e
 have zz:=HM (K:=K) (σ:=σ) (fs:=[oa,ob]) (Q:=λvs H2=>∃i j:Int,vs=[V.int i,V.int j]/\rI0 (λi j=>.bl (decide (i<=j))) (.int i) (.int j) H2 λz H3=>∃k,z=.bl k/\(if k=true then tD K oc σ H3 λw' H4=>rI0 (λi j=>.bl (decide (i<=j))) (.int j) w' H4 Q else Q (.bl false) H3)) e1 r st (λvs H1 M1 g1 st1 r1=>by
  dsimp only at e
  split at e
  .rename_i i j
   have hv:=Xq r1
   refine⟨i,j,hv,i,j,rfl,rfl,_,rfl,?_⟩
   by_cases hij:i<=j
   .rw[wU hij]at e
    rw[wU (by simpa using hij)]
    obtain⟨⟨w2,S2⟩,e2,e⟩:=Ag e
    dsimp only at e
    split at e
    .rename_i k
     cases e
     refine⟨M1,E,S1,_,_,e2,r.step g1.st,st1,λv H2 M2 g2 st2 r2=>?_⟩
     cases r2
     exact⟨j,k,rfl,rfl,q _ _ M2 (g1.trans g2) st2 (.bl _)⟩
    .cases e
   .rw[wy hij]at e
    cases e
    rw[wy (by simpa using hij)]
    exact q _ _ M1 g1 st1 (.bl _)
  .cases e)
 refine GX (show tD K oa σ H _ from zz) λx H1 z1=>GX z1 λy H2 z2=>?_
 obtain⟨i,j,ev,z2⟩:=z2
 cases ev
 exact z2
def eK{a b c:xM}(ha:DE X a oa)(hb:DE X b ob)(hc:DE X c oc)(hm:xz (lastMarks [.LtE,.LtE] [b,c]=false) wf):DE X (.Compare a [.LtE,.LtE] [b,c] pos) (VJ oa ob oc):=⟨
 BN (bP gE gE ha.pe hb.pe hc.pe hm) λ_ _ _ h=>pL h⟩
structure PV(K:vZ)(mg:Str->vi vm)(x:Str)(d:D):Prop where
 ex:∃v u,mg x=Gc u/\RelV v u/\∀M H,BQ K M H v d
def Sx(c:PV X.K X.mg x d)(hg:Gl X x)(hd:xz ((x==("__debug__":Str))=false) ww):DE X (.Name x pos) (eC d):=⟨by
 obtain⟨v,u,h1,h2,h3⟩:=c.ex
 exact BN (P6 hg h1 h2 hd) λσ H Q z=>by
  obtain⟨M0,E,S0,w,S1,e,rr,st,q⟩:=z
  cases e
  exact q _ _ M0 (.refl st.mo) st (h3 _ _)⟩
def dc(hg:Gl X x)(hm:X.mg x=none)(hv:bootBuiltins x=Gc (.type T))(hn:xz (x≠ "__name__") ww)(hd:xz ((x==("__debug__":Str))=false) ww):DE X (.Name x pos) (eC (.ty T)):=
 Ry (du (v:=.ty T) hg hm hv rfl hn hd) λ_ _ _=>.ty T
structure lF(K:vZ)(w:xy)(mg:Str->vi vm)(x:Str)(tbl:Wp (Str×D)):Prop where
 ex:∃a kvs,mg x=Gc (.ref a)/\TopD K w a kvs/\∀k,(tbl.lookup k=none->kvs.lookup k=none)/\∀d,tbl.lookup k=Gc d->∃v,kvs.lookup k=Gc v/\∀M H,BQ K M H v d
noncomputable def SM(tbl:Wp (Str×D)):Op1
 | .val (.str k)=>(tbl.lookup k).map .val
 |_=>none
noncomputable def HN(neg:xD)(tbl:Wp (Str×D)):Op1
 | .val (.str k)=>Gc (.val (.bl (if neg then !(tbl.lookup k).isSome else(tbl.lookup k).isSome)))
 |_=>none
def Ys{p:Pos}(c:lF X.K X.w X.mg x tbl)(hg:Gl X x)(h:DE X i o)(hs:xz (Pj i) wT)(hd:xz ((x==("__debug__":Str))=false) ww):DE X (.Subscript (.Name x p) i pos) (eOp (o1 (SM tbl)) [o]):=⟨by
 obtain⟨a,kvs,h1,h2,h3⟩:=c.ex
 refine BN (iG dR (P6 (v:=.ref a) hg h1 rfl hd) h.pe hs) λσ H Q z=>?_
 refine GX (Xd z) λy H1 z1=>?_
 obtain⟨M,w,r,e,mo,sh,q⟩:=z1
 unfold SM at e
 split at e
 .rename_i k
  cases e1:tbl.lookup k with
  |none=>rw[e1]at e;cases e
  |some d=>
   rw[e1]at e
   cases e
   cases sh
   obtain⟨v,q1,q2⟩:=(h3 k).2 d e1
   exact⟨a,kvs,k,v,rfl,rfl,h2,q1,q _ _ (.same mo (q2 _ _))⟩
 .cases e⟩
def mB{x:Str}(h2:TopD X.K X.w a kvs)(h3:∀k,(tbl.lookup k=none->kvs.lookup k=none)/\∀d,tbl.lookup k=Gc d->∃v,kvs.lookup k=Gc v/\∀M H,BQ X.K M H v d)(z:rUn X.K (HN neg tbl) y H Q):dE X.K X.w neg y (.ref a) H Q:=by
 obtain⟨M,w,r,e,mo,sh,q⟩:=z
 unfold HN at e
 split at e
 .rename_i k
  cases e
  cases sh
  refine⟨a,kvs,k,rfl,rfl,h2,?_⟩
  have:(kvs.lookup k).isSome=(tbl.lookup k).isSome:=by
   cases e1:tbl.lookup k with
   |none=>rw[(h3 k).1 e1];rfl
   |some d=>obtain⟨v,q1,_⟩:=(h3 k).2 d e1;rw[q1];rfl
  rw[this]
  exact q _ _ (.same mo (.bl _))
 .cases e
def OP(c:lF X.K X.w X.mg x tbl)(hg:Gl X x)(h:DE X i o)(hd:xz ((x==("__debug__":Str))=false) ww):DT X (.Compare i [.NotIn] [.Name x p] pos) (eOp (o1 (HN true tbl)) [o]):=by
 obtain⟨a,kvs,h1,h2,h3⟩:=c.ex
 exact bI (YU RI h.pe (P6 (v:=.ref a) hg h1 rfl hd) rfl) λσ H Q z=>GX (Xd z) λy H1 z1=>mB (x:=x) h2 h3 z1
end
noncomputable def QY:Nat->Wp D->Wp D
 |_,[]=>[]
 |k,d::ds=>.tup [.int k,d]::QY (k+1) ds
theorem NA:∀{ds} {k i:Nat},(QY k ds)[i]?=(ds[i]?).map λd=>.tup [.int ((k+i:Nat):Int),d]
 | [],k,i=>by simp[QY]
 |d::ds,k,0=>by simp[QY]
 |d::ds,k,i+1=>by
  simp only[QY,ACB]
  rw[NA,show k+1+i=k+(i+1) by lia]
theorem QJ:∀{ds} {k},(QY k ds).length=ds.length
 | [],k=>rfl
 |d::ds,k=>by simp[QY,QJ (ds:=ds)]
def SqF.sqB{K:vZ}{M:Ms}{H:Hp}{gs:Gd}{k:xD}{a:vy}{ds:Wp D}(h:SqF K M H gs k a ds){H2:Hp}{M2:Ms}(g:Sp1 M H M2 H2)(st:StR K M2 S2 H2)(ok:gOk gs S2):∃xs,SqB K H2 k a xs/\Ae K M2 H2 xs ds:=by
 obtain⟨xs,h1,h2⟩:=h.keep H2 M2 S2 g st ok
 refine⟨xs,?_,h2⟩
 cases k with
 |true=>exact h1
 |false=>exact h1
theorem lD(h:SqF K M H gs k a ds):kN K M H gs (QY 0 ds) (ItE K k a) where
 go:=λi H2 M2 S2 g st ok hi=>by
  rw[QJ]at hi
  obtain⟨xs,h1,h2⟩:=h.sqB g st ok
  obtain⟨x,hx⟩:=h2.get' hi
  exact⟨xs,x,h1,hx⟩
 stop:=λi H2 M2 S2 g st ok hi=>by
  rw[QJ]at hi
  obtain⟨xs,h1,h2⟩:=h.sqB g st ok
  exact⟨xs,h1,by have:=h2.length;lia⟩
 yld:=λi H2 M2 S2 x H3 d g st ok hd hy=>by
  obtain⟨xs,h1,h2⟩:=h.sqB g st ok
  obtain⟨p,y,hp,rfl,hy,rfl⟩:=hy
  have hx:=hy xs h1
  rw[NA]at hd
  obtain⟨d0,e,hd⟩:=Jl hd
  subst hd
  obtain⟨x',h3,h4⟩:=h2.get e
  rw[hx]at h3;cases h3
  have k3:=ID (o:=.tup [.int i,y]) hp
  refine⟨k3,.tup (.of B7) (.cons ?_ (.cons (h4.step (Gr.grow st.mo k3).st) .nil))⟩
  rw[ACS]
  exact .int _
noncomputable def iA(f:Ev):Sr:=λE S=>(f E S).bind λr=>(sqD r.2 r.1).map λp=>((QY 0 p.1,p.2),r.2)
def lV(hg:Gl X "enumerate")(hm:X.mg "enumerate"=none)(ha:DE X a f)(hs:xz (wD [a] X.env=[(false,eval a X.env)]) wp):DI X (.Tuple elts k tp) (.Call (.Name "enumerate" p) [a] [] pos) (iA f):=⟨
 QO (Zv hg hm (QS ha.pe Xs (by rw[hs];rfl)) hs) λσ H R z=>by
  obtain⟨M,E,S,ds,gs,S',e,r,st,q⟩:=z
  obtain⟨⟨d,S1⟩,e1,e⟩:=Ag e
  obtain⟨⟨ds',gs'⟩,e2,e⟩:=Jl e
  cases e
  refine⟨M,E,S,d,S1,e1,r,st,λv H1 M1 g1 st1 r1=>?_⟩
  obtain⟨k,a,rfl,sq⟩:=Uc st1 r1 e2
  obtain⟨xs,hs,_⟩:=sq.sqB (Gr.refl st1.mo).st st1 (Pr e2)
  exact⟨k,a,rfl,⟨xs,hs⟩,q _ _ M1 g1 st1 (lD sq)⟩⟩
noncomputable def MO(ds es:Wp D):Wp D:=(ds.zip es).map λp=>.tup [p.1,p.2]
def bO{i:Nat}(h:(MO ds es)[i]?=Gc d):∃x y,ds[i]?=Gc x/\es[i]?=Gc y/\d=.tup [x,y]:=by
 unfold MO at h
 simp only[wJ,yq]at h
 obtain⟨⟨x,y⟩,h1,h2⟩:=h
 rw[ABj]at h1
 exact⟨x,y,h1.1,h1.2,h2.symm⟩
def NC:(MO ds es).length=min ds.length es.length:=by simp[MO]
def SqF.more(h:SqF K M H gs k a ds)(s:∀g∈gs,g∈gs'):SqF K M H gs' k a ds:=⟨λH2 M2 S2 g st ok=>h.keep H2 M2 S2 g st λx hx=>ok x (s x hx)⟩
theorem mG(h:SqF K M H gs k a ds)(h':SqF K M H gs m b es):kN K M H gs (MO ds es) (Itz K k a m b) where
 go:=λi H2 M2 S2 g st ok hi=>by
  rw[NC]at hi
  obtain⟨xs,h1,r⟩:=h.sqB g st ok
  obtain⟨ys,h2,r'⟩:=h'.sqB g st ok
  obtain⟨x,hx⟩:=r.get' (show i<ds.length by lia)
  obtain⟨y,hy⟩:=r'.get' (show i<es.length by lia)
  exact⟨xs,ys,x,y,h1,h2,hx,hy⟩
 stop:=λi H2 M2 S2 g st ok hi=>by
  rw[NC]at hi
  obtain⟨xs,h1,r⟩:=h.sqB g st ok
  obtain⟨ys,h2,r'⟩:=h'.sqB g st ok
  have:=r.length
  have:=r'.length
  exact⟨xs,ys,h1,h2,by lia⟩
 yld:=λi H2 M2 S2 x H3 d g st ok hd hy=>by
  obtain⟨xs,h1,r⟩:=h.sqB g st ok
  obtain⟨ys,h2,r'⟩:=h'.sqB g st ok
  obtain⟨p,x1,y1,hp,rfl,q1,q2,rfl⟩:=hy
  obtain⟨d1,d2,e1,e2,rfl⟩:=bO hd
  have hx:=q1 xs h1
  have hy:=q2 ys h2
  obtain⟨x',h3,h4⟩:=r.get e1
  obtain⟨y',h5,h6⟩:=r'.get e2
  rw[hx]at h3;cases h3
  rw[hy]at h5;cases h5
  have k3:=ID (o:=.tup [x1,y1]) hp
  exact⟨k3,.tup (.of B7) (.cons (h4.step (Gr.grow st.mo k3).st) (.cons (h6.step (Gr.grow st.mo k3).st) .nil))⟩
noncomputable def VZ(f g:Ev):Sr:=λE S=>(evs [f,g] E S).bind λr=>match r.1 with
 | [d,e]=>(sqD r.2 d).bind λp=>(sqD r.2 e).map λq=>((MO p.1 q.1,p.2++q.2),r.2)
 |_=>none
def mC{p pos tp:Pos}{elts:Wp xM}{k:Nat}(hg:Gl X "zip")(hm:X.mg "zip"=none)(ha:DE X a f)(hb:DE X b g)(hs:xz (wD [a,b] X.env=[(false,eval a X.env),(false,eval b X.env)]) wp)(hs2:xz (wD [b] X.env=[(false,eval b X.env)]) wp):DI X (.Tuple elts k tp) (.Call (.Name "zip" p) [a,b] [] pos) (VZ f g):=⟨
 QO (kh hg hm (AD ha (AD hb AF hs2) (by rw[hs,hs2])).pe hs hs2) λσ H R z=>by
  obtain⟨M,E,S,ds,gs,S',e,r,st,q⟩:=z
  obtain⟨⟨ws,S1⟩,e1,e⟩:=Ag e
  refine HM (fs:=[f,g]) e1 r st λvs H1 M1 g1 st1 r1=>?_
  dsimp only at e
  split at e
  .obtain⟨⟨ds1,gs1⟩,eu,e⟩:=Ag e
   obtain⟨⟨ds2,gs2⟩,ee,e⟩:=Jl e
   cases e
   cases r1 with
   |cons h1 t=>
    cases t with
    |cons h2 t=>
     cases t
     obtain⟨k1,a1,rfl,s1⟩:=Uc st1 h1 eu
     obtain⟨k2,a2,rfl,s2⟩:=Uc st1 h2 ee
     obtain⟨xs,hxs,_⟩:=s1.sqB (Gr.refl st1.mo).st st1 (Pr eu)
     obtain⟨ys,hys,_⟩:=s2.sqB (Gr.refl st1.mo).st st1 (Pr ee)
     exact⟨_,_,_,_,rfl,⟨_,hxs⟩,⟨_,hys⟩,q _ _ M1 g1 st1 (mG (s1.more λx hx=>AA0 _ hx) (s2.more λx hx=>wq _ hx))⟩
  .cases e⟩
noncomputable def intD:D->vi Int
 | .int i=>Gc i
 |_=>none
noncomputable def Mg(ds:Wp D):vi (Wp Int):=ds.mapM intD
theorem Nu:∀{vs} {ds} {ns},Ae K M H vs ds->Mg ds=Gc ns->vs=ns.map V.int
 |_,_,ns,.nil,e=>by cases e;rfl
 |_,_,ns,.cons (d:=d) (ds:=ds) h t,e=>by
  unfold Mg at e
  rw[ABe]at e
  cases e1:intD d with
  |none=>rw[e1]at e;cases e
  |some b=>
   rw[e1]at e
   cases e2:ds.mapM intD with
   |none=>rw[e2]at e;cases e
   |some cs=>
    rw[e2]at e
    cases e
    have hd:d=.int b:=by
     cases d<;>first|(cases e1;done)|skip
     cases e1;rfl
    subst hd
    cases h
    rw[v5,<-Nu t e2]
def Ye(hc:X.calm=true):Cv X (.builtin "sum") (λxs H Q=>∃(p:vy) (ns:Wp Int),xs=[.ref p]/\SqL X.K H p (ns.map V.int)/\Q (.int ns.sum) H):=by
 intro pins s σ H xs us Q I r h
 obtain⟨p,ns,rfl,hp,q⟩:=h
 obtain⟨u,rfl,ru⟩:=r.one
 cases (show u=w9 p from ru)
 obtain⟨its,rv,pl,hz⟩:=I.list hp
 have hd:X.A.in1.handled=none:=I.ok.hd hc
 refine call_sum_walkG (xu pl.isList ?_)
 have hlen:ns.length=its.length:=by have:=rv.length;simpa using this
 have hpl:=pl.isList
 have hlt:p<s.heap.objs.size:=by
  obtain⟨o,ho,_⟩:=hpl
  exact vz ho
 refine⟨s.heap.objs.size,_,_,its.length,_,_,λi=>ns.getD i 0,rfl,St.LZ (vs:=its) hd (wZ hlt),⟨⟨_,wI _ rfl,rfl,rfl⟩,?_⟩,?_,?_,?_⟩
 .obtain⟨o,ho,r⟩:=hpl
  exact⟨o,vc _ ho,r⟩
 .intro b hb
  rw[yG]
  simp at hb
  rcases hb with h|h
  .rw[h];exact Nat.lt_succ_self _
  .rw[h];exact Nat.lt_succ_of_lt hlt
 .intro i v hv
  have hi:i<its.length:=(vt.mp hv).1
  have hb:(ns.map V.int)[i]?=Gc (.int (ns.getD i 0)):=by
   rw[wJ,vk (by lia)]
   simp[v8,vk (show i<ns.length by lia)]
  obtain⟨u,hu,ru⟩:=rv.get hb
  rw[hv]at hu
  cases hu
  exact ru
 .intro h' tk t' hk
  have e:preSum (λi=>ns.getD i 0) its.length=ns.sum:=by
   rw[<-hlen,St.Nj (vf _),yp (vf _)]
  rw[e]
  exact⟨.int _,H,I.kept (t':=tk) λb o eb=>hk b o (by simp;exact wZ (vz eb)) (vc _ eb),⟨_,rfl⟩,q⟩
noncomputable def ao:Op1:=λw=>(asL w).bind λds=>(Mg ds).map λns=>.val (.int ns.sum)
def kx(hc:X.calm=true):Cv X (.builtin "sum") (rN X.K (o1 ao)):=by
 intro pins s σ H xs us Q I r h
 obtain⟨M,ws,w,e,mo,sh,q⟩:=h
 obtain⟨v,w1,rfl,rfl,s1,e1⟩:=GR sh e
 obtain⟨ds,e2,e1⟩:=Ag e1
 obtain⟨ns,e3,e1⟩:=Jl e1
 cases e1
 obtain⟨a,ys,rfl,h3,h4⟩:=s1.l e2
 exact Ye hc pins s σ H _ us Q I r ⟨a,ns,rfl,by rw[<-Nu h4 e3];exact .of h3,q _ _ (.same mo (.int _))⟩
noncomputable def Oh(ns:Wp Int):Wp Int:=ns.mergeSort (λa b=>decide (a<=b))
def PC ns:(Oh ns).Perm ns:=List.mergeSort_perm _ _
def VC ns:(Oh ns).Pairwise (· <= ·):=by
 have:=List.pairwise_mergeSort (le:=λ(a b:Int)=>decide (a<=b)) (λa b c h1 h2=>by simp at *; lia) (λa b=>by simp;lia) ns
 unfold Oh
 exact this.imp λh=>v3 h
def VQ(p:ms.Perm ns)(s:ms.Pairwise (· <= ·)):ms=Oh ns:=PySem.W.ksm_same (p.trans (PC ns).symm) s (VC ns)
theorem intsAre_of:∀{ns} {its},Vals (ns.map V.int) its->AAN its ns
 | [],_,.nil=>.nil
 |n::ns,_,.cons h t=>by
  obtain⟨tk,rfl⟩:=h
  exact .cons n tk (intsAre_of t)
theorem MM:∀{ns} {its},AAN its ns->Vals (ns.map V.int) its
 |_,_,.nil=>.nil
 |_,_,.cons n tk t=>.cons ⟨tk,rfl⟩ (MM t)
def Q3:Cv X (.builtin "sorted") (λxs H Q=>∃p ns,xs=[.ref p]/\SqL X.K H p (ns.map V.int)/\ns.length<64/\∀q,H q=none->Q (.ref q) (upd H q (.lst ((Oh ns).map V.int)))):=by
 intro pins s σ H xs us Q I r h
 obtain⟨p,ns,rfl,hp,h64,q⟩:=h
 obtain⟨u,rfl,ru⟩:=r.one
 cases (show u=w9 p from ru)
 obtain⟨its,rv,pl,hz⟩:=I.list hp
 have hlen:ns.length=its.length:=by have:=rv.length;simpa using this
 refine PyProof.Rows.sorted_ints pl.isList (intsAre_of rv) (by lia) λout ns' a1 a2 a3=>?_
 obtain⟨e,he⟩:=PyProof.Rows.sortedAll_at s.heap its out
 have hn:H (s.heap.objs.size+1)=none:=I.hok.fresh (Nat.le_succ _)
 have hs:=VQ a2 a3
 subst hs
 refine⟨.ref _,_,I.laid (a:=s.heap.objs.size+1) (o:=.lst ((Oh ns).map V.int)) (t':=s.toks) (λ_ _=>PyProof.Rows.sortedAll_old) (Nat.le_succ _) ?_,rfl,q _ hn⟩
 refine⟨?_,out.toList,e,MM a1,?_⟩
 .rw[wY,(PC ns).length_eq]
  have:(64:Nat)<=sizeLine:=by decide
  lia
 .rw[Array.toArray_toList];exact he
noncomputable def QH:Op1:=λw=>(asL w).bind λds=>(Mg ds).bind λns=>if ns.length<64 then Gc (.own ((Oh ns).map D.int))else none
def br:Cv X (.builtin "sorted") (rN X.K (o1 QH)):=by
 intro pins s σ H xs us Q I r h
 obtain⟨M,ws,w,e,mo,sh,q⟩:=h
 obtain⟨v,w1,rfl,rfl,s1,e1⟩:=GR sh e
 obtain⟨ds,e2,e1⟩:=Ag e1
 obtain⟨ns,e3,e1⟩:=Ag e1
 split at e1
 .cases e1
  obtain⟨a,ys,rfl,h3,h4⟩:=s1.l e2
  exact Q3 pins s σ H _ us Q I r ⟨a,ns,rfl,by rw[<-Nu h4 e3];exact .of h3,by assumption,λp hp=>q _ _ (.lst mo hp M9)⟩
 .cases e1
def Pg l items n b items2 n2 dd sl(hs0:¬(!items.isEmpty && yF (items.size+items2.size))=true)(hs1:items.size<=sizeLine)(hs2:items.size+items2.size<=sizeLine+1):Meets (ABJ.«list.extend» ⟨[.ref l,.ref b],[]⟩) (λ_ R s=>s.heap.get? l=Gc {cls:=.type "list",dict:=none,data:=.seq items n,slots:= #[]}/\s.heap.get? b=Gc {cls:=.type "tuple",dict:=dd,data:=.seq items2 n2,slots:=sl}/\R (.ok (.ret xA)) {s with heap:=s.heap.update l (ABY λx=>x++items2),toks:=s.toks}):=
 .of_wp λprog w A R s h=>by
  obtain⟨hp,g,d,tk,os⟩:=s;obtain⟨hl,hb,h⟩:=h;have f1:=AutoSeq1.idx_int;have f2:=AutoSeq1.sub_tuple_tuple;have f3:=AutoSeq1.sub_list_list;have f4:=AutoSeq1.sub_tuple_list;have f5:=AutoSeq1.sub_list_tuple
  have hz':(items++items2).size<=sizeLine+1:=by rw[Array.size_append];exact hs2
  wp_walk using(wpAny_updateSeq hl rfl (hz:=hs1) (_hz':=hz')),wM hl,wM hb;exact⟨_,rfl,h⟩
def Z0(K:vZ):V->Wp V->Hp->VK->Prop:=λx vs H Q=>∃l b xs zs,x=.ref l/\vs=[.ref b]/\H l=Gc (.lst xs)/\SqT K H b zs/\xs.length+zs.length<=sizeLine/\Q .non (upd H l (.lst (xs++zs)))
def VN:MtM X "list.extend" (Z0 X.K):=by
 intro pins s σ H x vs v us Q I rx rv h
 obtain⟨l,b,xs,zs,rfl,rfl,hH,hB,hz,q⟩:=h
 cases rx
 obtain⟨u,rfl,ru⟩:=rv.one
 cases ru
 obtain⟨z,its,n,r,hl,e⟩:=I.aT hH
 obtain⟨its2,r2,⟨⟨c,dd,dt,sl⟩,e2,hc,n2,hd⟩,z2⟩:=I.tuple hB
 simp only at hc hd
 subst hc hd
 have hl2:=r2.length
 have hsz:its.toArray.size+its2.toArray.size<=sizeLine:=by rw[vv,vv];lia
 have hlong:¬(!its.toArray.isEmpty && yF (its.toArray.size+its2.toArray.size))=true:=by
  rw[Pa hsz,Bool.and_false]
  exact wu
 refine zK ADX ⟨_,e,rfl⟩ ADE (ACs _ _)
  (Pg l its.toArray n b its2.toArray n2 dd sl hlong (by rw[vv];lia) (by lia)) ⟨e,e2,?_⟩
 refine⟨.non,_,I.qK (its':=its++its2) hH e (by simp) (r.append r2) ?_,rfl,q⟩
 rw[wc]
 lia
noncomputable def mY:Mo
 |S,ds,[x]=>match dr S x with
  | .val (.tup zs)=>if ds.length+zs.length<=sizeLine then Gc (.non,ds++zs)else none
  |w=>(asL w).bind λzs=>if ds.length+zs.length<=sizeLine then Gc (.non,ds++zs)else none
 |_,_,_=>none
def pB:MtR X "list.extend" (oB X.K mY):=by
 intro pins s σ H x vs v us Q I rx rv h
 obtain⟨M,S,n,a,ds,args,d,ds',rfl,hc,hn,e,st,ra,q⟩:=h
 unfold mY at e
 split at e
 .obtain⟨xs,h1,h2⟩:=st.cell n a _ hc hn
  obtain⟨y,rfl,ry⟩:=UB ra
  have sy:=VE st ry
  split at e
  .rename_i ed
   rw[ed]at sy
   split at e
   .rename_i hz
    cases e
    cases sy with
    |tup hx rr=>
     obtain⟨st2,g2⟩:=st.chg hc hn (h2.append rr)
     exact VN pins s σ H _ _ v us Q I rx rv ⟨a,_,xs,_,rfl,rfl,h1,hx,by rw[h2.length,rr.length];exact hz,q _ _ st2 g2 .non⟩
   .cases e
  .obtain⟨zs,e1,e⟩:=Ag e
   split at e
   .rename_i hz
    cases e
    obtain⟨b,ys,rfl,h3,h4⟩:=sy.l e1
    obtain⟨st2,g2⟩:=st.chg hc hn (h2.append h4)
    exact YO pins s σ H _ _ v us Q I rx rv ⟨a,b,xs,ys,rfl,rfl,h1,h3,by rw[h2.length,h4.length];exact hz,q _ _ st2 g2 .non⟩
   .cases e
 .cases e
def bR:OpR X (binaryOp .Mult) (λx y H Q=>∃a xs k,x=.ref a/\y=.int k/\SqT X.K H a xs/\xs≠[]/\k<=0/\ -(2^63)<=k/\∀p,H p=none->Q (.ref p) (upd H p (.tup []))):=by
 intro pins s σ H x y v u Q I rx ry h
 obtain⟨a,xs,k,rfl,rfl,hx,hne,hk,hk2,q2⟩:=h
 cases rx
 obtain⟨t,rfl⟩:=ry
 obtain⟨its,r,⟨⟨c,dd,data,sl⟩,ho,hc,n,hd⟩,hzz⟩:=I.tuple hx
 simp only at hc hd
 subst hc hd
 have hl:=r.length
 have hpos:0<xs.length:=ABC.mpr hne
 refine AAK (T:="tuple") (U:="int") (by decide) ⟨_,ho,rfl⟩ (λs'=>AAu s' k t) IW ACg zh MP AB8.lookup
  (zK zh (AAu s k t) AB9 (ABq _ _) (Jt k t a its.toArray n dd sl) ⟨ho,rfl,⟨_,ho,rfl⟩,?_⟩)
 refine ya AAv ⟨_,ho,rfl⟩ F.entry_tuple_mul ?_ (ADY _ _)
 unfold ABJ.«tuple.__mul__»
 wp_walk using wM ho
 rw[wy (show¬(decide (k< -2^63)||decide (k≥2^63))=true by
  rw[xq]
  rintro (z|z)
  .have:=v3 z;lia
  .have:=v3 z;lia)]
 wp_walk using wM ho
 have hemp:its.toArray.isEmpty=false:=by
  cases its with
  |nil=>rw[AAS]at hl;lia
  |cons b bs=>rfl
 rw[wy (show¬(its.toArray.isEmpty||k==1)=true by
  rw[hemp,Bool.false_or]
  intro z
  have:=eq_of_beq z
  lia)]
 wp_walk using wM ho
 all_goals first
  |exact⟨_,rfl,.ref _,_,I.laid (o:=.tup []) (t':=s.toks) (λb ob q=>vc _ q) (vf _) ⟨yB _,[],.nil,zU _ _⟩,rfl,q2 _ (I.hok.fresh (vf _))⟩
  |(exfalso
    rename_i hh
    exact hh (by rw[xq];exact .inl (xp hk)))
noncomputable def Bq:Op2:=λa b=>match asT a with
 |some xs=>match asI b with
  |some k=>if(!xs.isEmpty && decide (k<=0) && decide (-(2^63)<=k))=true then Gc (.val (.tup []))else kl (.val (.tup xs)) (.val (.int k))
  |none=>kl a b
 |none=>kl a b
def Mn:OpR X (binaryOp .Mult) (rOp X.K Bq):=by
 intro pins s σ H x y v u Q I rx ry h
 obtain⟨M,w1,w2,r,e,mo,s1,s2,q⟩:=h
 have no:kl w1 w2=Gc r->wpAny (model X.prog X.w) X.A (binaryOp .Mult v u) (EP X pins σ Q) X.xe s:=λe=>eR pins s σ H x y v u Q I rx ry ⟨M,_,_,r,e,mo,s1,s2,q⟩
 unfold Bq at e
 cases e1:asT w1 with
 |none=>rw[e1]at e;exact no e
 |some xs=>
  rw[e1]at e
  dsimp only at e
  cases e2:asI w2 with
  |none=>rw[e2]at e;exact no e
  |some k=>
   rw[e2]at e
   obtain rfl:=Ut e1
   obtain rfl:=RX e2
   by_cases hk:(!xs.isEmpty && decide (k<=0) && decide (-(2^63)<=k))=true
   .dsimp only at e
    rw[wU hk]at e
    rw[vn,vn]at hk
    cases e
    obtain rfl:=BQ.iv s2
    obtain⟨a,ys,rfl,h1,r1⟩:=BQ.iv s1
    have hne:ys≠[]:=λzz=>by
     subst zz
     cases r1
     exact absurd hk.1.1 (by decide)
    exact bR pins s σ H _ _ v u Q I rx ry ⟨a,ys,k,rfl,rfl,h1,hne,v3 hk.1.2,v3 hk.2,λp hp=>q _ _ (.tup mo hp .nil)⟩
   .dsimp only at e
    rw[wy hk]at e
    exact no e
def TY(hr:K0 k A):A.units+100<cLine:=by have:=hr.un;lia
def ZQ(S:St.Src K mg x st)(hbi:∀f fd,Fun K x x st f fd->Binds K fd ps []):St.Dfn P w K mg base x k ps (spD K np λ_ _=>none):=by
 obtain⟨f,fd,Fu,hm⟩:=S.ex
 refine⟨f,fd,hm,Fu.kp,hbi f fd Fu,⟨λvs H Q E h=>?_,λA outer s H args us vs Q E hr h0 hb hv h=>?_⟩⟩
 .obtain⟨_,_,_,_,_,_,e,_⟩:=h;cases e
 .obtain⟨_,_,_,_,_,_,e,_⟩:=h;cases e
noncomputable def scE:Nat->xM->Wp zv
 |0,_=>[]
 |n+1,.ListComp e gs s _=>s::(gs.flatMap λg=>scE n g.iter)++scE n e++(gs.flatMap λg=>g.ifs.flatMap (scE n))
 |n+1,.BoolOp _ vs _=>vs.flatMap (scE n)
 |n+1,.Call f as _ _=>scE n f++as.flatMap (scE n)
 |n+1,.BinOp a _ b _=>scE n a++scE n b
 |n+1,.UnaryOp _ a _=>scE n a
 |n+1,.Compare a _ cs _=>scE n a++cs.flatMap (scE n)
 |n+1,.Subscript a b _=>scE n a++scE n b
 |n+1,.Tuple es _ _=>es.flatMap (scE n)
 |n+1,.List es _=>es.flatMap (scE n)
 |n+1,.IfExp c a b _=>scE n c++scE n a++scE n b
 |n+1,.Dict _ vs _=>vs.flatMap (scE n)
 |n+1,.Slice a b c _=>(a.toList++b.toList++c.toList).flatMap (scE n)
 |n+1,.Attribute v _ _=>scE n v
 |_,_=>[]
noncomputable def scS:Nat->wV->Wp zv
 |0,_=>[]
 |n+1,.Return (Gc e) _=>scE 30 e
 |n+1,.Assign ts e _=>ts.flatMap (scE 30)++scE 30 e
 |n+1,.AugAssign t _ e _=>scE 30 t++scE 30 e
 |n+1,.Expr e _=>scE 30 e
 |n+1,.If t a b _=>scE 30 t++a.flatMap (scS n)++b.flatMap (scS n)
 |n+1,.For _ it a b _=>scE 30 it++a.flatMap (scS n)++b.flatMap (scS n)
 |n+1,.While t a b _=>scE 30 t++a.flatMap (scS n)++b.flatMap (scS n)
 |_,_=>[]
noncomputable def Gm(st:wV)(k:Nat):zv:=((Dz st).flatMap (scS 20)).getD k (AE st)
structure pf(P:xK)(w:xy)(K:vZ)(mg:Str->vi vm)(base:xZ)(x:Str)(k np:Nat)(tbl:Wp (Str×Fn)):Prop where
 ex:∃a kvs,mg x=Gc (.ref a)/\TopD K w a kvs/\∀p G,tbl.lookup p=Gc G->∃f fd ps,kvs.lookup p=Gc (.ref f)/\OO P w K mg base CX0 k f fd ps (spD K np G)/\yE K (.ref f)=true/\Binds K fd ps []
noncomputable def ke(tbl:Wp (Str×Fn))(i j:Nat)(fs:Wp Ev):Ex:=λE S=>if((at? E i).isNone && decide (i<E.length))=true then(at? E j).bind λw=>match w with
 | .str p=>(tbl.lookup p).bind λG=>AU (AB G fs) E S
 |_=>none
 else none
def EnR.gC(r:EnR K M E σ H)(h:at? E i=none):EnR K M E (σ.set i (Gc v)) H:=by
 refine⟨by rw[yR];exact r.len,λj d e=>?_⟩
 have ne:i≠j:=λz=>by
  subst z
  unfold at? at h
  rw[e]at h
  cases h
 obtain⟨u,h1,h2⟩:=r.val j d e
 exact⟨u,by rw[vj ne];exact h1,h2⟩
def iJ{X:Cx}{k np:Nat}{tbl:Wp (Str×Fn)}{x h y:Str}{px ph ph2 py pr p1 p2 pc:Pos} i j(T:pf X.prog X.w X.K X.mg X.base x k np tbl)(hr:K0 k X.A)(ha:DEs X (e::es) fs)(hnp:fs.length=np)(hN:X.N.Nodup)(hg:xz (Gl X x) wp)(hi:xz (X.N[i]?=Gc h) wp)(hil:xz (X.env.scope.names.lookup h=Gc .local) wp)(hj:xz (X.N[j]?=Gc y) wp)(hv:xz (Vis X.env.scope y) wE)(hdx:xz ((x==("__debug__":Str))=false) ww)(hdy:xz ((y==("__debug__":Str))=false) ww)(hcy:xz ((y==("__classdict__":Str))=false) ww)(hdh:xz ((h==("__debug__":Str))=false) ww)(hch:xz ((h==("__classdict__":Str))=false) ww)(hs:xz (swapsWith (.Subscript (.Name x px) (.Name y py) p1) (Gc (.Name h ph)) p2.line X.env=pure false) wp)(hpl:xz (Pj (.Name y py)) wT)(he:xz (wD (e::es) X.env=(false,eval e X.env)::wD es X.env) wp)(hpa:xz ((backTo pc (wD es X.env)).any (·.1)=false) wp):DSs X [.Assign [.Name h ph] (.Subscript (.Name x px) (.Name y py) p1) p2,.Return (Gc (.Call (.Name h ph2) (e::es) [] pc)) pr] (ke tbl i j fs):=⟨by
 obtain⟨a,kvs,t1,t2,t3⟩:=T.ex
 refine QM (Tw (dC (i:=i) hN hi (.inl hil) (iG dR (P6 (v:=.ref a) hg t1 rfl hdx) (YC hj hv hdy hcy) hpl) hs (.inr hil)) (Wn (b0 (bh (k:=k) (i:=i) hi (.inl hil) hr ha.pe hdh hch he hpa)))) λDn σ H z=>?_
 obtain⟨M,E,S,fl,E',S',e,r,st,q⟩:=z
 unfold ke at e
 split at e
 .rename_i hnone
  rw[vn]at hnone
  have hlt:=v3 hnone.2
  have hnone:at? E i=none:=by simpa using hnone.1
  obtain⟨w,e1,e⟩:=Ag e
  split at e
  .rename_i p
   obtain⟨G,e2,e⟩:=Ag e
   obtain⟨⟨d4,S4⟩,e3,e⟩:=Jl e
   cases e
   obtain⟨v,hv1,hv2⟩:=r.val j _ (at?_some e1)
   cases hv2
   obtain⟨f,fd,ps,l1,l2,l3,l4⟩:=t3 p G e2
   refine⟨_,hv1,a,kvs,p,_,rfl,rfl,t2,l1,?_⟩
   have r1:=r.gC (v:=.ref f) hnone
   have hlen:i<σ.length:=by
    have:=r.len
    lia
   refine⟨f,spD X.K np G,vx hlen,⟨fd,ps,l2,l3,l4⟩,?_⟩
   exact Xg (σ:=σ.set i (Gc (.ref f))) hnp ⟨M,_,S,d4,S4,e3,r1,st,q⟩
  .cases e
 .cases e⟩
def jZ{kV doc pm cdv ct:vm}(X:K.In h)(G:h.Ns mainGlobals mg)(a:xn K mainGlobals x=Gc (Gc (.ref f)))(l:K.lookup f=Gc ⟨oc,od,.func (zb x x (LU st) (Dz st) (AE st) .none kV doc pm an cdv ct),osl⟩)(c:ABV K cdv x=true)(k:yE K (.ref f)=true):St.Src K mg x st:=
 ⟨f,_,j8 l c k,zN X G a⟩
def IsD(K:vZ)(u:vm)(d:D):Prop:=∃v,RelV v u/\∀M H,BQ K M H v d
def iC:IsD K (.int i t) (.int i):=⟨.int i,⟨t,rfl⟩,λ_ _=>.int i⟩
def iB:IsD K (.str x t) (.str x):=⟨.str x,⟨t,rfl⟩,λ_ _=>.str x⟩
def mK:IsD K (.bool b) (.bl b):=⟨.bl b,rfl,λ_ _=>.bl b⟩
def eW:IsD K .none .non:=⟨.non,rfl,λ_ _=>.non⟩
theorem U5:∀{us} {ds},Paired (λd u=>IsD K u d) ds us->∃xs,Vals xs us/\∀M H,Ae K M H xs ds
 |_,_,.nil=>⟨[],.nil,λ_ _=>.nil⟩
 |_,_,.cons h t=>by
  obtain⟨v,h1,h2⟩:=h
  obtain⟨xs,h3,h4⟩:=U5 t
  exact⟨v::xs,.cons h1 h3,λM H=>.cons (h2 M H) (h4 M H)⟩
def gQ(l:K.lookup a=Gc ⟨.type "tuple",od,.seq its.toArray n,osl⟩)(hz:its.length<=sizeLine)(r:Paired (λd u=>IsD K u d) ds its):IsD K (.ref a) (.tup ds):=by
 obtain⟨xs,h1,h2⟩:=U5 r
 exact⟨.ref a,rfl,λM H=>.tup (.inr ⟨_,its.toArray,n,l,rfl,rfl,by simpa using hz,by simpa using h1⟩) (h2 M H)⟩
def jr(X:K.In h)(G:h.Ns mainGlobals mg)(e:xn K mainGlobals x=Gc (Gc u))(r:IsD K u d):PV K mg x d:=by
 obtain⟨v,h1,h2⟩:=r
 exact⟨v,u,zN X G e,h1,h2⟩
theorem Xr:∀{tbl} {es},Paired (λp (e:AAE)=>(∃t,e.key=.str p.1 t)/\IsD K e.val p.2) tbl es->∃kvs,Paired (λp (e:AAE)=>(∃t,e.key=.str p.1 t)/\RelV p.2 e.val) kvs es/\∀k,(tbl.lookup k=none->kvs.lookup k=none)/\∀d,tbl.lookup k=Gc d->∃v,kvs.lookup k=Gc v/\∀M H,BQ K M H v d
 |_,_,.nil=>⟨[],.nil,λk=>⟨λ_=>rfl,λd e=>by cases e⟩⟩
 |(k0,d0)::tbl,_::es,.cons hh t=>by
  obtain⟨hk,v,h1,h2⟩:=hh
  obtain⟨kvs,h3,h4⟩:=Xr t
  refine⟨(k0,v)::kvs,.cons ⟨hk,h1⟩ h3,λk=>?_⟩
  rw[xS,xS]
  cases e:k==k0 with
  |true=>exact⟨λz=>(nomatch z),λd z=>by cases z;exact⟨v,rfl,h2⟩⟩
  |false=>exact h4 k
def gO(X:K.In h)(G:h.Ns mainGlobals mg)(e:xn K mainGlobals x=Gc (Gc (.ref a)))(l:K.lookup a=Gc ⟨.type "dict",none,.dict es.toArray n, #[]⟩)(hk:AA7 w.params es)(hne:(a==sysModules)=false)(hp:Paired (λp (e:AAE)=>(∃t,e.key=.str p.1 t)/\IsD K e.val p.2) tbl es):lF K w mg x tbl:=by
 obtain⟨kvs,h1,h2⟩:=Xr hp
 exact⟨a,kvs,zN X G e,cu l hk hne h1,h2⟩
structure nk(w:xy)(K:vZ)(mg:Str->vi vm)(x:Str)(ns:Wp (Str×Str)):Prop where
 ex:∃a kvs,mg x=Gc (.ref a)/\TopD K w a kvs/\Paired (λ(n:Str×Str) (q:Str×V)=>n.1=q.1/\∃f,q.2=.ref f/\mg n.2=Gc (.ref f)) ns kvs
theorem Qg(X:K.In h)(G:h.Ns mainGlobals mg):∀{ns:Wp (Str×Str)} {es},Paired (λn (e:AAE)=>(∃t,e.key=.str n.1 t)/\∃f,e.val=.ref f/\xn K mainGlobals n.2=Gc (Gc (.ref f))) ns es->∃kvs:Wp (Str×V),Paired (λp (e:AAE)=>(∃t,e.key=.str p.1 t)/\RelV p.2 e.val) kvs es/\Paired (λn q=>n.1=q.1/\∃f,q.2=.ref f/\mg n.2=Gc (.ref f)) ns kvs
 |_,_,.nil=>⟨[],.nil,.nil⟩
 |(k0,g0)::ns,_::es,.cons hh t=>by
  obtain⟨hk,f,h1,h2⟩:=hh
  obtain⟨kvs,h3,h4⟩:=Qg X G t
  exact⟨(k0,.ref f)::kvs,.cons ⟨hk,h1⟩ h3,.cons ⟨rfl,f,rfl,zN X G h2⟩ h4⟩
def fE(X:K.In h)(G:h.Ns mainGlobals mg)(e:xn K mainGlobals x=Gc (Gc (.ref a)))(l:K.lookup a=Gc ⟨.type "dict",none,.dict es.toArray n, #[]⟩)(hk:AA7 w.params es)(hne:(a==sysModules)=false)(hp:Paired (λn (e:AAE)=>(∃t,e.key=.str n.1 t)/\∃f,e.val=.ref f/\xn K mainGlobals n.2=Gc (Gc (.ref f))) ns es):nk w K mg x ns:=by
 obtain⟨kvs,h1,h2⟩:=Qg X G hp
 exact⟨a,kvs,zN X G e,cu l hk hne h1,h2⟩
def hU{k np:Nat}:∀{ns:Wp (Str×Str)} {kvs:Wp (Str×V)} {tbl},Paired (λn q=>n.1=q.1/\∃f,q.2=.ref f/\mg n.2=Gc (.ref f)) ns kvs->Paired (λn q=>n.1=q.1/\∃j ps,j<=k/\St.Dfn P w K mg base n.2 j ps (spD K np q.2)) ns tbl->∀p G,tbl.lookup p=Gc G->∃f fd ps,kvs.lookup p=Gc (.ref f)/\OO P w K mg base CX0 k f fd ps (spD K np G)/\yE K (.ref f)=true/\Binds K fd ps []:=by
 intro ns kvs tbl a
 induction a generalizing tbl with
 |nil=>intro b p G e;cases b;cases e
 |cons h1 t1 ih=>
  intro b p G e
  cases b with
  |cons h2 t2=>
  rename_i n0 q1 n1 l1 q2 l2
  obtain⟨k1,v1⟩:=q1
  obtain⟨k2,G2⟩:=q2
  obtain⟨e1,f,e2,e3⟩:=h1
  obtain⟨e4,j,ps,hj,hd⟩:=h2
  have e5:k1=k2:=e1.symm.trans e4
  subst e5
  rw[xS]at e⊢
  cases eq:p==k1 with
  |true=>
   rw[eq]at e
   cases e
   obtain⟨f',fd,m1,m2,m3,m4⟩:=hd.ex
   have:f'=f:=by
    have:=m1.symm.trans e3
    cases this;rfl
   subst this
   exact⟨f',fd,ps,by rw[show v1=.ref f' from e2],m4.mono hj,m2,m3⟩
  |false=>
   rw[eq]at e
   exact ih t2 p G e
def fT(T:nk w K mg x ns)(h:Paired (λn q=>n.1=q.1/\∃j ps,j<=k/\St.Dfn P w K mg base n.2 j ps (spD K np q.2)) ns tbl):pf P w K mg base x k np tbl:=by
 obtain⟨a,kvs,h1,h2,h3⟩:=T.ex
 exact⟨a,kvs,h1,h2,hU h3 h⟩
noncomputable def gn(K:vZ):Sp:=λvs H Q _=>∃(a:vy) (ns:Wp Int),vs=[.ref a]/\SqL K H a (ns.map V.int)/\ns.length<=63/\∀H',Q (.bl true) H'
def jM(Fk:OO P w K mg base CX0 k f fd [x] (spD K 1 F))(h:∀ns,ns.length<=63->∃S,F [.scr ns] []=Gc (.bl true,S)):OO P w K mg base CX0 k f fd [x] (gn K):=by
 refine Fk.imp λvs H Q E z=>?_
 obtain⟨a,ns,rfl,hs,hl,q⟩:=z
 obtain⟨S,e⟩:=h ns hl
 refine⟨Ms.no,[.scr ns],[],_,S,rfl,e,.cons (.scr ?_) .nil,⟨λa z=>absurd z Ms.dO,List.nodup_nil,λa z=>(nomatch z),rfl,λn a c z=>by simp[Ms.no]at z⟩,λv H' M' g st r=>?_⟩
 .rcases hs with hs|hs
  .exact .inl ⟨hs,Ms.dO⟩
  .exact .inr hs
 .cases r
  exact q H'
def Tb(old:vy->Prop)(H:Hp)(h:xZ)(e:vy)(v:vm):Prop:=
 v=.none\/∃T oT ts,v=.ref T/\T≠e/\h.get? T=Gc oT/\oT.data=.fields ts/\ts[3]?=Gc .none/\H T=none/\¬old T
structure Fly(old:vy->Prop)(H:Hp)(h:xZ)(e C:vy)(od:vi vy):Prop where
 free:H e=none
 new:¬old e
 ex:∃oe vs a0 v,h.get? e=Gc oe/\oe.cls=.ref C/\oe.data=.fields vs/\vs[0]?=Gc a0/\vs[1]?=Gc v/\Tb old H h e v/\∀dx,od=Gc dx->oe.dict=Gc dx
def Fly.imp(f:Fly old H h e C od)(m:∀b,old' b->old b):Fly old' H h e C od:=by
 obtain⟨oe,vs,a0,v,h1,h2,h3,h4,h5,t,hd⟩:=f.ex
 refine⟨f.free,λz=>f.new (m _ z),oe,vs,a0,v,h1,h2,h3,h4,h5,?_,hd⟩
 rcases t with t|⟨T,oT,ts,t1,t2,t3,t4,t5,t6,t7⟩
 .exact .inl t
 .exact .inr ⟨T,oT,ts,t1,t2,t3,t4,t5,t6,λz=>t7 (m _ z)⟩
structure l8(old:vy->Prop)(H:Hp)(h:xZ)(e C:vy)(od:vi vy):Prop where
 free:H e=none
 new:¬old e
 ex:∃oe vs a0 T oT ts,h.get? e=Gc oe/\oe.cls=.ref C/\oe.data=.fields vs/\vs[0]?=Gc a0/\vs[1]?=Gc (.ref T)/\(T≠e/\h.get? T=Gc oT/\oT.data=.fields ts/\ts[3]?=Gc .none/\H T=none/\¬old T)/\∀dx,od=Gc dx->oe.dict=Gc dx
def l8.fly(f:l8 old H h e C od):Fly old H h e C od:=by
 obtain⟨oe,vs,a0,T,oT,ts,h1,h2,h3,h4,h5,r,hd⟩:=f.ex
 exact⟨f.free,f.new,oe,vs,a0,.ref T,h1,h2,h3,h4,h5,.inr ⟨T,oT,ts,rfl,r⟩,hd⟩
structure Trn(X:Cx)(old:vy->Prop)(H:Hp)(h h':xZ)(e C:vy)(od:vi vy):Prop where
 keep:∀b o,h.get? b=Gc o->b∉frs X.stack->(H b≠none\/old b\/∀vs,o.data≠.fields vs)->h'.get? b=Gc o
 slot:∀b o,h.get? b=Gc o->(∀vs,o.data≠.fields vs)->∃sl,h'.get? b=Gc {o with slots:=sl}
 fly:l8 old H h' e C od
def EO.there(x:EO P w H h a o):∃ob,h.get? a=Gc ob:=by
 cases o with
 |lst xs=>obtain⟨_,_,_,_,e⟩:=x;exact⟨_,e⟩
 |tup xs=>obtain⟨_,_,_,ob,e,_⟩:=x;exact⟨_,e⟩
 |dK kvs=>obtain⟨_,_,_,_,o,_,_,e,_⟩:=x;exact⟨_,e⟩
 |dT kvs=>obtain⟨_,_,_,_,o,_,_,e,_⟩:=x;exact⟨_,e⟩
 |set S n=>obtain⟨o,_,_,_,e,_⟩:=x;exact⟨_,e⟩
 |ins C dx fs=>obtain⟨_,_,_,e,_⟩:=x;exact⟨_,e⟩
 |own y=>obtain⟨_,e⟩:=x;exact⟨_,e⟩
 |xd fs=>obtain⟨_,⟨_,_,_,e,_⟩,_⟩:=x;exact⟨_,e⟩
 |rng lo hi=>obtain⟨_,_,_,e⟩:=x;exact⟨_,e⟩
 |frz ob u=>obtain⟨e,_⟩:=x;exact⟨_,e⟩
 |tbl ps=>exact⟨_,(show h.get? a=Gc _ from x)⟩
 |met f y=>exact⟨_,(show h.get? a=Gc _ from x)⟩
 |ext φ=>obtain⟨_,⟨_,e⟩,_⟩:=x;exact⟨_,e⟩
section
variable{X:Cx}{pins:Wp (vy×Obj)}{σ:St}{H:Hp}{s:vw}{old:vy->Prop}{e C:vy}{od:vi vy}{Q:Unit->vw->Prop}{E:vm->vw->Prop}{A:yt}
def XZ{h:xZ}(ha:h.get? a=Gc oa)(hd:oa.data=.fields vs)(hb:h.get? b=Gc o)(n:∀vs,o.data≠.fields vs):b≠a:=λz=>by
 rw[z,ha]at hb
 cases hb
 exact n _ hd
def er{h:xZ}(ha:h.get? a=Gc oa)(hd:oa.data=.fields vs)(fr:H a=none)(nw:¬old a)(hb:h.get? b=Gc o)(k:H b≠none\/old b\/∀vs,o.data≠.fields vs):b≠a:=λz=>by
 subst z
 rcases k with k|k|k
 .exact k fr
 .exact nw k
 .exact XZ ha hd hb k rfl
def T8{ts:AAn vm}(h:ts[i]?=Gc v):ts.setIfInBounds i v=ts:=by
 apply Array.ext (by simp)
 intro j h1 h2
 rw[Array.getElem_setIfInBounds]
 split
 .rename_i z
  subst z
  obtain⟨_,q⟩:=yz.mp h
  exact q.symm
 .rfl
def Q0(I:Inv X pins σ H s)(hA:A.frames=Gc X.stack)(hst:X.stack=X.env::X.outer)(hf:X.env.frame=Gc X.env.locals)(free:H e=none)(new:¬old e)(ho:∀b,old b->s.heap.get? b≠none)(he:s.heap.get? e=Gc oe)(hc:oe.cls=.ref C)(hd:oe.data=.fields vs)(h0:vs[0]?=Gc a0)(hz:1<vs.size)(hdx:∀dx,od=Gc dx->oe.dict=Gc dx)(hQ:∀h',Trn X old H s.heap h' e C od->Q () {s with heap:=h'}):wpAny M A (do let a<-frameOf X.env;let pl<-entryPlaceOf X.env.locals hadNext;let b<-ADH head a .none (rawInt X.env.locals) .none pl;setField (.ref e) 1 b) (λ_ s2=>wpAny M A (setFlight (.ref e) none) Q E s2) E s:=by
 have st:=I.stack
 have ef:e∉frs X.stack:=λm=>by
  obtain⟨_,o,q,n⟩:=st.mem m
  exact XZ he hd q n rfl
 have hfr:A.frames=Gc (X.env::X.outer):=by rw[hA,hst]
 rw[hst]at st
 refine vb (wpAny_frameOf_fun hfr st hf λh1 hs=>?_)
 obtain⟨sz,out,sl⟩:=hs
 refine vb (wpAny_entryPlaceOf λpl hpl=>?_)
 unfold ADH newFields
 refine vb (yi ?_ (hpl.sizeOk5 _ _ _ _ _))
 generalize hob:({cls:=.type "traceback",data:=.fields ([head,.ref X.env.locals,.none,rawInt X.env.locals,.none]++(if pl.isEmpty then wB 6 xA else pl)).toArray}:Obj)=tb
 have ef':e∉(X.env::X.outer).filterMap (·.frame):=by rw[<-hst];exact ef
 have e1:h1.get? e=Gc oe:=(out e ef').trans he
 have e2:(h1.push tb).get? e=Gc oe:=vc _ e1
 refine z9 e2 hd hz ?_
 have Te:h1.objs.size≠e:=ABG (vz e1)
 have d3:=yw hd (·.setIfInBounds 1 (w9 h1.objs.size))
 have e3:=yW (xr (·.setIfInBounds 1 (w9 h1.objs.size))) e2 (yX d3)
 have tbd:∃ts:AAn vm,tb.data=.fields ts/\3<ts.size:=⟨_,by rw[<-hob],by simp only[vv,wc,xT,AAS]<;>lia⟩
 obtain⟨ts,td,tz⟩:=tbd
 have T3:((h1.push tb).update e (xr (·.setIfInBounds 1 (w9 h1.objs.size)))).get? h1.objs.size=Gc tb:=(xj _ _ Te.symm).trans (wI h1 (yX td))
 unfold setFlight
 refine vb (yA e3 d3 (x:=.ref h1.objs.size) (by simp[hz]) ?_)
 rw[wU (show(w9 h1.objs.size !=xA)=true from by simp)]
 refine z9 T3 td tz (hQ _ ?_)
 have T4:=yW (xr (·.setIfInBounds 3 ((none:vi vy).elim xA λf=>rawInt f))) T3 (yX (yw td _))
 have all:∀b o,b≠e->h1.get? b=Gc o->(((h1.push tb).update e (xr (·.setIfInBounds 1 (w9 h1.objs.size)))).update h1.objs.size (xr (·.setIfInBounds 3 ((none:vi vy).elim xA λf=>rawInt f)))).get? b=Gc o:=λb o n q=>by
  rw[xj _ _ (ABG (vz q)),xj _ _ (xv n)]
  exact vc _ q
 have Tn:s.heap.get? h1.objs.size=none:=by
  cases q:s.heap.get? h1.objs.size with
  |none=>rfl
  |some o=>
   obtain⟨sl',z⟩:=sl _ o q
   exact absurd (vz z) (yD _)
 refine⟨λb o q nf k=>all b o (er he hd free new q k) ((out b (by rw[<-hst];exact nf)).trans q),λb o q n=>?_,free,new,_,_,a0,h1.objs.size,_,_,(xj _ _ Te).trans e3,(Obj.cls_mapFields _ _).trans hc,d3,by rw[Array.getElem?_setIfInBounds_ne (by decide)];exact h0,by simp[hz],⟨Te,T4,yw td _,by simp[tz],?_,λz=>ho _ z Tn⟩,λdx z=>?_⟩
 .obtain⟨sl',z⟩:=sl b o q
  exact⟨sl',all b _ (XZ he hd q n) z⟩
 .cases q:H h1.objs.size with
  |none=>rfl
  |some o=>
   obtain⟨ob,z⟩:=EO.there (I.hok _ o q)
   rw[Tn]at z;cases z
 .rw[<-hdx dx z]
  obtain⟨c,dd,da,sl⟩:=oe
  cases da<;>first|rfl|(simp[xr];done)
def UL(I:Inv X pins σ H s)(hA:A.frames=Gc X.stack)(hst:X.stack=X.env::X.outer)(hf:X.env.frame=Gc X.env.locals)(f:Fly old H s.heap e C od)(ho:∀b,old b->s.heap.get? b≠none)(hQ:∀h',Trn X old H s.heap h' e C od->Q () {s with heap:=h'}):wpAny M A (noteFrame (.ref e) X.env) (λ_ s2=>wpAny M A (setFlight (.ref e) none) Q E s2) E s:=by
 obtain⟨oe,vs,a0,v,h1,h2,h3,h4,h5,t,hd⟩:=f.ex
 have hz:=(yz.mp h5).1
 unfold noteFrame
 simp only[hf]
 refine vb (yA h1 h3 h5 ?_)
 rcases t with t|⟨T,oT,ts,t1,t2,t3,t4,t5,t6,t7⟩
 .subst t
  rw[wy (by decide)]
  exact Q0 I hA hst hf f.free f.new ho h1 h2 h3 h4 hz hd hQ
 .subst t1
  rw[wU (show(w9 T !=xA)=true from by simp)]
  refine vb (yA t3 t4 t5 ?_)
  rw[wy (show¬((xA==rawInt X.env.locals)=true)from by simp[rawInt])]
  refine vb (z9 t3 t4 (yz.mp t5).1 ?_)
  have oth:∀b,b≠T->(s.heap.update T (xr (·.setIfInBounds 3 xA))).get? b=s.heap.get? b:=λb n=>xj _ _ (xv n)
  have sm:=T8 t5
  have up:(s.heap.update T (xr (·.setIfInBounds 3 xA))).get? T=Gc oT:=by
   rw[yW _ t3 (yX (yw t4 _))]
   obtain⟨c,dd,da,sl⟩:=oT
   cases t4
   show Gc ({cls:=c,dict:=dd,data:=.fields (ts.setIfInBounds 3 .none),slots:=sl}:Obj)=_
   rw[sm]
  have same:∀b,(s.heap.update T (xr (·.setIfInBounds 3 xA))).get? b=s.heap.get? b:=λb=>by
   by_cases z:b=T
   .rw[z,up,t3]
   .exact oth b z
  have I':Inv X pins σ H {s with heap:=s.heap.update T (xr (·.setIfInBounds 3 xA))}:=I.kept (t':=s.toks) λb u q=>(same b).trans q
  refine Q0 (s:={s with heap:=s.heap.update T (xr (·.setIfInBounds 3 xA))}) I' hA hst hf f.free f.new (λb z q=>ho b z ((same b).symm.trans q)) ((same e).trans h1) h2 h3 h4 hz hd λh' t=>hQ h' ⟨λb o q=>t.keep b o ((same b).trans q),λb o q=>t.slot b o ((same b).trans q),t.fly⟩
def W0(I:Inv X pins σ H s)(f:l8 old H s.heap e C od)(hQ:∀h',Trn X old H s.heap h' e C od->Q () {s with heap:=h'}):wpAny M A (setFlight (.ref e) none) Q E s:=by
 obtain⟨oe,vs,a0,T,oT,ts,h1,h2,h3,h4,h5,⟨t2,t3,t4,t5,t6,t7⟩,hd⟩:=f.ex
 unfold setFlight
 refine vb (yA h1 h3 h5 ?_)
 rw[wU (show(w9 T !=xA)=true from by simp)]
 refine z9 t3 t4 (yz.mp t5).1 (hQ _ ?_)
 have up:(s.heap.update T (xr (·.setIfInBounds 3 ((none:vi vy).elim xA λf=>rawInt f)))).get? T=Gc oT:=by
  rw[yW _ t3 (yX (yw t4 _))]
  obtain⟨c,dd,da,sl⟩:=oT
  cases t4
  show Gc ({cls:=c,dict:=dd,data:=.fields (ts.setIfInBounds 3 .none),slots:=sl}:Obj)=_
  rw[T8 t5]
 have same:∀b,(s.heap.update T (xr (·.setIfInBounds 3 ((none:vi vy).elim xA λf=>rawInt f)))).get? b=s.heap.get? b:=λb=>by
  by_cases z:b=T
  .rw[z,up,t3]
  .exact xj _ _ (xv z)
 exact⟨λb o q _ _=>(same b).trans q,λb o q _=>⟨o.slots,(same b).trans q⟩,f.free,f.new,oe,vs,a0,T,oT,ts,(same e).trans h1,h2,h3,h4,h5,⟨t2,up,t4,t5,t6,t7⟩,hd⟩
end
def iw(X:Cx)(pins:Wp (vy×Obj))(b:vy):Prop:=X.s₀.heap.get? b≠none\/∃p∈X.pn++pins,p.1=b
section
variable{X:Cx}{pins:Wp (vy×Obj)}{σ:St}{H:Hp}{s:vw}{old:vy->Prop}{e C:vy}{od:vi vy}{h':xZ}
def Wy(hst:X.stack=X.env::X.outer)(hf:X.env.frame=Gc X.env.locals):frs X.stack=X.env.locals::X.fs:=by
 rw[hst];unfold frs Cx.fs frs;rw[wm,hf]
def Ks(I:Inv X pins σ H s)(hx:X.ex=[]):∀b,iw X pins b->s.heap.get? b≠none:=λb z=>by
 rcases z with z|⟨p,m,rfl⟩
 .cases q:X.s₀.heap.get? b with
  |none=>exact absurd q z
  |some o=>
   obtain⟨o',e'⟩:=I.base.there b o q (by rw[hx];exact λz=>nomatch z)
   rw[e'];exact λz=>nomatch z
 .rw[(I.pin p m).1];exact λz=>nomatch z
def YH(I:Inv X pins σ H s)(t:Trn X old H s.heap h' e C od):HOk X.prog X.w H h':=λa o q=>by
 refine(I.hok a o q).Zw (λb u hb e1=>?_) (λ_ z=>z) λ_ _ z=>z
 have hn:H b≠none:=by
  rcases hb with z|z
  .subst z;rw[q];exact λz=>nomatch z
  .rw[z];exact λz=>nomatch z
 exact t.keep b u e1 (λz=>hn (I.Tp b z)) (.inl hn)
def cG(I:Inv X pins σ H s)(hst:X.stack=X.env::X.outer)(hf:X.env.frame=Gc X.env.locals)(hx:X.ex=[])(t:Trn X (iw X pins) H s.heap h' e C od):Un X.fs X.ex X.H₀ H X.s₀.heap h':=by
 have hs:=Wy hst hf
 have nL:∀b o,X.s₀.heap.get? b=Gc o->b≠X.env.locals:=λb o e1=>wZ (vd (vz e1) I.ok.above)
 have od:∀b o,X.s₀.heap.get? b=Gc o->iw X pins b:=λb o e1=>.inl (by rw[e1];exact λz=>nomatch z)
 have fd:∀b o,b∈X.fs->X.s₀.heap.get? b=Gc o->∀vs,o.data≠.fields vs:=λb o hb e1 vs=>by
  obtain⟨_,o',e2,q⟩:=I.ok.VO.mem hb
  rw[e1]at e2;cases e2
  exact q vs
 refine⟨λb o e1 n hb hx'=>?_,λb o e1 n hb hx'=>?_,I.base.free,λb o e1 hx'=>?_,I.base.ae,I.base.ZK,I.base.Zg⟩
 .refine t.keep b o (I.base.keep b o e1 n hb hx') (λz=>?_) (.inr (.inl (od b o e1)))
  rw[hs]at z
  exact(ve.mp z).elim (nL b o e1) hb
 .obtain⟨sl,q⟩:=I.base.slot b o e1 n hb hx'
  obtain⟨sl',q'⟩:=t.slot b _ q (fd b o hb e1)
  exact⟨sl',q'⟩
 .obtain⟨o',q⟩:=I.base.there b o e1 hx'
  by_cases hb:b∈frs X.stack
  .obtain⟨_,o2,q2,d⟩:=I.stack.mem hb
   obtain⟨sl,z⟩:=t.slot b o2 q2 d
   exact⟨_,z⟩
  .exact⟨o',t.keep b o' q hb (.inr (.inl (od b o e1)))⟩
def X3(I:Inv X pins σ H s)(hst:X.stack=X.env::X.outer)(hf:X.env.frame=Gc X.env.locals)(hx:X.ex=[])(t:Trn X (iw X pins) H s.heap h' e C od):Inv X pins σ H {s with heap:=h'}:=by
 have hs:=Wy hst hf
 have cl:∀c v,s.heap.IsCell c v->h'.IsCell c v:=λc v ⟨o,ho,hd⟩=>by
  obtain⟨sl,q⟩:=t.slot c o ho λvs z=>by rw[hd]at z;cases z
  exact⟨_,q,hd⟩
 refine⟨I.ok,I.os,I.bare,cG I hst hf hx t,?_,λx c e1=>?_,I.free,I.Lv,λp m=>?_,YH I t,I.len⟩
 .obtain⟨m,hn,hl⟩:=I.loc
  refine⟨m,Heap.UpToSlots.ns (λb o e1 e2=>t.slot b o e1 e2) hn,λi x v e1 e2 e3=>?_⟩
  obtain⟨u,r,l⟩:=hl i x v e1 e2 e3
  refine⟨u,r,?_⟩
  rcases l with l|⟨k,c,e4,z⟩
  .exact .inl l
  .exact .inr ⟨k,c,e4,cl c _ z⟩
 .obtain⟨v,z⟩:=I.cell x c e1
  exact⟨v,cl c v z⟩
 .obtain⟨p1,p2,p3,p4,p5⟩:=I.pin p m
  refine⟨t.keep _ _ p1 (λz=>?_) (.inr (.inl (.inr ⟨p,m,rfl⟩))),p2,p3,p4,p5⟩
  rw[hs]at z
  exact(ve.mp z).elim p3 p4
end
abbrev Rk:=vy->vi vy->St->Hp->Prop
abbrev TR:=St->Hp->Rk->Prop
inductive XP(X:Cx)(pins:Wp (vy×Obj))(Z:Rk)(ev:vm)(s':vw):Prop
 |mk (e C:vy) (od:vi vy) (σ':Sg) (H':Hp) (h:ev=.ref e) (I:Inv X pins σ' H' s') (z:Z C od σ' H') (fl:Fly (iw X pins) H' s'.heap e C od)
def PX(X:Cx)(st:wV)(t:TR):Prop:=∀(pins:Wp (vy×Obj)) (s:vw) (σ:St) (H:Hp) (Z:Rk),Inv X pins σ H s->t σ H Z->wpAny (model X.prog X.w) X.A (exec st X.env) (λ_ _=>yV) (XP X pins Z) s
def PXs(X:Cx)(sts:Wp wV)(t:TR):Prop:=∀(pins:Wp (vy×Obj)) (s:vw) (σ:St) (H:Hp) (Z:Rk),Inv X pins σ H s->t σ H Z->wpAny (model X.prog X.w) X.A (execs sts X.env) (λ_ _=>yV) (XP X pins Z) s
def PXe(X:Cx)(e:xM)(t:TR):Prop:=∀(pins:Wp (vy×Obj)) (s:vw) (σ:St) (H:Hp) (Z:Rk),Inv X pins σ H s->t σ H Z->wpAny (model X.prog X.w) X.A (eval e X.env) (λ_ _=>yV) (XP X pins Z) s
noncomputable def CXr(P:xK)(w:xy):CXT:=λouter H s E ev s'=>∃e C od H',ev=.ref e/\s'.os=s.os/\AAY s'.gens/\Un (frs outer) [] H H' s.heap s'.heap/\HOk P w H' s'.heap/\Fly (λb=>s.heap.get? b≠none) H' s'.heap e C od/\E (.ref C) od H'
def aE(h:XP (TK (CXr P w) P w K mg base N qual scope f cd A outer s H E).nox pins Z ev s')(hZ:∀C od σ' H',Z C od σ' H'->E (.ref C) od H'):(TK (CXr P w) P w K mg base N qual scope f cd A outer s H E).xe ev s':=by
 obtain⟨e,C,od,σ',H',rfl,I,z,fl⟩:=h
 show wpAny _ _ (leaving _ (.ref e)) _ _ s'
 unfold leaving
 refine vb (UL I I.ok.frames rfl rfl fl (Ks I rfl) λh' t=>?_)
 exact⟨e,C,od,H',rfl,I.os,I.bare,cG I rfl rfl rfl t,YH I t,t.fly.fly.imp λb z=>.inl z,hZ _ _ _ _ z⟩
structure Tg where
 nm:Str
 pay:vi Int
instance:Coe Str Tg:=⟨λx=>⟨x,none⟩⟩
def nB(mg:Str->vi vm)(x:Tg)(C:vy)(od:vi vy)(H:Hp):Prop:=mg x.nm=Gc (.ref C)/\∀n,x.pay=Gc n->∃dx,od=Gc dx/\H dx=Gc (.xd [("at",.int n)])
abbrev Rx:=En->Sto->vi (Tg×En×Sto)
abbrev Rf:=Wp D->Sto->vi (Tg×Sto)
inductive tR(K:vZ)(mg:Str->vi vm)(r:Rx)(σ:Sg)(H:Hp)(Z:Rk):Prop
 |mk (M:Ms) (E:En) (S:Sto) (x:Tg) (E':En) (S':Sto) (e:r E S=Gc (x,E',S')) (rr:EnR K M E σ H) (st:StR K M S H) (q:∀C od σ' H' M',nB mg x C od H'->Gr M H M' H'->EnR K M' E' σ' H'->StR K M' S' H'->Z C od σ' H')
structure RS(X:Cx)(st:wV)(r:Rx):Prop where
 pe:PX X st (tR X.K X.mg r)
structure RSs(X:Cx)(st:Wp wV)(r:Rx):Prop where
 pe:PXs X st (tR X.K X.mg r)
structure RE(X:Cx)(e:xM)(r:Rx):Prop where
 pe:PXe X e (tR X.K X.mg r)
inductive spR(K:vZ)(mg:Str->vi vm)(np:Nat)(R:Rf)(vs:Wp V)(H:Hp)(Q:VK)(E:XK):Prop
 |mk (M:Ms) (ds:Wp D) (S:Sto) (x:Tg) (S':Sto) (l:ds.length=np) (e:R ds S=Gc (x,S')) (r:Ae K M H vs ds) (st:StR K M S H) (q:∀C od H' M',nB mg x C od H'->Gr M H M' H'->StR K M' S' H'->E (.ref C) od H')
noncomputable def bU(N:Nat)(r:Rx):Rf:=λds S=>(r (ds.map Gc++wB (N-ds.length) none) S).map λq=>(q.1,q.2.2)
structure oR(P:xK)(w:xy)(K:vZ)(mg:Str->vi vm)(base:xZ)(x:Str)(k:Nat)(ps:Wp Str)(sp:Sp):Prop where
 ex:∃f fd,mg x=Gc (.ref f)/\yE K (.ref f)=true/\Binds K fd ps []/\OO P w K mg base (CXr P w) k f fd ps sp
section
variable{P:xK}{w:xy}{K:vZ}{mg:Str->vi vm}{base:xZ}
def jw(Fu:Fun K x x st f fd)(S:Ak N ps (AE st))(hp:ps.length=np)(hb:∀cdv A outer s H E,K0 k (A.deeper (xR x (AE st) s.heap.objs.size f cdv))->RSs (TK CX0 P w K mg base N x (AE st) f cdv A outer s H E).nox (Dz st) r):OO P w K mg base (CXr P w) (k+1) f fd ps (spR K mg np (AR (bU N.length r))):=by
 rw[QX]
 obtain⟨oc,od,kV,doc,pm,an,cdv,ct,osl,rfl,lk,hcd⟩:=Fu.ex
 refine mE lk hcd S (λvs H Q E h=>?_) λA outer s H vs Q E hr h=>?_
 .obtain⟨M,ds,S0,d,S',hl,_,r,_⟩:=h
  have:=r.length
  lia
 .obtain⟨M,ds,S0,y,S',hl,e,rr,st,q⟩:=h
  have hlen:=rr.length
  refine⟨λ_ σ H=>tR K mg r σ H λC od _ H'=>E (.ref C) od H',λpins s1 σ1 H1 D I h=>?_,?_⟩
  .exact yu ((hb cdv A outer s H E hr).pe pins s1 σ1 H1 _ (I.WW _) h) (λ_ _ z=>z.elim) λev s' z=>aE z λ_ _ _ _ z=>z
  .obtain⟨⟨y',E',S1⟩,e1,e⟩:=Jl e
   cases e
   refine⟨M,_,S0,y',E',S1,e1,?_,st,λC od σ' H' M' hm g _ st'=>q C od H' M' hm g st'⟩
   rw[show L2.start N vs=vs.map Gc++wB (N.length-ds.length) none from by unfold L2.start;rw[hlen]]
   exact .args rr _
def iI(S:St.Src K mg x st)(sc:Ak N ps (AE st))(hp:ps.length=np)(hbi:∀f fd,Fun K x x st f fd->Binds K fd ps [])(hb:∀f cdv A outer s H E,K0 k (A.deeper (xR x (AE st) s.heap.objs.size f cdv))->RSs (TK CX0 P w K mg base N x (AE st) f cdv A outer s H E).nox (Dz st) r):oR P w K mg base x (k+1) ps (spR K mg np (AR (bU N.length r))):=by
 obtain⟨f,fd,Fu,hm⟩:=S.ex
 exact⟨f,fd,hm,Fu.kp,hbi f fd Fu,jw Fu sc hp λcdv A outer s H E hr=>hb f cdv A outer s H E hr⟩
end
def KQ{X:Cx}{α:Type}{t:Sem α}{Q Q':α->vw->Prop}(hn:X.xe=λ_ _=>yV)(h:wpAny M A t Q X.xe s)(hQ:∀a s,Q a s->Q' a s):wpAny M A t Q' E s:=
 yu h hQ λ_ _ z=>by rw[hn]at z;exact z.elim
noncomputable def RK(R:Rf)(fs:Wp Ev):Rx:=λE S=>(evs fs E S).bind λq=>(R q.1 q.2).map λz=>(z.1,E,z.2)
def eO{X:Cx}{k np:Nat}{x:Str}{ps:Wp Str}{p pos:Pos}(d:oR X.prog X.w X.K X.mg X.base x k ps (spR X.K X.mg np R))(hr:K0 k X.A)(hg:Gl X x)(ha:DEs X (e::es) fs)(hn:xz (fs.length=np) wp)(hxe:xz (X.xe=λ_ _=>yV) wp)(hx:xz (X.ex=[]) wp)(hdb:xz ((x==("__debug__":Str))=false) ww)(he:xz (wD (e::es) X.env=(false,eval e X.env)::wD es X.env) wp)(hpl:xz ((backTo pos (wD es X.env)).any (·.1)=false) wp):RE X (.Call (.Name x p) (e::es) [] pos) (RK R fs):=⟨by
 intro pins s σ H Z I h
 obtain⟨f,fd,hm,hk,hb,F⟩:=d.ex
 obtain⟨M,E,S,y,E',S',e0,r,st,q⟩:=h
 obtain⟨⟨ds,S1⟩,e1,e2⟩:=Ag e0
 obtain⟨⟨y',S2⟩,e3,e4⟩:=Jl e2
 cases e4
 refine zZ (Pb I hg hm ?_ hdb)
 have ha':=ha.pe pos pins s σ H (λvs H1=>∃M1,Gr M H M1 H1/\StR X.K M1 S1 H1/\Ae X.K M1 H1 vs ds) I (HM e1 r st λvs H1 M1 g1 st1 r1=>⟨M1,g1,st1,r1⟩)
 refine ABU (h₀:=X.base) I.ok.mod.kin hk (KQ hxe ha' λus s1 ⟨vs,H1,I1,rv,M1,g1,st1,r1⟩=>⟨I1.kIn,?_⟩) he hpl
 have sp:spR X.K X.mg np R vs H1 (λ_ _=>yV) (λv od H'=>∃C,v=.ref C/\Z C od σ H'):=
  ⟨M1,ds,S1,y',S2,by rw[N9 e1];exact hn,e3,r1,st1,λC od H' M' hc g2 st2=>⟨C,rfl,q C od σ H' M' hc (g1.trans g2) ((r.step g1.st).step g2.st) st2⟩⟩
 have hl:(us++[]).length=ps.length:=by rw[yJ,<-rv.length];exact F.len _ _ _ _ sp
 have hbs:=hb s1 us I1.kIn hl
 rw[yJ]at hbs
 refine wpAny_call (ACH (F.run X.A X.stack s1 H1 ⟨us,[]⟩ us vs _ _ hr I1.rJ hbs rv sp) λrs s' hq=>?_)
 cases rs with
 |error ev=>
  obtain⟨e,C,od,H',rfl,os,bare,un,hok,fly,C',hC,z⟩:=hq
  cases hC
  exact⟨e,C,od,σ,H',rfl,I1.mP os un hok bare (λb z=>nomatch z),z,fly.imp λb z=>Ks I1 hx b z⟩
 |ok fl=>
  cases fl with
  |ret u=>
   obtain⟨v,H',_,_,_,_,_,q⟩:=hq
   exact q.elim
  |next=>exact yk hq
  |brk=>exact yk hq
  |cont=>exact yk hq⟩
section
variable{X:Cx}{st:wV}{rest a b:Wp wV}{f g:Ex}{r r1 r2:Rx}{c e:xM}{k:Ev}{pos:Pos}
def ku(h:RE X e r):RS X (.Return (Gc e) pos) r:=⟨λpins s σ H Z I q=>wpAny_Return_some (yu (h.pe pins s σ H Z I q) (λ_ _ z=>z) λ_ _ z=>z)⟩
noncomputable def rNo:Rx:=λ_ _=>none
def tT:RS X st rNo:=⟨λ_ _ _ _ _ _ z=>by
 obtain⟨M,E,S,x,E',S',e,_⟩:=z
 cases e⟩
def sH:RSs X rest rNo:=⟨λ_ _ _ _ _ _ z=>by
 obtain⟨M,E,S,x,E',S',e,_⟩:=z
 cases e⟩
noncomputable def Zr(r:Rx)(f:Ex)(r2:Rx):Rx:=λE S=>match r E S with
 |some z=>Gc z
 |none=>(f E S).bind λq=>match q.1 with
  | .nx=>r2 q.2.1 q.2.2
  | .ret _=>none
def nX(h1:RS X st r)(hb:DS X st f)(h2:RSs X rest r2)(hxe:xz (X.xe=λ_ _=>yV) wp):RSs X (st::rest) (Zr r f r2):=⟨λpins s σ H Z I z=>by
 obtain⟨M,E,S,x,E',S',e,rr,ss,q⟩:=z
 unfold Zr at e
 split at e
 .rename_i z' e1
  cases e
  refine AAD (yu (h1.pe pins s σ H Z I ⟨M,E,S,x,E',S',e1,rr,ss,q⟩) (λ_ _ z=>z.elim) λ_ _ z=>z)
 .obtain⟨⟨fl,E1,S1⟩,e1,e⟩:=Ag e
  dsimp only at e
  split at e
  .refine AAD (KQ hxe (hb.pe pins s σ H {nx:=λσ' H'=>tR X.K X.mg r2 σ' H' Z,rt:=λ_ _=>yV} I ⟨M,E,S,.nx,E1,S1,e1,rr,ss,λσ' H' M' g' r' st'=>⟨M',E1,S1,x,E',S',e,r',st',λC od σ2 H2 M2 hm g2=>q C od σ2 H2 M2 hm (g'.trans g2)⟩⟩) λfl s1 w=>?_)
   cases fl with
   |next=>
    obtain⟨σ',H',I',q'⟩:=w
    exact h2.pe pins s1 σ' H' Z I' q'
   |ret v=>obtain⟨_,_,_,_,_,q'⟩:=w;exact q'.elim
   |brk=>obtain⟨_,_,_,q'⟩:=w;exact q'.elim
   |cont=>obtain⟨_,_,_,q'⟩:=w;exact q'.elim
  .cases e⟩
def g9(h1:RS X st r):RSs X [st] r:=⟨λpins s σ H Z I z=>AAD (yu (h1.pe pins s σ H Z I z) (λ_ _ z=>z.elim) λ_ _ z=>z)⟩
noncomputable def rIf(k:Ev)(r1 r2:Rx):Rx:=λE S=>(k E S).bind λq=>match q.1 with
 | .bl true=>r1 E q.2
 | .bl false=>r2 E q.2
 |_=>none
def uy(hc:DT X c k)(ha:RSs X a r1)(hb:RSs X b r2)(hxe:xz (X.xe=λ_ _=>yV) wp):RS X (.If c a b pos) (rIf k r1 r2):=⟨λpins s σ H Z I z=>by
 obtain⟨M,E,S,x,E',S',e,rr,ss,q⟩:=z
 obtain⟨⟨w1,S1⟩,e1,e⟩:=Ag e
 dsimp only at e
 split at e
 .refine wpAny_If (KQ hxe (hc.pe pins s σ H (λd H1=>d=true/\tR X.K X.mg r1 σ H1 Z) I ⟨M,E,S,_,S1,e1,rr,ss,λH1 M1 g1 st1=>⟨rfl,M1,E,S1,x,E',S',e,rr.step g1.st,st1,λC od σ2 H2 M2 hm g2=>q C od σ2 H2 M2 hm (g1.trans g2)⟩⟩) λd s1 w=>?_)
  obtain⟨H1,I1,rfl,q1⟩:=w
  exact ha.pe pins s1 σ H1 Z I1 q1
 .refine wpAny_If (KQ hxe (hc.pe pins s σ H (λd H1=>d=false/\tR X.K X.mg r2 σ H1 Z) I ⟨M,E,S,_,S1,e1,rr,ss,λH1 M1 g1 st1=>⟨rfl,M1,E,S1,x,E',S',e,rr.step g1.st,st1,λC od σ2 H2 M2 hm g2=>q C od σ2 H2 M2 hm (g1.trans g2)⟩⟩) λd s1 w=>?_)
  obtain⟨H1,I1,rfl,q1⟩:=w
  exact hb.pe pins s1 σ H1 Z I1 q1
 .cases e⟩
end
abbrev VEm:Wp vm:=[.type "ValueError",.type "Exception",.type "BaseException",.type "object"]
structure XcD(K:vZ)(mg:Str->vi vm)(x:Str):Prop where
 ex:∃C,mg x=Gc (.ref C)/\ABz K C VEm "ValueError.__new__"=true
def pW(X:K.In h)(G:h.Ns mainGlobals mg)(e:xn K mainGlobals x=Gc (Gc (.ref C)))(q:ABz K C VEm "ValueError.__new__"=true):XcD K mg x:=⟨C,zN X G e,q⟩
def fJ(X:K.In h)(q:ABz K C bmB newId=true):∃bm N nm q bs hdct sn sub ab col dd k0 k1 k2 k3 k5 mN,h.get? C=Gc (excClassObj nm q C N bs bm hdct sn sub ab col dd k0 k1 k2 k3 k5 newId)/\h.Ns N mN/\mN "__init__"=none/\OwnTail h bmB bm:=by
 unfold ABz at q
 split at q
 case h_2=>cases q
 rename_i dd cd sl ho
 split at q
 case h_2=>cases q
 rename_i C' bm k0 k1 k2 k3 n k5 hm hs
 simp only[vn,AAV,ABu]at q
 obtain⟨⟨⟨⟨⟨rfl,rfl⟩,hdel⟩,ht⟩,hok⟩,hni⟩:=q
 have hsl:sl= #[k0,k1,k2,k3,Gc (.builtin n),k5]:=Array.toList_inj.mp hs
 obtain⟨nm,bs,mro,ns,qn,hd,sn,sub,ab,col,del⟩:=cd
 dsimp only at hm hdel hok hni
 subst hm hdel hsl
 exact⟨bm,ns,nm,qn,bs,hd,sn,sub,ab,col,dd,k0,k1,k2,k3,k5,_,X _ _ ho,.of_isNs (PySem.W.isNs_of_in X hok),PySem.W.nsMap_none_of_in X hok hni,PySem.W.tail_of_in X ht⟩
noncomputable def T7(x:Str)(fs:Wp Ev):Rx:=λE S=>(evs fs E S).map λq=>(⟨x,none⟩,E,q.2)
def oD{np cpos pos:Pos}(hc:X.calm=true)(xc:XcD X.K X.mg x)(hg:Gl X x)(ha:DEs X (e::es) fs)(hl:xz (fs.length<=sizeLine) ww)(hxe:xz (X.xe=λ_ _=>yV) wp)(hx:xz (X.ex=[]) wp)(hdb:xz ((x==("__debug__":Str))=false) ww)(he:xz (wD (e::es) X.env=(false,eval e X.env)::wD es X.env) wp)(hpl:xz ((backTo cpos (wD es X.env)).any (·.1)=false) wp):RS X (.Raise (Gc (.Call (.Name x np) (e::es) [] cpos)) none pos) (T7 x fs):=⟨by
 intro pins s σ H Z I h
 obtain⟨C,hm,hex⟩:=xc.ex
 obtain⟨M,E,S,y,E',S',e0,r,st,q⟩:=h
 obtain⟨⟨ds,S1⟩,e1,e2⟩:=Jl e0
 cases e2
 obtain⟨tl,N,nm,qn,bs,hdct,sn,sub,ab,col,dd,k0,k1,k2,k3,k5,mN,hC,hN,hni,T⟩:=fJ I.ok.mod.kin hex
 refine wpAny_Raise_call_subT (C:=C) (nm:=nm) (q:=qn) (N:=N) (bs:=bs) (bm:=tl) (hdct:=hdct) (sn:=sn) (sub:=sub) (ab:=ab) (col:=col) (dd:=dd) (k0:=k0) (k1:=k1) (k2:=k2) (k3:=k3) (k5:=k5)
  ACz (mN:=mN) (T.hasType ACz.hasBase) (I.ok.hd hc) (by rw[he];show(false||(backTo cpos (wD es X.env)).any (·.1))=false;rw[hpl];rfl) hni (Pb I hg hm ⟨rfl,?_⟩ hdb)
 have ha':=ha.pe cpos pins s σ H (λvs H1=>∃M1,Gr M H M1 H1/\StR X.K M1 S1 H1/\Ae X.K M1 H1 vs ds) I (HM e1 r st λvs H1 M1 g1 st1 r1=>⟨M1,g1,st1,r1⟩)
 rw[he]at ha'⊢
 refine ACr (KQ hxe ha' λus s1 z=>?_)
 obtain⟨vs,H1,I1,rv,M1,g1,st1,r1⟩:=z
 refine⟨rfl,by rw[<-rv.length,r1.length,N9 e1];exact hl,I1.bk _ _ hC,hN.keeps I1.bk,T.keeps I1.bk,λh' ea hmd=>?_⟩
 obtain⟨t,w1,w2,w3⟩:=hmd.there
 refine⟨ea,C,none,σ,H1,rfl,I1.kept (t':=s1.toks) hmd.keeps,q C none σ H1 M1 ⟨hm,λ_ z=>nomatch z⟩ g1 (r.step g1.st) st1,?_,λz=>Ks I1 hx _ z hmd.new,_,_,.ref t,.none,w1,rfl,rfl,rfl,rfl,.inl rfl,λ_ z=>nomatch z⟩
 cases o:H1 ea with
 |none=>rfl
 |some ho=>
  obtain⟨ob,z⟩:=EO.there (I1.hok ea ho o)
  rw[hmd.new]at z;cases z⟩
abbrev Cx.mrk(X:Cx)(e:vy):Cx:={X with A:=X.A.mark (Gc (.ref e)),calm:=false}
section
variable{X:Cx}{σ:St}{H:Hp}{e:vy}
def j6(ok:X.Ok):(Cx.mrk X e).Ok:=⟨ok.mod,ok.kind,ok.glob,ok.blt,ok.above,ok.inj,ok.has,ok.cab,(λz=>nomatch z),ok.frames,ok.stk,ok.exf,ok.bs,ok.bsz,ok.cT,ok.eX,ok.VO,ok.frf⟩
def gL(I:Inv X pins σ H s):Inv (Cx.mrk X e) pins σ H s:=⟨j6 I.ok,I.os,I.bare,I.base,I.loc,I.cell,I.free,I.Lv,I.pin,I.hok,I.len⟩
def Kj(ok:X.Ok)(I:Inv (Cx.mrk X e) pins σ H s):Inv X pins σ H s:=⟨ok,I.os,I.bare,I.base,I.loc,I.cell,I.free,I.Lv,I.pin,I.hok,I.len⟩
def bE{D:Ends}(ok:X.Ok)(h:SP (Cx.mrk X e) pins D f s):SP X pins D f s:=by
 cases f with
 |next=>obtain⟨σ',H',I,q⟩:=h;exact⟨σ',H',Kj ok I,q⟩
 |brk=>obtain⟨σ',H',I,q⟩:=h;exact⟨σ',H',Kj ok I,q⟩
 |cont=>obtain⟨σ',H',I,q⟩:=h;exact⟨σ',H',Kj ok I,q⟩
 |ret u=>obtain⟨v,σ',H',I,r,q⟩:=h;exact⟨v,σ',H',Kj ok I,r,q⟩
end
structure HS(X:Cx)(hs:Wp ExceptHandler)(g:Tg->Ex):Prop where
 pe:∀(x:Tg) (C:vy) (od:vi vy) (pins:Wp (vy×Obj)) (s:vw) (σ:St) (H:Hp) (D:Ends) (e:vy),nB X.mg x C od H->Inv X pins σ H s->l8 (iw X pins) H s.heap e C od->tX X.K (g x) D σ H->
  wpAny (model X.prog X.w) X.A (handleBy (.ref e) X.env hs) (SP X pins D) (λ_ _=>yV) s
noncomputable def gNo:Tg->Ex:=λ_ _ _=>none
def l7:HS X [] gNo:=⟨λ_ _ _ _ _ _ _ _ _ _ _ _ z=>by
 obtain⟨M,E,S,fl,E',S',e,_⟩:=z
 cases e⟩
structure XmD(K:vZ)(mg:Str->vi vm)(xs:Wp Str)(y:Str):Prop where
 ex:∃C',mg y=Gc (.ref C')/\∀x∈xs,∀C,mg x=Gc (.ref C)->AAB K (.ref C) (.ref C')=Gc (x==y)
noncomputable def gOr(xs:Wp Str)(y:Str)(f:Ex)(g:Tg->Ex):Tg->Ex:=λx=>if x.nm∈xs then(if(x.nm==y)=true then f else g x)else IX
def fe{X:Cx}{xs:Wp Str}{y:Str}{b₀:wV}{np pos:Pos}{rest:Wp ExceptHandler}(xm:XmD X.K X.mg xs y)(hg:Gl X y)(hf:∀e,DSs (Cx.mrk X e) (b₀::suite) f)(hr:HS X rest g)(hxe:xz (X.xe=λ_ _=>yV) wp)(hx:xz (X.ex=[]) wp)(hst:xz (X.stack=X.env::X.outer) wp)(hfr:xz (X.env.frame=Gc X.env.locals) wp)(hdb:xz ((y==("__debug__":Str))=false) ww):HS X (.ExceptHandler (Gc (.Name y np)) none (b₀::suite) pos::rest) (gOr xs y f g):=⟨by
 intro x C od pins s σ H D e tg I fl z
 have hm:=tg.1
 obtain⟨C',hm',hex⟩:=xm.ex
 have hin:x.nm∈xs:=by
  by_cases h:x.nm∈xs
  .exact h
  .obtain⟨M,E,S,fl,E',S',e,_⟩:=z
   unfold gOr at e
   rw[wy h]at e
   cases e
 have z':tX X.K (if(x.nm==y)=true then f else g x) D σ H:=by
  unfold gOr at z
  rw[wU hin]at z
  exact z
 have ex:=hex x.nm hin C hm
 obtain⟨oe,vs,a0,T,oT,ts,h1,h2,_⟩:=id fl.ex
 have LT:PySem.W.Looks (model X.prog X.w) s.heap (typeOf (.ref e)) (.ref C):=by
  rw[<-h2];exact(PySem.W.Looks.ld h1).andThen .now
 refine wpAny_handleBy_cons (codeAny_handlers_test (zx I.ok.kind hg (AB4 (by rw[I.ok.glob];exact I.mod.glob.keeps I.bk) hm' ?_) hdb)) (by intro q;cases q)
 refine PySem.W.exm_one I.kIn LT ex _ _ _ _ (λ_ _ q=>q) ?_
 cases hb:(x.nm==y)with
 |true=>
  rw[wU hb]at z'
  refine codeAny_handlers_suite (wpAny_passesOwnAt PassesOwnAt.never (W0 I fl λh' t=>?_))
  have I':=gL (e:=e) (X3 I hst hfr hx t)
  exact wpAny_passesOwnAt PassesOwnAt.never (KQ (X:=Cx.mrk X e) hxe ((hf e).pe pins _ σ H D I' z') λfl s2 w=>bE I.ok w)
 |false=>
  rw[wy (by rw[hb];decide)]at z'
  exact hr.pe x C od pins s σ H D e tg I fl z'⟩
noncomputable def ZO(f:Ex)(r:Rx)(g:Tg->Ex):Ex:=λE S=>match f E S with
 |some z=>Gc z
 |none=>(r E S).bind λq=>g q.1 q.2.1 q.2.2
def lL{pos:Pos}(hb:DSs X body f)(hr:RSs X body r)(hh:HS X (h₀::hs) g)(hxe:xz (X.xe=λ_ _=>yV) wp)(hx:xz (X.ex=[]) wp)(hst:xz (X.stack=X.env::X.outer) wp)(hfr:xz (X.env.frame=Gc X.env.locals) wp):DS X (.Try body (h₀::hs) [] [] pos) (ZO f r g):=⟨by
 intro pins s σ H D I z
 obtain⟨M,E,S,fl,E',S',e,rr,ss,q⟩:=z
 unfold ZO at e
 split at e
 .rename_i z' e1
  cases e
  refine wpAny_Try_except (KQ hxe (hb.pe pins s σ H D I ⟨M,E,S,fl,E',S',e1,rr,ss,q⟩) λf s1 w=>?_)
  cases f with
  |next=>exact AAR w
  |ret u=>exact w
  |brk=>exact w
  |cont=>exact w
 .obtain⟨⟨x,E1,S1⟩,e1,e⟩:=Ag e
  dsimp only at e
  refine wpAny_Try_except (yu (hr.pe pins s σ H (λC od σ' H'=>nB X.mg x C od H'/\tX X.K (g x) D σ' H') I ⟨M,E,S,x,E1,S1,e1,rr,ss,λC od σ' H' M' hm g' r' st'=>⟨hm,M',E1,S1,fl,E',S',e,r',st',q.later g'⟩⟩) (λ_ _ z=>z.elim) λev s1 w=>?_)
  obtain⟨ea,C,od,σ',H',rfl,I',⟨hm,z'⟩,fly⟩:=w
  refine UL I' I'.ok.frames hst hfr fly (Ks I' hx) λh' t=>?_
  have I2:=X3 I' hst hfr hx t
  exact yu (hh.pe x C od pins _ σ' H' D ea hm I2 t.fly z') (λ_ _ z=>z) λ_ _ z=>z.elim⟩
section
variable{X:Cx}{pos:Pos}
end
def pI(X:K.In h)(G:h.Ns mainGlobals mg)(e:xn K mainGlobals y=Gc (Gc (.ref C')))(t:∀x∈xs,∃C,xn K mainGlobals x=Gc (Gc (.ref C))/\AAB K (.ref C) (.ref C')=Gc (x==y)):XmD K mg xs y:=⟨C',zN X G e,λx hx C hm=>by
 obtain⟨C2,e2,q⟩:=t x hx
 have:=hm.symm.trans (zN X G e2)
 cases this
 exact q⟩
def all_nil{p:Str->Prop}:∀x∈([]:Wp Str),p x:=λ_ z=>nomatch z
def all_cons{p:Str->Prop}(h:p x)(t:∀x∈xs,p x):∀y∈x::xs,p y:=λy m=>by
 rcases ve.mp m with rfl|m
 .exact h
 .exact t y m
end Mi
end
noncomputable section
namespace Mi
open PySem PySem.Spec L2 PyProof.Rows
abbrev eIx(a b:Ev):Ev:=eOp (o2 wIx) [a,b]
abbrev eI(n:Int):Ev:=eC (.int n)
def scM{N P:Wp Str}{sc:zv}(a:xz (sc.kind=.function) wp)(b:xz (sc.isCoroutine=false) wp)(c:xz (sc.isGenerator=false) wp)(d:xz N.Nodup v6)(e:xz (N.take P.length=P) wp)(f:xz (∀x∈P,sc.names.lookup x=Gc .local\/sc.names.lookup x=Gc .cell) v6)(g:xz (∀y∈sc.names,y.2≠.free) v6):Ak N P sc:=⟨a,b,c,d,e,f,g⟩
def csM{N:Wp Str}{osc:zv}{N':Wp Str}{ix:Wp (vi Nat)}{scope:zv}(a:xz (scope.kind=.function) wp)(b:xz (∀y∈scope.names,y.2=.cell->scope.names.lookup y.1=Gc .cell) v6)(c:xz (∀y∈scope.names,y.2=.local->scope.names.lookup y.1=Gc .local) v6)(d:xz (∀y∈scope.names,y.2=.free->(osc.names.lookup y.1=Gc .cell\/osc.names.lookup y.1=Gc .free)) v6)(e:xz (UX N osc scope N' ix=true) v6):AJ N osc N' ix scope:=⟨a,b,c,d,e⟩
def len0{α:Type}{us:Wp α}(h:us.length=0):us=[]:=AA3 h
def qB{α:Type}{us:Wp α}(h:us.length=n+1):∃a r,us=a::r/\r.length=n:=by
 cases us with
 |nil=>cases h
 |cons a r=>exact⟨a,r,rfl,Nat.succ.inj h⟩
def J3{α:Type}{us:Wp α}(h:us.length=1):∃a,us=[a]:=by
 obtain⟨a,r,rfl,k⟩:=qB h
 obtain rfl:=len0 k
 exact⟨a,rfl⟩
def fD{α:Type}{us:Wp α}(h:us.length=2):∃a b,us=[a,b]:=by
 obtain⟨a,r,rfl,k⟩:=qB h
 obtain⟨b,rfl⟩:=J3 k
 exact⟨a,b,rfl⟩
def rL{α:Type}{us:Wp α}(h:us.length=3):∃a b c,us=[a,b,c]:=by
 obtain⟨a,r,rfl,k⟩:=qB h
 obtain⟨b,c,rfl⟩:=fD k
 exact⟨a,b,c,rfl⟩
def uG{us:Wp vm}(h:us.length=n):∃f,us=(xI n).map f:=by
 refine⟨λi=>us.getD i .none,?_⟩
 subst h
 apply List.ext_getElem
 .simp
 .intro i h1 h2
  rw[List.getElem_map,List.getElem_range,v8,vk h1];rfl
def BnR(x:Str)(st:wV)(ps:Wp Str):Prop:=∀(kV doc pm:vm) (an:vi vy) (cdv ct:vm) (f:Nat->vm),bindArgs (zb x x (LU st) (Dz st) (AE st) .none kV doc pm an cdv ct) ⟨(xI ps.length).map f,[]⟩=pure (ps.zip ((xI ps.length).map f))
def bnR{K:vZ}{st:wV}(F:Fun K x x st f fd)(h:BnR x st ps):Binds K fd ps []:=F.binds λa b c d e g us hl=>by
 obtain⟨k,rfl⟩:=uG hl
 exact h a b c d e g k
section
variable{P:xK}{w:xy}{K:vZ}
def dfM{st:wV} k(S:St.Src K mg x st)(sc:Ak N ps (AE st))(hb:∀{f} {cdv} {A} {outer} {s} {H} {E},K0 k (A.deeper (xR x (AE st) s.heap.objs.size f cdv))->(A.deeper (xR x (AE st) s.heap.objs.size f cdv)).units+100<cLine->DSs (TK CX0 P w K mg base N x (AE st) f cdv A outer s H E).nox (Dz st) b)(hp:xz (ps.length=np) wp)(hbi:xz (BnR x st ps) v4):St.Dfn P w K mg base x (k+1) ps (spD K np (AR (AV N.length b))):=lq S sc hp (λ_ _ F=>bnR F hbi) λ_ _ _ _ _ _ _ hr=>hb hr (TY hr)
end
def deM{X:Cx}{k k' np:Nat}{x:Str}{ps:Wp Str}{p pos:Pos}(d:St.Dfn X.prog X.w X.K X.mg X.base x k ps (spD X.K np f))(hr:K0 k' X.A)(ha:DEs X (e::es) fs)(hk:xz (k<=k') u8)(hg:xz (Gl X x) ut)(hn:xz (fs.length=np) wp)(hdb:xz ((x==("__debug__":Str))=false) ww)(he:xz (wD (e::es) X.env=(false,eval e X.env)::wD es X.env) wp)(hpl:xz ((backTo pos (wD es X.env)).any (·.1)=false) wp):DE X (.Call (.Name x p) (e::es) [] pos) (AB f fs):=iM d (hr.mono hk) hg ha hn hdb he hpl
end Mi
end
noncomputable section
namespace Mi
open PySem PySem.Spec L2 PyProof.Rows
theorem WX:∀(l:Wp xD),(xI l.length).any (λi=>l.getD i true)=l.any id
 | []=>rfl
 |b::l=>by
  rw[xT,ACQ,AAP,List.any_map,AAP,<-WX l]
  rfl
def Yi(hc:X.calm=true):Cv X (.builtin "any") (λxs H Q=>∃(p:vy) (bs:Wp xD),xs=[.ref p]/\SqL X.K H p (bs.map V.bl)/\Q (.bl (bs.any id)) H):=by
 intro pins s σ H xs us Q I r h
 obtain⟨p,bs,rfl,hp,q⟩:=h
 obtain⟨u,rfl,ru⟩:=r.one
 cases (show u=w9 p from ru)
 obtain⟨its,rv,pl,hz⟩:=I.list hp
 have hd:X.A.in1.handled=none:=I.ok.hd hc
 refine call_any_walk (xu pl.isList ?_)
 have hlen:bs.length=its.length:=by have:=rv.length;simpa using this
 have hpl:=pl.isList
 have hne:p≠s.heap.objs.size:=by
  obtain⟨o,ho,_⟩:=hpl
  exact wZ (vz ho)
 refine⟨s.heap.objs.size,_,_,its.length,_,_,λi=>bs.getD i true,rfl,St.LZ (vs:=its) hd hne,⟨⟨_,wI _ rfl,rfl,rfl⟩,?_⟩,?_,?_⟩
 .obtain⟨o,ho,r⟩:=hpl
  exact⟨o,vc _ ho,r⟩
 .intro i v s' Q' E' hv hq
  have hi:i<its.length:=(vt.mp hv).1
  have hb:(bs.map V.bl)[i]?=Gc (.bl (bs.getD i true)):=by
   rw[wJ,vk (by lia)]
   simp[v8,vk (show i<bs.length by lia)]
  obtain⟨u,hu,ru⟩:=rv.get hb
  rw[hv]at hu
  cases hu
  cases (show v=ABR _ from ru)
  exact yM hq
 .intro h' tk hk
  rw[<-hlen,WX]
  exact⟨.bl _,H,I.kept (t':=tk) λb o eb=>hk b o (by simp;exact wZ (vz eb)) (vc _ eb),rfl,q⟩
noncomputable def iQ:Op1:=λw=>(asL w).bind λds=>(bls ds).map λbs=>.val (.bl (bs.any id))
def Yz(hc:X.calm=true):Cv X (.builtin "any") (rN X.K (o1 iQ)):=by
 intro pins s σ H xs us Q I r h
 obtain⟨M,ws,w,e,mo,sh,q⟩:=h
 obtain⟨v,w1,rfl,rfl,s1,e1⟩:=GR sh e
 unfold iQ at e1
 cases e2:asL w1 with
 |none=>rw[e2]at e1;cases e1
 |some ds=>
  rw[e2]at e1
  simp only[AAw]at e1
  cases e3:bls ds with
  |none=>rw[e3]at e1;cases e1
  |some bs=>
   rw[e3]at e1
   cases e1
   obtain⟨a,ys,rfl,h3,h4⟩:=s1.l e2
   exact Yi hc pins s σ H _ us Q I r ⟨a,bs,rfl,by rw[<-Sv h4 e3];exact .of h3,q _ _ (.same mo (.bl _))⟩
end Mi
end
noncomputable section
namespace Mi
open PySem PySem.Spec L2
def vP(h:DEs X a b):DEs X a b:=h
def gDE(h:DE X a b):DE X a b:=h
def vX(h:DSs X a b):DSs X a b:=h
def gDS(h:DS X a b):DS X a b:=h
def gDT(h:DT X a b):DT X a b:=h
def gDG(h:DG X a b):DG X a b:=h
def vK(h:OpR X a b):OpR X a b:=h
def sL(h:Cv X a b):Cv X a b:=h
def dfW k(S:St.Src K mg x st)(sc:Ak N ps (AE st))(hb:∀{f} {cdv} {A} {outer} {s} {H} {E},N.Nodup->K0 k (A.deeper (xR x (AE st) s.heap.objs.size f cdv))->(A.deeper (xR x (AE st) s.heap.objs.size f cdv)).units+100<cLine->DSs (TK CX0 P w K mg base N x (AE st) f cdv A outer s H E).nox (Dz st) b)(hp:xz (ps.length=np) wp)(hbi:xz (BnR x st ps) v4):St.Dfn P w K mg base x (k+1) ps (spD K np (AR (AV N.length b))):=dfM k S sc (λhr hu=>hb sc.nd hr hu) hp hbi
def tO k(S:St.Src K mg x st)(sc:Ak N ps (AE st))(hb:∀{f} {cdv} {A} {outer} {s} {H} {E},N.Nodup->K0 k (A.deeper (xR x (AE st) s.heap.objs.size f cdv))->(A.deeper (xR x (AE st) s.heap.objs.size f cdv)).units+100<cLine->RSs (TK CX0 P w K mg base N x (AE st) f cdv A outer s H E).nox (Dz st) r)(hp:xz (ps.length=np) wp)(hbi:xz (BnR x st ps) v4):oR P w K mg base x (k+1) ps (spR K mg np (AR (bU N.length r))):=iI S sc hp (λ_ _ F=>bnR F hbi) λf cdv A outer s H E hr=>hb sc.nd hr (TY hr)
end Mi
end
noncomputable section
namespace Mi
open PySem PySem.Spec L2 PyProof.Rows
def Nc(g:OpN):Prop:=∀w ws r,g (w::ws)=Gc r->∃x,w=.val (.str x)
def rSm(K:vZ)(g:OpN):V->Wp V->Hp->VK->Prop:=λx xs H Q=>rN K g (x::xs) H Q
section
variable{X:Cx}{g:OpN}{c:xD}{o e:xM}{es:Wp xM}{fo:Ev}{fs:Wp Ev}{name:Str}{apos cpos:Pos}
def XE{S:Sto}{d:D}{x:Str}(h:dr S d=.val (.str x)):d=.str x:=by
 cases d with
 |ref n=>
  have:dr S (.ref n)=.val (.str x):=h
  unfold dr at this
  dsimp only at this
  split at this
  .cases this
  .cases this
 |_=>exact Wv.val.inj h
def sW{σ:Sg}{H:Hp}{Q:VK}(hs:Nc g)(h:tD X.K (Ny c g (fo::fs)) σ H Q):tBM X.K "str" (rSm X.K g) (tD X.K fo) (tDs X.K fs) σ H Q:=by
 obtain⟨M,E,S,d,S',e,r,st,q⟩:=h
 obtain⟨⟨ds,S1⟩,e1,e⟩:=Ag e
 obtain⟨w,e2,e3⟩:=Ag e
 obtain⟨⟨d0,S0⟩,e4,e1⟩:=Ag e1
 obtain⟨⟨es,S2⟩,e5,e6⟩:=Jl e1
 cases e6
 obtain⟨x,hx⟩:=hs _ _ _ e2
 obtain rfl:=XE hx
 refine⟨M,E,S,_,S0,e4,r,st,λv H1 M1 g1 st1 r1=>?_⟩
 have hv:v=.str x:=r1.iv
 subst hv
 refine⟨rfl,HM e5 (r.step g1.st) st1 λvs H2 M2 g2 st2 r2=>⟨M2,_,w,e2,st2.mo,.cons (VE st2 (r1.step g2.st)) (Y3 st2 r2),λv H3 n=>?_⟩⟩
 obtain⟨M3,g3,st3,d3⟩:=n.fin st2 e3
 exact q _ _ M3 ((g1.trans g2).trans g3) st3 d3
def pS{σ:Sg}{H:Hp}{Q:VK}(hs:Nc g)(h:tD X.K (Ny c g [fo]) σ H Q):so X.K "str" (rSm X.K g) (tD X.K fo) σ H Q:=sW hs h
def HJ{id:yo}(slot:Slot "str" name id)(hty:typeOf (.builtin id)=pure (.type "method_descriptor"))(hm:MtR X id (rSm X.K g))(hs:Nc g)(ho:DE X o fo)(ha:DEs X (e::es) fs)(hbase:xz (attributeBase o name X.env (eval o X.env)=eval o X.env) wp)(hfew:xz (((backTo cpos (wD (e::es) X.env)).all (λx=> !x.1) && (backToKw cpos (keywordEach [] X.env)).all (λx=>x.1.isSome) && decide ((e::es).length+([]:Wp AAz).length+(if([]:Wp AAz).isEmpty then 0 else 1)<30))=true) wp)(hline:xz ((apos.endLine==cpos.line)=true) wp)(hs':xz (wD (e::es) X.env=(false,eval e X.env)::wD es X.env) wp)(hplain:xz ((backTo cpos (wD es X.env)).any (·.1)=false) wp):DE X (.Call (.Attribute o name apos) (e::es) [] cpos) (Ny c g (fo::fs)):=⟨BN (jy ACT slot hty hm ho.pe ha.pe hbase hfew hline hs' hplain) λσ H Q z=>sW hs z⟩
def dM{id:yo}(slot:Slot "str" name id)(hty:typeOf (.builtin id)=pure (.type "method_descriptor"))(hm:MtR X id (rSm X.K g))(hs:Nc g)(ho:DE X o fo)(hbase:xz (attributeBase o name X.env (eval o X.env)=eval o X.env) wp)(hline:xz ((apos.endLine==cpos.line)=true) wp):DE X (.Call (.Attribute o name apos) [] [] cpos) (Ny c g [fo]):=⟨BN (kq ACT slot hty hm ho.pe hbase hline) λσ H Q z=>pS hs z⟩
end
section
variable{K:vZ}{x:V}{xs:Wp V}{H:Hp}{Q:VK}
def jj{f:Op1}(h:rSm K (o1 f) x xs H Q):xs=[]/\rUn K f x H Q:=by
 obtain⟨M,ws,r,e,mo,s,q⟩:=h
 cases s with
 |cons h1 s=>
  cases s with
  |nil=>exact⟨rfl,M,_,r,e,mo,h1,q⟩
  |cons h2 s=>cases e
def RC{f:Op2}(h:rSm K (o2 f) x xs H Q):∃y,xs=[y]/\rOp K f x y H Q:=by
 obtain⟨M,ws,r,e,mo,s,q⟩:=h
 cases s with
 |cons h1 s=>
  cases s with
  |nil=>cases e
  |cons h2 s=>
   cases s with
   |nil=>exact⟨_,rfl,M,_,_,r,e,mo,h1,h2,q⟩
   |cons h3 s=>cases e
def K1{y:V}{us:Wp vm}(h:Vals [y] us):∃u,us=[u]/\RelV y u:=by
 cases h with
 |cons h t=>cases t;exact⟨_,rfl,h⟩
def bc{us:Wp vm}(h:Vals [] us):us=[]:=by cases h;rfl
end
noncomputable def wSB(f:Str->xD):Op1
 | .val (.str x)=>Gc (.val (.bl (f x)))
 |_=>none
def gU{f:Str->xD}:Nc (o1 (wSB f)):=λw ws r e=>by
 cases ws with
 |cons=>cases e
 |nil=>
  cases w with
  |own=>cases e
  |val d=>
   cases d with
   |str x=>exact⟨x,rfl⟩
   |_=>cases e
def j4{X:Cx}{id:yo}{f:Str->xD}(h:∀(x:Str) (t:Tok) (Q:vm->vw->Prop) (s:vw),Q (.bool (f x)) s->wpAny (model X.prog X.w) X.A (call (.builtin id) [.str x t]) Q X.xe s):MtR X id (rSm X.K (o1 (wSB f))):=by
 intro pins s σ H x xs v us Q I rx rs z
 obtain⟨rfl,M,w,r,e,mo,sh,q⟩:=jj z
 obtain⟨y,rfl⟩:=gU w [] r e
 have hv:x=.str y:=BQ.iv sh
 subst hv
 obtain⟨t,rfl⟩:=rx
 obtain rfl:=bc rs
 cases e
 exact h y t _ s ⟨.bl _,H,I,rfl,q _ H (Nw.same mo (.bl _))⟩
def Vp{X:Cx}:MtR X "str.isdigit" (rSm X.K (o1 (wSB zG))):=j4 λx t Q s h=>SC.isdigit h
def Vm{X:Cx}:MtR X "str.isascii" (rSm X.K (o1 (wSB zH))):=j4 λx t Q s h=>SC.isascii h
noncomputable def FW:Op2
 | .val (.str x),.val (.str y)=>Gc (.val (.bl (zR x y)))
 |_,_=>none
def Ox{w w' r:Wv}(e:FW w w'=Gc r):∃x y,w=.val (.str x)/\w'=.val (.str y)/\r=.val (.bl (zR x y)):=by
 unfold FW at e
 split at e
 .cases e;exact⟨_,_,rfl,rfl,rfl⟩
 .cases e
def SE{f:Op2}(h:∀w w' r,f w w'=Gc r->∃x,w=.val (.str x)):Nc (o2 f):=λw ws r e=>by
 cases ws with
 |nil=>cases e
 |cons w' ws=>
  cases ws with
  |nil=>exact h w w' r e
  |cons=>cases e
def RO:Nc (o2 FW):=SE λw w' r e=>by
 obtain⟨x,y,rfl,_⟩:=Ox e
 exact⟨x,rfl⟩
def Qh{X:Cx}:MtR X "str.startswith" (rSm X.K (o2 FW)):=by
 intro pins s σ H x xs v us Q I rx rs z
 obtain⟨y,rfl,M,w,w',r,e,mo,s1,s2,q⟩:=RC z
 obtain⟨a,b,rfl,rfl,rfl⟩:=Ox e
 obtain rfl:x=.str a:=BQ.iv s1
 obtain rfl:y=.str b:=BQ.iv s2
 obtain⟨u,rfl,ru⟩:=K1 rs
 obtain⟨t,rfl⟩:=rx
 obtain⟨t',rfl⟩:=ru
 exact SC.startswith ⟨.bl _,H,I,rfl,q _ H (Nw.same mo (.bl _))⟩
noncomputable def Iw:Op2
 | .val (.str x),.val (.int n)=>if PadOk n=true then Gc (.val (.str (AAF x n)))else none
 |_,_=>none
def Rw{w w' r:Wv}(e:Iw w w'=Gc r):∃x n,w=.val (.str x)/\w'=.val (.int n)/\PadOk n=true/\r=.val (.str (AAF x n)):=by
 unfold Iw at e
 split at e
 .split at e
  .rename_i h
   cases e;exact⟨_,_,rfl,rfl,h,rfl⟩
  .cases e
 .cases e
def U2:Nc (o2 Iw):=SE λw w' r e=>by
 obtain⟨x,y,rfl,_⟩:=Rw e
 exact⟨x,rfl⟩
def UP{X:Cx}:MtR X "str.zfill" (rSm X.K (o2 Iw)):=by
 intro pins s σ H x xs v us Q I rx rs z
 obtain⟨y,rfl,M,w,w',r,e,mo,s1,s2,q⟩:=RC z
 obtain⟨a,n,rfl,rfl,hp,rfl⟩:=Rw e
 obtain rfl:x=.str a:=BQ.iv s1
 obtain rfl:y=.int n:=BQ.iv s2
 obtain⟨u,rfl,ru⟩:=K1 rs
 obtain⟨t,rfl⟩:=rx
 obtain⟨t',rfl⟩:=ru
 exact SC.zfill hp λt' k=>⟨.str _,H,I.tok k,⟨t',rfl⟩,q _ H (Nw.same mo (.str _))⟩
noncomputable def Lb(x y:Str):xD:=decide (x.length<=sizeLine) && (y.length !=0) && decide ((yf x (xU x y 0 x.length (x.length+1)) y.length).length<=sizeLine)
noncomputable def Bb:Op2
 | .val (.str x),.val (.str y)=>if Lb x y=true then Gc (.own ((yC x y).map .str))else none
 |_,_=>none
def Qm{w w' r:Wv}(e:Bb w w'=Gc r):∃x y,w=.val (.str x)/\w'=.val (.str y)/\Lb x y=true/\r=.own ((yC x y).map .str):=by
 unfold Bb at e
 split at e
 .split at e
  .rename_i h
   cases e;exact⟨_,_,rfl,rfl,h,rfl⟩
  .cases e
 .cases e
def JZ:Nc (o2 Bb):=SE λw w' r e=>by
 obtain⟨x,y,rfl,_⟩:=Qm e
 exact⟨x,rfl⟩
theorem Q5:∀l:Wp (Str×Tok),Vals (l.map λp=>V.str p.1) (strValues l)
 | []=>.nil
 |p::r=>.cons ⟨p.2,rfl⟩ (Q5 r)
theorem UD{K:vZ}{M:Ms}{H:Hp}:∀l:Wp Str,Ae K M H (l.map V.str) (l.map D.str)
 | []=>.nil
 |x::r=>.cons (.str x) (UD r)
def Yt(k:Nat)(ps:Wp Str):Vals (ps.map V.str) (strsFrom k ps):=by
 have h:=Q5 (numbered k ps)
 rw[strsFrom_eq]
 have e:(numbered k ps).map (λp=>V.str p.1)=ps.map V.str:=by
  have:=congrArg (List.map V.str) (numbered_texts k ps)
  rw[wR]at this
  exact this
 rw[e]at h
 exact h
def Ji{X:Cx}:MtR X "str.split" (rSm X.K (o2 Bb)):=by
 intro pins s σ H x xs v us Q I rx rs z
 obtain⟨y,rfl,M,w,w',r,e,mo,s1,s2,q⟩:=RC z
 obtain⟨a,b,rfl,rfl,hp,rfl⟩:=Qm e
 obtain rfl:x=.str a:=BQ.iv s1
 obtain rfl:y=.str b:=BQ.iv s2
 obtain⟨u,rfl,ru⟩:=K1 rs
 obtain⟨t,rfl⟩:=rx
 obtain⟨t',rfl⟩:=ru
 unfold Lb at hp
 simp only[vn,xE,bne_iff_ne,ne_eq]at hp
 obtain⟨⟨hz,hy⟩,hn⟩:=hp
 have hy':(b.length==0)=false:=by simpa using hy
 have one:∀tk,EP X pins σ Q (.ref s.heap.objs.size) {s with toks:=tk,heap:=s.heap.push {cls:=.type "list",data:=.seq #[AAr a t]}}∨yC a b≠[a]:=λtk=>by
  by_cases h:yC a b=[a]
  .refine .inl ⟨.ref s.heap.objs.size,_,I.ij (its:=[.str a t]) (ys:=[.str a]) (.cons ⟨t,rfl⟩ .nil) (show 1<=sizeLine by decide),rfl,q _ _ ?_⟩
   rw[h]
   exact Nw.lst mo I.fresh (.cons (.str a) .nil)
  .exact .inr h
 cases h1:(decide (a.length<b.length)||decide (ADI a<ADI b))
 .cases hf:(xU a b 0 a.length (a.length+1)).isEmpty
  .have hs:yC a b=yf a (xU a b 0 a.length (a.length+1)) b.length:=by
    unfold yC
    rw[h1,hf]
    rfl
   refine zK xf (zc _ _ _) ABv (ABf _ _) (meets_str_split_sep a b t t' h1 hy' hf hz hn) ?_
   rw[hs]at q
   refine⟨.ref s.heap.objs.size,_,I.ij (Yt _ _) (by rw[wY];exact hn),rfl,q _ _ (Nw.lst mo I.fresh (UD _))⟩
  .have hs:yC a b=[a]:=by
    unfold yC
    rw[h1,hf]
    rfl
   exact zK xf (zc _ _ _) ABv (ABf _ _) (meets_str_split_not_found a b t t' h1 hy' hf) ((one _).resolve_right λn=>n hs)
 .have hs:yC a b=[a]:=by
   unfold yC
   rw[h1]
   rfl
  exact zK xf (zc _ _ _) ABv (ABf _ _) (meets_str_split_cannot_occur a b t t' h1) ((one _).resolve_right λn=>n hs)
noncomputable def ur:D->vi Str
 | .str x=>Gc x
 |_=>none
noncomputable def txs:Wp D->vi (Wp Str)
 | []=>Gc []
 |d::ds=>(ur d).bind λx=>(txs ds).map (x:: ·)
theorem TL:∀ts:Wp Str,txs (ts.map .str)=Gc ts
 | []=>rfl
 |t::ts=>by
  show(Gc t).bind (λx=>(txs (ts.map .str)).map (x:: ·))=_
  rw[TL ts]
  rfl
theorem YY{K:vZ}{M:Ms}{H:Hp}:∀{ds} {xs} {ts},Ae K M H xs ds->txs ds=Gc ts->xs=ts.map V.str
 | [],_,_,.nil,e=>by cases e;rfl
 |d::ds,_,ts,.cons h t,e=>by
  obtain⟨x,e1,e⟩:=Ag e
  obtain⟨ys,e2,e⟩:=Jl e
  cases e
  cases d with
  |str z=>
   cases e1
   have:=YY t e2
   subst this
   rw[v5]
   congr 1
   exact h.iv
  |_=>cases e1
theorem YG:∀{ts:Wp Str} {its:Wp vm},Vals (ts.map V.str) its->∃l:Wp (Str×Tok),strValues l=its/\l.map (·.1)=ts
 | [],_,h=>by cases h;exact⟨[],rfl,rfl⟩
 |t::ts,_,h=>by
  cases h with
  |cons h1 h2=>
   obtain⟨k,rfl⟩:=h1
   obtain⟨l,rfl,rfl⟩:=YG h2
   exact⟨(t,k)::l,rfl,rfl⟩
noncomputable def GJ:Op2
 | .val (.str x),w=>(asL w).bind λds=>(txs ds).bind λts=>if JoinOk x ts=true then Gc (.val (.str (AC0 x ts)))else none
 |_,_=>none
def Uz{w w' r:Wv}(e:GJ w w'=Gc r):∃x ds ts,w=.val (.str x)/\asL w'=Gc ds/\txs ds=Gc ts/\JoinOk x ts=true/\r=.val (.str (AC0 x ts)):=by
 unfold GJ at e
 split at e
 .obtain⟨ds,e1,e⟩:=Ag e
  obtain⟨ts,e2,e⟩:=Ag e
  split at e
  .rename_i h
   cases e;exact⟨_,ds,ts,rfl,e1,e2,h,rfl⟩
  .cases e
 .cases e
def Hl:Nc (o2 GJ):=SE λw w' r e=>by
 obtain⟨x,_,_,rfl,_⟩:=Uz e
 exact⟨x,rfl⟩
def Hr{X:Cx}:MtR X "str.join" (rSm X.K (o2 GJ)):=by
 intro pins s σ H x xs v us Q I rx rs z
 obtain⟨y,rfl,M,w,w',r,e,mo,s1,s2,q⟩:=RC z
 obtain⟨a,ds,ts,rfl,e1,e2,hok,rfl⟩:=Uz e
 obtain rfl:x=.str a:=BQ.iv s1
 obtain⟨p,ys,rfl,hp,rd⟩:=s2.l e1
 obtain rfl:=YY rd e2
 obtain⟨u,rfl,ru⟩:=K1 rs
 obtain rfl:u=.ref p:=ru
 obtain⟨t,rfl⟩:=rx
 obtain⟨_,its,n,hv,_,hg⟩:=I.aT hp
 obtain⟨l,rfl,ht⟩:=YG hv
 exact SC.join ⟨_,hg,rfl,n,rfl⟩ ht hok λt' k=>⟨.str _,H,I.tok k,⟨t',rfl⟩,q _ H (Nw.same mo (.str _))⟩
noncomputable def parted(x y:Str):Wp D:=match xU x y 0 x.length 1 with
 |i::_=>[.str (y0 x 0 i),.str y,.str (y0 x (i+y.length) x.length)]
 | []=>[.str x,.str yZ,.str yZ]
noncomputable def VM:Op2
 | .val (.str x),.val (.str y)=>if(decide (x.length<=sizeLine) && (y.length !=0))=true then Gc (.val (.tup (parted x y)))else none
 |_,_=>none
def UC{w w' r:Wv}(e:VM w w'=Gc r):∃x y,w=.val (.str x)/\w'=.val (.str y)/\x.length<=sizeLine/\(y.length==0)=false/\r=.val (.tup (parted x y)):=by
 unfold VM at e
 split at e
 .split at e
  .rename_i h
   simp only[vn,xE,bne_iff_ne,ne_eq]at h
   cases e;exact⟨_,_,rfl,rfl,h.1,by simpa using h.2,rfl⟩
  .cases e
 .cases e
def iH:Nc (o2 VM):=SE λw w' r e=>by
 obtain⟨x,y,rfl,_⟩:=UC e
 exact⟨x,rfl⟩
def dw{X:Cx}:MtR X "str.partition" (rSm X.K (o2 VM)):=by
 intro pins s σ H x xs v us Q I rx rs z
 obtain⟨y,rfl,M,w,w',r,e,mo,s1,s2,q⟩:=RC z
 obtain⟨a,b,rfl,rfl,hz,hy,rfl⟩:=UC e
 obtain rfl:x=.str a:=BQ.iv s1
 obtain rfl:y=.str b:=BQ.iv s2
 obtain⟨u,rfl,ru⟩:=K1 rs
 obtain⟨t,rfl⟩:=rx
 obtain⟨t',rfl⟩:=ru
 have three:∀(x1 x2 x3:Str) (t1 t2 t3:Tok) (k:Nat),parted a b=[.str x1,.str x2,.str x3]->EP X pins σ Q (.ref s.heap.objs.size) {s with toks:=k,heap:=s.heap.push {cls:=.type "tuple",data:=.seq [AAr x1 t1,.str x2 t2,.str x3 t3].toArray}}:=λx1 x2 x3 t1 t2 t3 k e=>by
  rw[e]at q
  refine⟨.ref s.heap.objs.size,upd H s.heap.objs.size (.tup [.str x1,.str x2,.str x3]),I.laid (λ_ _ q=>vc _ q) (vf _) (show EO X.prog X.w _ _ _ (.tup [V.str x1,V.str x2,V.str x3])from⟨(show 3<=sizeLine by decide),_,.cons ⟨t1,rfl⟩ (.cons ⟨t2,rfl⟩ (.cons ⟨t3,rfl⟩ .nil)),zU _ _⟩),rfl,q _ _ (Nw.tup mo I.fresh (.cons (.str _) (.cons (.str _) (.cons (.str _) .nil))))⟩
 refine zK ACC (zc _ _ _) F.entry_str_partition (F.args_str_partition_2 _ _) (meets_str_partition a b t t' hy hz) ?_
 unfold parted at three
 cases ho:xU a b 0 a.length 1 with
 |nil=>exact three a yZ yZ _ _ _ _ (by rw[ho])
 |cons i r=>exact three (y0 a 0 i) b (y0 a (i+b.length) a.length) _ _ _ _ (by rw[ho])
end Mi
end
noncomputable section
namespace Mi
open PySem PySem.Spec L2 PyProof.Rows
section
variable{X:Cx}
noncomputable def ED:Op1
 | .val (.str x)=>Gc (.val (.str x))
 |w=>qz w
def D4:Cv X (.type "str") (rN X.K (o1 ED)):=by
 intro pins s σ H xs us Q I r h
 obtain⟨M,ws,w,e,mo,sh,q⟩:=h
 obtain⟨v,w1,rfl,rfl,s1,e1⟩:=GR sh e
 unfold ED at e1
 split at e1
 .cases e1
  obtain rfl:=BQ.iv s1
  obtain⟨u,rfl,t,rfl⟩:=vals1 r
  exact PySem.P.str_of_str ⟨.str _,H,I,⟨_,rfl⟩,q _ _ (.same mo (.str _))⟩
 .exact Wi pins s σ H _ us Q I r ⟨M,[w1],w,e1,mo,.cons s1 .nil,q⟩
noncomputable def V3:Op1
 | .val (.str x)=>if x.length<=640 then(PySem.intText? x).map λn=>.val (.int n)else none
 |_=>none
def Vi:Cv X (.type "int") (rN X.K (o1 V3)):=by
 intro pins s σ H xs us Q I r h
 obtain⟨M,ws,w,e,mo,sh,q⟩:=h
 obtain⟨v,w1,rfl,rfl,s1,e1⟩:=GR sh e
 unfold V3 at e1
 split at e1
 .split at e1
  .rename_i hl
   obtain⟨n,hn,e2⟩:=Jl e1
   cases e2
   obtain rfl:=BQ.iv s1
   obtain⟨u,rfl,t,rfl⟩:=vals1 r
   exact PySem.W.KIN.call_text hn hl ⟨.int _,H,I.tok _,⟨_,rfl⟩,q _ _ (.same mo (.int _))⟩
  .cases e1
 .cases e1
noncomputable def cq:Op2
 | .val (.str z),.val (.int i)=>if z.length<=sizeLine then(atI z.cps.toList i).map λc=>.val (.str ⟨#[c]⟩)else none
 |_,_=>none
def pK:IxR X (rOp X.K cq):=by
 intro value slice pins s σ H x y v u Q I rx ry h hs
 obtain⟨M,w,w',r,e,mo,s1,s2,q⟩:=h
 unfold cq at e
 split at e
 .split at e
  .rename_i hz
   obtain⟨c,hc,e2⟩:=Jl e
   cases e2
   obtain rfl:=BQ.iv s1
   obtain rfl:=BQ.iv s2
   exact lO value slice pins s σ H _ _ v u Q I rx ry ⟨_,_,c,rfl,rfl,hz,hc,q _ _ (.same mo (.str _))⟩ hs
  .cases e
 .cases e
noncomputable def Lz:Op2
 | .val (.int i),.val (.int j)=>if(decide (0<j) && decide (j.natAbs<2^600))=true then Gc (.val (.tup [.int (i / j),.int (i % j)]))else none
 |_,_=>none
def aN:Cv X (.builtin "divmod") (rN X.K (o2 Lz)):=by
 intro pins s σ H xs us Q I r h
 obtain⟨x,y,w1,w2,rv,rfl,e,M,mo,s1,s2,q⟩:∃x y w1 w2 rv,xs=[x,y]/\Lz w1 w2=Gc rv/\∃M,MOk M H/\Sh X.K M H x w1/\Sh X.K M H y w2/\∀v H',Nw X.K M H H' v rv->Q v H':=by
  obtain⟨M,ws,rv,e,mo,sh,q⟩:=h
  cases sh with
  |nil=>cases e
  |cons h1 t=>
   cases t with
   |nil=>cases e
   |cons h2 t=>
    cases t with
    |nil=>exact⟨_,_,_,_,rv,rfl,e,M,mo,h1,h2,q⟩
    |cons h3 t=>cases e
 unfold Lz at e
 split at e
 .split at e
  .rename_i i j hh
   simp only[vn,xE]at hh
   obtain⟨h0,h1⟩:=hh
   cases e
   obtain rfl:=BQ.iv s1
   obtain rfl:=BQ.iv s2
   cases r with
   |cons r1 r=>
    cases r with
    |cons r2 r=>
     cases r
     obtain⟨t1,rfl⟩:=r1
     obtain⟨t2,rfl⟩:=r2
     have hp:ABA i j=false:=by
      unfold ABA
      have:j.natAbs.log2<600:=(Nat.log2_lt (by lia)).mpr h1
      have hj:(j==0)=false:=by simp;lia
      simp only[hj,AAX,AAe,ACn]
      exact .inl (yQ (by lia))
     refine PyProof.Rows.divmod_int (by lia) ?_ (.inl hp)
     have fd:i.fdiv j=i / j:=(ABb i (by lia))
     have fm:i.fmod j=i % j:=(ABS i (by lia))
     rw[fd,fm]
     exact⟨.ref s.heap.objs.size,upd H s.heap.objs.size (.tup [.int (i / j),.int (i % j)]),I.laid (λ_ _ q=>vc _ q) (vf _) (show EO X.prog X.w _ _ _ (.tup [V.int (i / j),V.int (i % j)])from⟨(show 2<=sizeLine by decide),_,.cons ⟨_,rfl⟩ (.cons ⟨_,rfl⟩ .nil),zU _ _⟩),rfl,q _ _ (Nw.tup mo I.fresh (.cons (.int _) (.cons (.int _) .nil)))⟩
  .cases e
 .cases e
inductive FP(X:Cx):Wp xM->Wp Ev->Prop
 |nil:FP X [] []
 |con {a:Str} {k:Nat} {p:Pos} {es:Wp xM} {fs:Wp Ev} (ha:a.length<=1000) (t:FP X es fs):FP X (.Constant (.str a) k p::es) (eC (.str a)::fs)
 |val {e:xM} {f:Ev} {p:Pos} {es:Wp xM} {fs:Wp Ev} (h:DE X e f) (t:FP X es fs):FP X (.FormattedValue e (-1) none p::es) (f::fs)
noncomputable def cat:Str->Wp Str->Str:=ACO (· ++ ·)
noncomputable def eFs(fs:Wp Ev):Ev:=λE S=>(evs fs E S).bind λr=>(txs r.1).bind λts=>if(cat yZ ts).length<=sizeLine then Gc (.str (cat yZ ts),r.2)else none
theorem Yk:∀{ts:Wp Str} {out:Str},out.length<=(cat out ts).length
 | [],out=>vf _
 |t::ts,out=>by
  have:=Yk (ts:=ts) (out:=out++t)
  rw[strLen_append]at this
  exact va (yr _ _) this
theorem YN:∀{es fs},FP X es fs->∀{out:Str} {pins:Wp (vy×Obj)} {s:vw} {σ:Sg} {H:Hp} {M:Ms} {E:En} {S S':Sto} {ds ts} {Q:VK},Inv X pins σ H s->EnR X.K M E σ H->StR X.K M S H->evs fs E S=Gc (ds,S')->txs ds=Gc ts->(cat out ts).length<=sizeLine->(∀H' M',Gr M H M' H'->StR X.K M' S' H'->Q (.str (cat out ts)) H')->wpAny (model X.prog X.w) X.A (joinParts out (evalEach es X.env)) (EP X pins σ Q) X.xe s
 |_,_,.nil,out,pins,s,σ,H,M,E,S,S',ds,ts,Q,I,r,st,e,et,hz,q=>by
  cases e
  cases et
  exact PyProof.Rows.joinParts_nil ⟨.str _,H,I.tok _,⟨_,rfl⟩,q H M (.refl st.mo) st⟩ hz
 |_,_,.con (a:=a) ha t,out,pins,s,σ,H,M,E,S,S',ds,ts,Q,I,r,st,e,et,hz,q=>by
  obtain⟨⟨d1,S1⟩,e1,e2⟩:=Ag e
  cases e1
  obtain⟨⟨ds',S2⟩,e3,e4⟩:=Jl e2
  cases e4
  obtain⟨x,e5,e6⟩:=Ag et
  cases e5
  obtain⟨ts',e7,e8⟩:=Jl e6
  cases e8
  refine ABL (thn (cH pins s σ H (λv H1=>v=.str a/\H1=H) I ⟨rfl,rfl⟩) λu s1 z=>?_)
  obtain⟨v,H1,I1,r1,rfl,rfl⟩:=z
  obtain⟨t1,rfl⟩:=r1
  exact⟨va Yk hz,YN t I1 r st e3 e7 hz q⟩
 |_,_,.val h t,out,pins,s,σ,H,M,E,S,S',ds,ts,Q,I,r,st,e,et,hz,q=>by
  obtain⟨⟨d1,S1⟩,e1,e2⟩:=Ag e
  obtain⟨⟨ds',S2⟩,e3,e4⟩:=Jl e2
  cases e4
  obtain⟨x,e5,e6⟩:=Ag et
  obtain⟨ts',e7,e8⟩:=Jl e6
  cases e8
  obtain rfl:d1=.str x:=by
   cases d1 with
   |str y=>cases e5;rfl
   |_=>cases e5
  refine ABL (PyProof.Rows.FormattedValue_plain (thn (h.pe pins s σ H (λv H1=>v=.str x/\∃M1,Gr M H M1 H1/\StR X.K M1 S1 H1) I ⟨M,E,S,_,S1,e1,r,st,λv H1 M1 g1 st1 r1=>⟨r1.iv,M1,g1,st1⟩⟩) λu s1 z=>?_))
  obtain⟨v,H1,I1,r1,rfl,M1,g1,st1⟩:=z
  obtain⟨t1,rfl⟩:=r1
  have hx:(out++x).length<=sizeLine:=va Yk hz
  refine PyProof.Rows.formatField_str (λt' tk=>⟨hx,?_⟩) (by rw[strLen_append]at hx;lia)
  exact YN t (I1.tok tk) (r.step g1.st) st1 e3 e7 hz λH2 M2 g2 st2=>q H2 M2 (g1.trans g2) st2
def jX{e1 e2:xM}{es:Wp xM}{fs:Wp Ev}{p:Pos}(h:FP X (e1::e2::es) fs):DE X (.JoinedStr (e1::e2::es) p) (eFs fs):=⟨λpins s σ H Q I z=>by
 obtain⟨M,E,S,d,S',e,r,st,q⟩:=z
 obtain⟨⟨ds,S1⟩,e1,e⟩:=Ag e
 obtain⟨ts,e2,e⟩:=Ag e
 split at e
 .rename_i hz
  cases e
  exact PyProof.Rows.JoinedStr_many (YN h I r st e1 e2 hz λH' M' g st'=>q _ _ M' g st' (.str _))
 .cases e⟩
end
end Mi
end
noncomputable section
namespace Mi
open PySem PySem.Spec L2 PyProof.Rows
theorem VR{prog:xK}{w:xy}{A:yt}{I:vy}{fp wr:Wp vy}{n:Nat}{P:Nat->vm->Prop}{St:Nat->xZ->Prop}(W:Walks prog w A I fp wr (n+1) P St):Walks prog w A I fp wr n (λi=>P (i+1)) (λi=>St (i+1)) where
 sub:=W.sub
 frame:=λi h h' st k=>W.frame (i+1) h h' st k
 item:=λi s Q E hi st hQ=>W.item (i+1) s Q E (Nat.succ_lt_succ hi) st hQ
 done:=λs Q E st hQ=>W.done s Q E st hQ
 self:=λi s Q E st hQ=>W.self (i+1) s Q E st hQ
def Z8{items:AAn vm}{acc:AAn vm}{x:vm}{r:Wp vm}(h:items.toList=x::r)(hi:ItemsOf (λi v=>items[i+1]?=Gc v) acc r.length):acc.toList=r:=by
 obtain⟨h1,h2⟩:=hi
 apply zt
 intro i
 by_cases hlt:i<acc.size
 .have e:items[i+1]?=Gc acc[i]:=h2 i acc[i] (ABk hlt)
  rw[<-AAp,h,ACB]at e
  rw[AAp,ABk hlt,e]
 .rw[yY (by rw[zO];lia),yY (by lia)]
section
variable{prog:xK}{w:xy}{A:yt}{E:vm->vw->Prop}{s:vw}
def SV{l:vy}{x:vm}{r:Wp vm}{Q:Wp vm->vw->Prop}(hh:A.handled=none)(hl:s.heap.IsList l (x::r).toArray)(hz:r.length<=sizeLine)(hQ:∀(h':xZ) (tk:Nat),(∀b o,s.heap.get? b=Gc o->h'.get? b=Gc o)->Q [x,.ref h'.objs.size] {s with heap:=h'.push {cls:=.type "list",data:=.seq r.toArray},toks:=tk}):wpAny (model prog w) A (unpackItems (.ref l) 2 (Gc 1)) Q E s:=by
 have hlt:l≠s.heap.objs.size:=by obtain⟨o,ho,_⟩:=hl;exact wZ (vz ho)
 have tyl:s.TypeIs (.ref l) "list":=by obtain⟨o,ho,hc,_⟩:=hl;exact⟨o,ho,hc⟩
 unfold unpackItems
 refine vb ?_
 unfold notIterableAtAll
 refine vb (wpAny_specialOf tyl ADG.lookup ?_)
 refine v9 ?_
 simp only[AAX,AAe]
 refine vb (xW (xu hl ?_))
 have hit:(s.heap.push {cls:=.type "list_iterator",data:=.fields #[.ref l,.int 0 0]}).IsListIter s.heap.objs.size l 0:=⟨_,wI _ rfl,rfl,rfl⟩
 have hl1:(s.heap.push {cls:=.type "list_iterator",data:=.fields #[.ref l,.int 0 0]}).IsList l (x::r).toArray:=by
  obtain⟨o,ho,q⟩:=hl
  exact⟨o,vc _ ho,q⟩
 refine vb (xW ?_)
 show wpAny _ _ (pyNext (.ref s.heap.objs.size) >>= _) _ _ _
 refine vb (zY hit hl1 (x:=x) (by simp) λh1 hit1 sb1=>?_)
 refine vb (xW (v9 (v9 ?_)))
 rw[wy (by simp)]
 have hl2:h1.IsList l (x::r).toArray:=by
  obtain⟨o,ho,q⟩:=hl1
  exact⟨o,sb1.extBut l o hlt ho,q⟩
 have W:Walks prog w A.in1 s.heap.objs.size [s.heap.objs.size,l] [s.heap.objs.size] (r.length+1) (λi v=>((x::r).toArray)[i]?=Gc v) (λi h=>h.IsListIter s.heap.objs.size l i/\h.IsList l (x::r).toArray):=by
  have:=Walks.list (prog:=prog) (w:=w) (A:=A.in1) hh s.heap.objs.size l hlt (x::r).toArray
  simpa using this
 refine vb (xW (wpAny_collect_iter (.inr (.inr (.inl rfl))) (VR W).toS (λi s' st=>?_) ⟨hit1,hl2⟩ (λb hb=>?_) (by simp) (λs' acc mv ha=>?_) hz))
 .obtain⟨⟨o,ho,hc,_⟩,_⟩:=st
  exact⟨o,ho,hc⟩
 .simp only[ve,vo,wW]at hb
  rcases hb with rfl|rfl
  .obtain⟨o,ho,_⟩:=hit1
   exact vz ho
  .obtain⟨o,ho,_⟩:=hl2
   exact vz ho
 .have ea:acc.toList=r:=Z8 (items:=(x::r).toArray) (x:=x) (by simp) ha
  rw[ea]
  rw[wy (by simp)]
  have et:r.take (r.length-(2-1-1))=r:=yp (by simp)
  have ed:r.drop (r.length-(2-1-1))=[]:=yO (by simp)
  rw[et,ed]
  obtain⟨hp,gs,dr,tk,os⟩:=s'
  obtain⟨m1,m2,m3,m4,m5⟩:=mv
  dsimp only at m1 m2 m3 m4 m5
  subst m2 m3 m4
  refine vb (wpAny_newList (v9 ?_) hz)
  refine hQ hp tk λb o e=>m1 b o (λz=>?_) ?_
  .rw[wN]at z
   have:=vz e
   rw[z]at this
   exact yD _ this
  .exact sb1.extBut b o (wZ (vz e)) (vc _ e)
def Tu{env:Env}{e1 e2:xM}{k:Nat}{p p2:Pos}{l:vy}{x:vm}{r:Wp vm}{Q:Unit->vw->Prop}(hh:A.handled=none)(hl:s.heap.IsList l (x::r).toArray)(hz:r.length<=sizeLine)(ha:assignEach [e1,.Starred e2 p2] env=[(false,assign e1 env),(true,assign e2 env)])(hQ:∀(h':xZ) (tk:Nat),(∀b o,s.heap.get? b=Gc o->h'.get? b=Gc o)->wpAny (model prog w) A (assignInOrder [assign e1 env,assign e2 env] [x,.ref h'.objs.size]) Q E {s with heap:=h'.push {cls:=.type "list",data:=.seq r.toArray},toks:=tk}):wpAny (model prog w) A (assign (.Tuple [e1,.Starred e2 p2] k p) env (.ref l)) Q E s:=by
 rw[ADO]
 refine vb (zk ?_)
 unfold unpack
 rw[ha]
 exact vb (xW (SV hh hl hz hQ))
end
noncomputable def oo(K:vZ)(i j:Nat):TG:=λv σ H Q=>∃a x xs,v=.ref a/\SqL K H a (x::xs)/\∀q,H q=none->Q ((σ.set i (Gc x)).set j (Gc (.ref q))) (upd H q (.lst xs))
def dh{X:Cx}{i j k:Nat}{x y:Str}{p p1 p2 p3:Pos}(hc:X.calm=true)(hN:X.N.Nodup)(hi:X.N[i]?=Gc x)(hj:X.N[j]?=Gc y)(hx:Loc X.env.scope x)(hy:Loc X.env.scope y)(hf:X.fn x=true\/X.env.scope.names.lookup x=Gc .local)(hg:X.fn y=true\/X.env.scope.names.lookup y=Gc .local)(ha:xz (assignEach [.Name x p1,.Starred (.Name y p3) p2] X.env=[(false,assign (.Name x p1) X.env),(true,assign (.Name y p3) X.env)]) wp):PG X (.Tuple [.Name x p1,.Starred (.Name y p3) p2] k p) (oo X.K i j):=by
 intro pins s σ H v u Q I r h
 obtain⟨a,z,xs,rfl,hq,q⟩:=h
 obtain rfl:u=.ref a:=r
 obtain⟨its,hv,hp,hz⟩:=I.list hq
 cases hv with
 |cons hv1 hv2=>
  rename_i u1 us
  refine Tu (I.ok.hd hc) hp.isList (by rw[<-hv2.length];simp at hz;lia) ha λh' tk hk=>?_
  have I1:Inv X pins σ H {s with heap:=h',toks:=tk}:=I.kept hk
  have I2:=I1.ij (t':=tk) hv2 (by simp at hz;lia)
  have fr:=I1.fresh
  refine zX (thn (TC hN hi hx hf pins _ σ _ z u1 (λσ' H'=>σ'=σ.set i (Gc z)/\H'=upd H h'.objs.size (.lst xs)) I2 hv1 ⟨rfl,rfl⟩) λ_ s2 z=>?_)
  obtain⟨σ2,H2,I3,e1,e2⟩:=z
  subst e1 e2
  refine zX (thn (TC hN hj hy hg pins s2 _ _ (.ref h'.objs.size) (.ref h'.objs.size) Q I3 rfl (q _ fr)) λ_ s3 z=>?_)
  exact ABn z
noncomputable def ig(S:Sto):D->vi (Wp D)
 | .lst ds=>Gc ds
 | .ref n=>FK S n
 |_=>none
noncomputable def Hj(i j:Nat)(f:Ev):Ex:=λE S=>(f E S).bind λr=>(ig r.2 r.1).bind λds=>match ds with
 |x::xs=>Gc (.nx,(E.set i (Gc x)).set j (Gc (.lst xs)),r.2)
 | []=>none
def TV{X:Cx}{i j k:Nat}{x y:Str}{p p1 p2 p3 pos:Pos}{e:xM}{f:Ev}(hc:X.calm=true)(hN:X.N.Nodup)(he:DE X e f)(hi:xz (X.N[i]?=Gc x) wp)(hj:xz (X.N[j]?=Gc y) wp)(hx:xz (Loc X.env.scope x) wS)(hy:xz (Loc X.env.scope y) wS)(hf:xz (X.fn x=true\/X.env.scope.names.lookup x=Gc .local) wP)(hg:xz (X.fn y=true\/X.env.scope.names.lookup y=Gc .local) wP)(ha:xz (assignEach [.Name x p1,.Starred (.Name y p3) p2] X.env=[(false,assign (.Name x p1) X.env),(true,assign (.Name y p3) X.env)]) wp)(hs:xz (swapsWithSole [.Tuple [.Name x p1,.Starred (.Name y p3) p2] k p] e pos.line X.env=pure false) wp)(hw:xz (swappedStores [.Tuple [.Name x p1,.Starred (.Name y p3) p2] k p] e X.env=pure none) wp)(h1:xz ((assignEach [.Tuple [.Name x p1,.Starred (.Name y p3) p2] k p] X.env).map (·.2)=[assign (.Tuple [.Name x p1,.Starred (.Name y p3) p2] k p) X.env]) wp):DS X (.Assign [.Tuple [.Name x p1,.Starred (.Name y p3) p2] k p] e pos) (Hj i j f):=⟨
 GH (X9 he.pe (dh hc hN hi hj hx hy hf hg ha) hs hw h1) λDn σ H z=>by
  obtain⟨M,E,S,fl,E',S',e,r,st,q⟩:=z
  obtain⟨⟨d,S1⟩,e1,e⟩:=Ag e
  obtain⟨ds,e2,e⟩:=Ag e
  cases ds with
  |nil=>cases e
  |cons d1 ds=>
   cases e
   refine⟨M,E,S,d,S1,e1,r,st,λv H1 M1 g1 st1 r1=>?_⟩
   have ea:asL (dr S1 d)=Gc (d1::ds):=by
    cases d with
    |lst es=>exact e2
    |ref n=>
     have:=Eo e2
     show asL (match S1[n]? with|some (.lst ds)=>.own ds|_=>.val (.ref n))=_
     rw[this]
     rfl
    |_=>cases e2
   obtain⟨a,ys,rfl,hy,ry⟩:=(VE st1 r1).l ea
   cases ry with
   |cons ry1 ry2=>
    rename_i v0 vs0
    refine⟨a,_,_,rfl,.of hy,λq0 hq=>?_⟩
    have gr:=ID (o:=.lst vs0) hq
    have g2:=Gr.grow st1.mo gr
    exact q _ _ M1 (g1.trans g2) (((r.step (g1.trans g2).st).put (ry1.step g2.st)).put (.lst B7 (λz=>st1.mo.some z hq) (ry2.step g2.st))) (st1.grow gr)⟩
end Mi
end
noncomputable section
namespace Mi
open PySem PySem.Spec L2 PyProof.Rows
def bB(its:Wp vm):slicePick its.toArray none none (Gc (-1))=its.reverse.toArray:=by
 have h1:(sliceBounds none none (Gc (-1)) its.toArray.size)=((its.length:Int)-1,-1,-1):=by
  unfold sliceBounds
  simp
 unfold slicePick
 rw[h1]
 have h2:sliceRange ((its.length:Int)-1) (-1) (-1)=(xI its.length).map λk=>its.length-1-k:=by
  unfold sliceRange
  have h0:¬((-1:Int)>0):=by decide
  simp only[h0,AAe]
  have hc:(if(its.length:Int)-1> -1 then((its.length:Int)-1- -1- -1-1) / (- -1)else 0).toNat=its.length:=by
   by_cases hn:(its.length:Int)-1> -1
   .rw[wU hn]
    have:((its.length:Int)-1- -1- -1-1) / (- -1)=its.length:=by
     have e1:((its.length:Int)-1- -1- -1-1)=its.length:=by lia
     rw[e1]
     simp
    rw[this]
    simp
   .rw[wy hn];lia
  rw[hc]
  apply ADJ
  intro k hk
  have hk':k<its.length:=zu.mp hk
  lia
 dsimp only
 rw[h2]
 congr 1
 apply zt
 intro i
 have e:((xI its.length).map λk=>its.length-1-k).filterMap (its.toArray[·]?)=((xI its.length).map λk=>its.length-1-k).map λk=>its.getD k .none:=by
  have:∀l:Wp Nat,(∀j∈l,j<its.length)->l.filterMap (its.toArray[·]?)=l.map λk=>its.getD k .none:=by
   intro l
   induction l with
   |nil=>intro _;rfl
   |cons j l ih=>
    intro h
    have hj:=h j (by simp)
    have e:its.toArray[j]?=Gc (its.getD j .none):=by simp[List.getD,hj]
    rw[wm,e,v5,ih λk hk=>h k (vh _ hk)]
  refine this _ λj hj=>?_
  obtain⟨k,hk,rfl⟩:=vq.mp hj
  have:=zu.mp hk
  lia
 rw[e,wR]
 by_cases hi:i<its.length
 .rw[wJ,ADK hi,List.getElem?_reverse hi]
  show Gc (its.getD (its.length-1-i) .none)=_
  simp[List.getD,show its.length-1-i<its.length by lia]
 .rw[yY (by simp;lia),yY (by simp;lia)]
def aC:∀{xs:Wp V} {us:Wp vm},Vals xs us->Vals xs.reverse us.reverse:=λh=>by
 induction h with
 |nil=>exact .nil
 |cons h t ih=>
  rw[AAg,AAg]
  exact ih.append (.cons h .nil)
section
variable{X:Cx}{e st:xM}{te:TE}{ts:TO}{f g:Ev}{pos p2:Pos}{c:xD}
def kI(he:PE X e te)(hp:PO X (Gc st) ts):PE X (.Subscript e (.Slice none none (Gc st) p2) pos) (λσ H Q=>te σ H λx H1=>ts σ H1 λo H2=>o=Gc (-1)/\∃a xs,x=.ref a/\SqL X.K H2 a xs/\∀p,H2 p=none->Q (.ref p) (upd H2 p (.lst xs.reverse))):=by
 intro pins s σ H Q I h
 refine Subscript_ (thn (he pins s σ H _ I h) λv s1 z=>?_)
 obtain⟨x,H1,I1,r1,q1⟩:=z
 refine wpAny_Slice ?_
 rw[ADN]
 refine v9 ?_
 refine v9 ?_
 refine thn (hp pins s1 σ H1 _ I1 q1) λvs s2 z=>?_
 obtain⟨o,H2,I2,ps,rfl,a,xs,rfl,hx,q⟩:=z
 obtain rfl:v=.ref a:=r1
 have I4:Inv X pins σ H2 {s2 with heap:=s2.heap.push {cls:=.type "slice",data:=.fields #[.none,.none,vs]}}:=I2.kept (t':=s2.toks) λb ob q=>vc _ q
 obtain⟨its,r,ht,hz⟩:=I4.list hx
 have hg:wpAny (model X.prog X.w) X.A (getItem (.ref a) (.ref s2.heap.objs.size)) (EP X pins σ Q) X.xe {s2 with heap:=s2.heap.push {cls:=.type "slice",data:=.fields #[.none,.none,vs]}}:=by
  refine ABw ht.isList (ADV ..) .none .none ps (by simp) ?_ (by rw[vv,<-r.length];exact hz)
  rw[bB]
  refine⟨.ref _,_,I4.ij (its:=its.reverse) (aC r) (by rw[List.length_reverse];exact hz),rfl,q _ I4.fresh⟩
 show wpAny (model X.prog X.w) X.A (subscriptTail e _ (.ref a) (.ref s2.heap.objs.size)) (EP X pins σ Q) X.xe {s2 with heap:=s2.heap.push {cls:=.type "slice",data:=.fields #[.none,.none,vs]}}
 exact tail_any (ops:=[.ref a,.ref s2.heap.objs.size]) ht.isList.typeIs ABp.lookup hg (by with_unfolding_all rfl)
noncomputable def aY:Op1:=λw=>(asL w).map λds=>.own ds.reverse
def gH(he:DE X e f)(hp:DE X st g)(hg:∀E S,g E S=Gc (.int (-1),S)):DE X (.Subscript e (.Slice none none (Gc st) p2) pos) (Ny c (o1 aY) [f]):=⟨
 BN (kI he.pe (NZ hp.pe)) λσ H Q z=>by
  obtain⟨M,E,S,d,S',e,r,st,q⟩:=z
  obtain⟨⟨ds,S1⟩,e1,e⟩:=Ag e
  obtain⟨w,e2,e3⟩:=Ag e
  obtain⟨⟨d0,S0⟩,e4,e1⟩:=Ag e1
  cases e1
  obtain⟨es,ea,e5⟩:=Jl e2
  subst e5
  refine⟨M,E,S,d0,S0,e4,r,st,λv H1 M1 g1 st1 r1=>?_⟩
  refine⟨M1,E,S0,.int (-1),S0,hg _ _,r.step g1.st,st1,λv2 H2 M2 g2 st2 r2=>⟨-1,r2.iv,rfl,?_⟩⟩
  obtain⟨a,ys,rfl,hy,ry⟩:=(VE st2 (r1.step g2.st)).l ea
  refine⟨a,ys,rfl,.of hy,λp hp=>?_⟩
  obtain⟨M3,g3,st3,d3⟩:=(Nw.lst st2.mo hp ry.reverse).fin st2 e3
  exact q _ _ M3 ((g1.trans g2).trans g3) st3 d3⟩
end
end Mi
end
noncomputable section
namespace Mi
open PySem PySem.Spec L2
section
noncomputable def GV:D:=.tup [.int 0,.int 1]
noncomputable def Po:D:=.tup [.int 1,.int 1]
noncomputable def EB:D:=.tup [.str "bring",.str "pool",.str "swap",.str "trade"]
def MI:=AU (Fi (eOp (o2 SQ) [eV 0,eC (.ty "int")]) (Jm (eOp (o2 SQ) [eV 0,eC (.ty "bool")])))
def FF:=AR (AV 1 MI)
def NH:=AU (Fi (AB FF [eV 0]) (eOp (o2 wGe) [eV 0,eV 1]))
def Cu:=AR (AV 2 NH)
def Hw:=AU (Fi (AB Cu [eV 0,eV 1]) (eOp (o2 wLe) [eV 0,eV 2]))
def Am:=AR (AV 3 Hw)
def Fc:=AM (WC 0 1 (eOp (o1 ie) [eV 0]) (eOp (o1 ie) [eV 1])) (AM (LO (Od 1) (eOp (o2 wNe) [eV 1,eI 0]) (WC 0 1 (eV 1) (eOp (o2 SO) [eV 0,eV 1]))) (AU (eV 0)))
def BW:=AR (AV 2 Fc)
def PF:=AM (A6 2 (AB BW [eV 0,eV 1])) (AU (Bh [eOp (o2 K9) [eV 0,eV 2],eOp (o2 K9) [eV 1,eV 2]]))
def DA:=AR (AV 3 PF)
def UJ:=AU (AB DA [eOp (o2 BF) [eOp (o2 Bq) [eIx (eV 0) (eI 0),eIx (eV 1) (eI 1)],eOp (o2 Bq) [eIx (eV 1) (eI 0),eIx (eV 0) (eI 1)]],eOp (o2 Bq) [eIx (eV 0) (eI 1),eIx (eV 1) (eI 1)]])
def Gi:=AR (AV 2 UJ)
def Uk:=AU (AB DA [eOp (o2 Ra) [eOp (o2 Bq) [eIx (eV 0) (eI 0),eIx (eV 1) (eI 1)],eOp (o2 Bq) [eIx (eV 1) (eI 0),eIx (eV 0) (eI 1)]],eOp (o2 Bq) [eIx (eV 0) (eI 1),eIx (eV 1) (eI 1)]])
def Ea:=AR (AV 2 Uk)
def Qx:=AU (AB DA [eOp (o2 Bq) [eIx (eV 0) (eI 0),eIx (eV 1) (eI 0)],eOp (o2 Bq) [eIx (eV 0) (eI 1),eIx (eV 1) (eI 1)]])
def Cc:=AR (AV 2 Qx)
def SF:=AM (A6 4 (eOp (o2 BF) [eOp (o2 Bq) [eOp (o2 Bq) [eIx (eV 0) (eI 0),eIx (eV 2) (eI 1)],eV 1],eOp (o2 Bq) [eOp (o2 Bq) [eIx (eV 2) (eI 0),eIx (eV 0) (eI 1)],eV 3]])) (AU (AB DA [eV 4,eOp (o2 Bq) [eOp (o2 Bq) [eIx (eV 0) (eI 1),eIx (eV 2) (eI 1)],eOp (o2 BF) [eV 1,eV 3]]]))
def Iv:=AR (AV 5 SF)
def Gu:=AU (Fi (eOp (o2 wLt) [eV 1,eOp (o1 FI) [eV 0]]) (eOp (o2 wGe) [eIx (eIx (eV 0) (eV 1)) (eI 1),eV 2]))
def Bc:=AR (AV 3 Gu)
def Gb:=AU (Fi (AB Bc [eV 0,eV 1,eI 1]) (Fi (AB Bc [eV 0,eV 2,eI 1]) (eOp (o2 wEq) [eIx (eIx (eV 0) (eV 1)) (eI 0),eIx (eIx (eV 0) (eV 2)) (eI 0)])))
def D2:=AR (AV 3 Gb)
def JB:=AU (Fi (AB Bc [eV 0,eV 1,eV 2]) (eOp (o2 wNe) [eIx (eIx (eV 0) (eV 1)) (eI 0),eV 3]))
def D3:=AR (AV 4 JB)
def D5:=AM (A6 3 (eIx (eV 2) (eI 0))) (AM (xIf (eOp (o2 wEq) [eV 3,eC (.str "pool")]) (AU (AB D2 [eV 0,eIx (eV 2) (eI 1),eIx (eV 2) (eI 2)])) BX) (AM (xIf (eOp (o2 wEq) [eV 3,eC (.str "swap")]) (AU (AB D3 [eV 0,eIx (eV 2) (eI 1),eIx (eV 2) (eI 2),eIx (eV 2) (eI 3)])) BX) (AM (xIf (eOp (o2 wEq) [eV 3,eC (.str "trade")]) (AM (A6 4 (As [] 1 (C7 (eV 1)) (tNm 0) (eOp (o2 wEq) [eIx (eV 0) (eI 0),eC (.str "trade")]) (eIx (eV 0) (eI 1)))) (AU (Fi (eOp (o2 (wIn true)) [eIx (eV 2) (eI 1),eV 4]) (AB D3 [eV 0,eIx (eV 2) (eI 2),eIx (eV 2) (eI 3),eIx (eV 2) (eI 4)])))) BX) (AM (xIf (eOp (o2 (wIn false)) [eV 3,Bh [eC (.str "spoil"),eC (.str "throw")]]) (AU (AB Bc [eV 0,eIx (eV 2) (eI 1),eIx (eV 2) (eI 2)])) BX) (AU (eC (.bl true)))))))
def CK:=AR (AV 5 D5)
def IQ:=AM (Ki (tTp [tNm 3,tNm 4]) (eIx (eV 0) (eV 1))) (AU (eOp (o2 BF) [eOp (o2 BF) [eOp (HR false true) [eV 0,eV 1],Km [Bh [eV 3,eOp (o2 Ra) [eV 4,eV 2]]]],eOp (HR true false) [eV 0,eOp (o2 BF) [eV 1,eI 1]]]))
def BS:=AR (AV 5 IQ)
def BP:=AM (A6 2 (eIx (eV 1) (eI 0))) (AM (xIf (eOp (o2 wEq) [eV 2,eC (.str "bring")]) (AU (eOp (o2 BF) [eV 0,Km [Bh [eIx (eV 1) (eI 2),eIx (eV 1) (eI 3)]]])) BX) (AM (xIf (eOp (o2 wEq) [eV 2,eC (.str "pool")]) (AM (Ki (tTp [tNm 3,tNm 4]) (eIx (eV 0) (eIx (eV 1) (eI 1)))) (AM (A6 5 (eIx (eIx (eV 0) (eIx (eV 1) (eI 2))) (eI 1))) (AU (eOp (o2 BF) [AB BS [AB BS [eV 0,eIx (eV 1) (eI 1),eV 4],eIx (eV 1) (eI 2),eV 5],Km [Bh [eV 3,eOp (o2 BF) [eV 4,eV 5]]]])))) BX) (AM (xIf (eOp (o2 (wIn false)) [eV 2,Bh [eC (.str "swap"),eC (.str "trade")]]) (AM (Ki (tTp [tNm 6,tNm 7,tNm 3,tNm 8]) (eOp (HR true false) [eV 1,eOp (o1 ZN) [eI 4]])) (AU (eOp (o2 BF) [AB BS [eV 0,eV 6,eV 7],Km [Bh [eV 3,eV 8]]]))) BX) (AM (xIf (eOp (o2 (wIn false)) [eV 2,Bh [eC (.str "spoil"),eC (.str "throw")]]) (AU (AB BS [eV 0,eIx (eV 1) (eI 1),eIx (eV 1) (eI 2)])) BX) (AU (eV 0))))))
def Ad:=AR (AV 9 BP)
def HG:=AU (As [] 1 (C7 (eIx (eV 0) (eI 1))) (tNm 0) Ai (Bh [eIx (eV 0) (eI 0),eIx (eV 0) (eI 1)]))
def Be:=AR (AV 1 HG)
def EH:=AM (A6 1 (eIx (eV 0) (eI 0))) (AM (xIf (eOp (o2 wEq) [eV 1,eC (.str "pool")]) (AU (eOp (o1 QH) [Km [eIx (eV 0) (eI 1),eIx (eV 0) (eI 2)]])) BX) (AM (xIf (eOp (o2 (wIn false)) [eV 1,Bh [eC (.str "swap"),eC (.str "trade")]]) (AU (Km [eIx (eV 0) (eOp (o1 ZN) [eI 4])])) BX) (AU (Km []))))
def Bx:=AR (AV 2 EH)
def JN:=AM (A6 1 (AB Be [eV 0])) (AM (A6 2 (eIx (eV 0) (eI 2))) (AM (Ml (iA (eV 2)) (tTp [tNm 3,tNm 4]) (AM (xIf (Jm (AB CK [eV 1,eOp (HR false true) [eV 2,eV 3],eV 4])) (AU (eV 3)) BX) (A6 1 (AB Ad [eV 1,eV 4])))) (AU (eC .non))))
def CL:=AR (AV 5 JN)
def G9:=AM (A6 1 (AB CL [eV 0])) (xIf (eOp (o2 (SD true)) [eV 1,eC .non]) IX BX)
def Bi:=AR (AV 2 G9)
def Jz:=AU (eOp (o1 CD) [As [1] 1 (Ts [eV 0]) (tNm 1) Ai (eIf (eOp (o2 wEq) [eV 1,eV 0]) (eC Po) (eC GV))])
def Ew:=AR (AV 2 Jz)
def IS:=AU (eOp (o1 CD) [As [1,3] 2 (VZ (eV 0) (eV 2)) (tTp [tNm 2,tNm 3]) Ai (AB Iv [eV 2,eV 0,eV 3,eV 1])])
def BV:=AR (AV 4 IS)
def Co:=AM (A6 3 (AB Bx [eV 2])) (AM (xIf (eOp (o2 wEq) [eOp (o1 FI) [eV 3],eI 1]) (AU (eIx (eV 1) (eIx (eV 3) (eI 0)))) BX) (AM (Ki (tTp [tNm 4,tNm 5]) (eV 3)) (AU (AB BV [eIx (eV 1) (eV 4),eIx (eIx (eV 0) (eV 4)) (eI 1),eIx (eV 1) (eV 5),eIx (eIx (eV 0) (eV 5)) (eI 1)]))))
def A9:=AR (AV 6 Co)
def Ib:=AU (eOp (o2 BF) [eOp (o1 ao) [As [2] 2 (C7 (eV 1)) (tTp [tNm 1,tNm 2]) Ai (eOp (o2 Bq) [eV 2,eIx (eV 0) (eV 1)])],eOp (o2 Bq) [eIx (eV 0) (eI 2),eIx (eV 2) (eOp (o1 ZN) [eI 1])]])
def Dg:=AR (AV 3 Ib)
def Im:=AM (Ki (tTp [tNm 3,tNm 4,tNm 5]) (eOp (HR true false) [eV 2,eI 1])) (AU (AB DA [eOp (o2 Bq) [eV 4,eIx (eV 5) (eIx (eIx (eV 1) (eV 3)) (eI 0))],AB Dg [eV 0,eV 1,eV 5]]))
def EJ:=AR (AV 6 Im)
def HA:=AM (Ki (tTp [tNm 5,tNm 6]) (AB EJ [eV 0,eV 1,eV 3])) (AU (AB BV [eV 4,eOp (o2 Ra) [eV 6,eV 5],eIx (eV 2) (eIx (eV 3) (eI 1)),eV 5]))
def C6:=AR (AV 7 HA)
def Io:=AM (Ki (tTp [tNm 2,tNm 3,tNm 4]) (eOp (HR true false) [eV 0,eI 1])) (AM (A6 5 (AB Cc [eIx (eV 1) (eV 2),eV 4])) (AM (A6 6 (jz (o1 RB) [eV 1])) (AM (PJ (AB Ea [eIx (eV 1) (eV 2),eV 5]) (eV 6) (eV 2)) (AM (PJ (AB Gi [eIx (eV 1) (eV 3),eV 5]) (eV 6) (eV 3)) (AU (eOp (o1 CD) [eV 6]))))))
def EV:=AR (AV 7 Io)
def A3:=AM (xIf (eOp (o2 wEq) [eIx (eV 3) (eI 0),eC (.str "throw")]) (AU (AB C6 [eV 0,eV 1,eV 2,eV 3,eV 4])) BX) (AM (xIf (eOp (o2 wEq) [eIx (eV 3) (eI 0),eC (.str "sell")]) (AU (AB EV [eV 3,eV 4])) BX) (AU (eV 4)))
def Ab:=AR (AV 5 A3)
def A5:=AM (A6 4 (As [0,1,2,3] 1 (C7 (eV 2)) (tNm 4) Ai (AB Ab [eV 0,eV 1,eV 2,eV 3,eV 4]))) (AM (xIf (eOp (o2 wEq) [eIx (eV 3) (eI 0),eC (.str "bring")]) (AU (eOp (o2 BF) [eV 4,Km [AB Ew [eIx (eV 0) (eI 0),eIx (eV 3) (eI 1)]]])) BX) (AM (xIf (eOp (o2 (wIn false)) [eIx (eV 3) (eI 0),eC EB]) (AU (eOp (o2 BF) [eV 4,Km [AB A9 [eV 1,eV 2,eV 3]]])) BX) (AU (eV 4))))
def Ah:=AR (AV 5 A5)
def MF:=AM (Ki (tTp [tNm 2,tNm 3,tNm 4]) (eV 0)) (AM (A6 5 (AB Be [eV 0])) (AM (A6 6 (As [] 1 (C7 (eV 3)) (tNm 0) Ai (eIx (eV 0) (eI 2)))) (AM (A6 7 (eIx (eV 2) (eI 3))) (AM (Ml (C7 (eOp (HR false true) [eV 4,eV 1])) (tNm 8) (AM (A6 7 (AB Ab [eV 2,eV 5,eV 6,eV 8,eV 7])) (AM (A6 6 (AB Ah [eV 2,eV 5,eV 6,eV 8])) (A6 5 (AB Ad [eV 5,eV 8]))))) (AU (Bh [eV 5,eV 6,eV 7]))))))
def FD:=AR (AV 9 MF)
def IH:=AM (xIf (eOp (o2 wLt) [eV 1,eOp (o1 FI) [eV 0]]) (AU (eIx (eV 0) (eV 1))) BX) (AU (eI 0))
def DK:=AR (AV 2 IH)
def Qy:=AU (J4 [eV 0,eOp (o1 eZ) [eOp (o2 wGe) [eV 0,eOp (o2 VY) [eI 10,eI 18]]],eI 0,eOp (o2 SO) [eV 0,eI 1000000007]])
def Ij:=AR (AV 1 Qy)
def Je:=AM (xIf (Fi (eOp (o2 wEq) [eIx (eV 0) (eI 1),eI 1]) (eOp (o2 wGt) [eIx (eV 0) (eI 0),eI 0])) (AM (A6 2 (eOp (o2 SO) [eIx (eV 0) (eI 0),eV 1])) (AM (PJ (eOp (o2 K9) [eIx (eV 0) (eI 0),eV 1]) (eV 0) (eI 0)) (AU (eV 2)))) BX) (AM (PJ (eOp (o2 BF) [eIx (eV 0) (eI 2),eI 1]) (eV 0) (eI 2)) (AM (A6 3 (eOp (o2 SO) [eOp (o2 Bq) [eOp (o2 BF) [eIx (eV 0) (eI 3),eI 17],eOp (o2 BF) [eI 69621,eOp (o2 Bq) [eI 2,eIx (eV 0) (eI 2)]]],eI 2147483647])) (AM (A6 3 (eOp (o2 SO) [eOp (o2 BF) [eOp (o2 BF) [eOp (o2 Bq) [eV 3,eV 3],eOp (o2 Bq) [eI 40503,eIx (eV 0) (eI 2)]],eI 5],eI 2147483629])) (AU (eOp (o2 SO) [eOp (o2 K9) [eOp (o2 SO) [eOp (o2 Bq) [eV 3,eI 48271],eI 2147483647],eI 32],eV 1])))))
def AH:=AR (AV 4 Je)
def ML:=AM (LO (Od 1) (eOp (o2 wGt) [eV 1,eI 0]) (WC 0 1 (eV 1) (eOp (o2 SO) [eV 0,eV 1]))) (AU (eV 0))
def Gh:=AR (AV 2 ML)
def PK:=AM (A6 2 (AB Gh [eOp (o1 ie) [eV 0],eV 1])) (AU (Bh [eOp (o2 K9) [eV 0,eV 2],eOp (o2 K9) [eV 1,eV 2]]))
def Bf:=AR (AV 3 PK)
def PU:=AU (AB Bf [eOp (o2 BF) [eOp (o2 Bq) [eIx (eV 0) (eI 0),eIx (eV 1) (eI 1)],eOp (o2 Bq) [eIx (eV 1) (eI 0),eIx (eV 0) (eI 1)]],eOp (o2 Bq) [eIx (eV 0) (eI 1),eIx (eV 1) (eI 1)]])
def CI:=AR (AV 2 PU)
def Nb:=AU (AB Bf [eOp (o2 Bq) [eIx (eV 0) (eI 0),eIx (eV 1) (eI 0)],eOp (o2 Bq) [eIx (eV 0) (eI 1),eIx (eV 1) (eI 1)]])
def Aq:=AR (AV 2 Nb)
def PL:=AU (AB CI [eV 0,Bh [eOp (o2 Ra) [eI 0,eIx (eV 1) (eI 0)],eIx (eV 1) (eI 1)]])
def D1:=AR (AV 2 PL)
def KP:=AM (A6 2 (c9 [0] 1 (Ts [eV 1]) (tNm 1) Ai (eIx (Km [eI 0,eI 1,AB AH [eV 0,eI 4],AB AH [eV 0,eI 9]]) (AB AH [eV 0,eI 4])))) (AM (xIf (eOp (o2 wEq) [eOp (o1 ao) [eV 2],eI 0]) (PJ (eI 1) (eV 2) (AB AH [eV 0,eV 1])) BX) (AU (eOp (o1 CD) [As [2] 1 (C7 (eV 2)) (tNm 1) Ai (AB Bf [eV 1,eOp (o1 ao) [eV 0]])])))
def Dw:=AR (AV 3 KP)
def Ir:=AM (A6 1 (eOp (o2 BF) [eOp (o2 VY) [eI 10,eI 30],AB AH [eV 0,eI 99]])) (AU (eIx (Km [eOp (o2 BF) [eI 1,AB AH [eV 0,eI 4]],eOp (o2 BF) [eI 1,AB AH [eV 0,eI 40]],eOp (o2 BF) [eI 1,AB AH [eV 0,eI 999]],eV 1]) (eOp (o2 K9) [AB AH [eV 0,eI 7],eI 2])))
def BE:=AR (AV 2 Ir)
def Nx:=AM (WC 1 2 (eOp (o2 BF) [eI 1,AB AH [eV 0,eI 4]]) (eOp (o2 BF) [eI 1,AB AH [eV 0,eI 5]])) (AM (A6 3 (eIx (Km [eOp (o2 BF) [eI 1,AB AH [eV 0,eI 3]],eOp (o2 BF) [eI 1,AB AH [eV 0,eI 20]]]) (AB AH [eV 0,eI 2]))) (AU (Bh [eV 1,eV 2,eV 3,AB Dw [eV 0,eV 1],AB AH [eV 0,eI 10],AB AH [eV 0,eI 10]])))
def IC:=AR (AV 4 Nx)
def OQ:=AM (A6 2 (J4 [])) (AM (Ml (Ts [eIx (Km [eI 0,eI 1,AB AH [eV 0,eI 5]]) (AB AH [eV 0,eI 3])]) (tNm 3) (EA (Mq Ng (eV 2) [Bh [AB AH [eV 0,eIx (eV 1) (eI 1)],AB BE [eV 0],AB Dw [eV 0,eIx (eV 1) (eI 0)]]]))) (AU (eOp (o1 CD) [eV 2])))
def IA:=AR (AV 4 OQ)
def NG:=AM (A6 1 (eOp (o2 BF) [eI 1,AB AH [eV 0,eI 12]])) (AU (AB Bf [eOp (o2 BF) [eI 1,AB AH [eV 0,eV 1]],eV 1]))
def GQ:=AR (AV 2 NG)
def MQ:=AU (eOp (o1 CD) [As [0] 1 (Ts [eV 1]) (tNm 1) Ai (eOp (o2 BF) [eI 1,eIx (Km [AB AH [eV 0,eI 3],AB AH [eV 0,eI 99]]) (AB AH [eV 0,eI 2])])])
def D7:=AR (AV 2 MQ)
def OF:=AU (J4 [c9 [] 1 (C7 (eIx (eV 0) (eI 1))) (tNm 0) Ai (jz (o1 RB) [eV 0]),eOp (o1 CD) [eIx (eIx (eV 0) (eI 0)) (eI 3)],J4 []])
def IK:=AR (AV 1 OF)
def MR:=AM (A6 2 (J4 [])) (AM (Ml (VZ (eIx (eV 0) (eI 2)) (eIx (eV 1) (eI 2))) (tTp [tNm 3,tNm 4]) (AM (A6 5 (AB CI [AB Aq [Bh [eIx (eV 0) (eI 1),eI 1],eV 3],AB Aq [Bh [eIx (eV 1) (eI 1),eI 1],eV 4]])) (EA (Mq Ng (eV 2) [AB Aq [eV 5,AB Bf [eI 1,eOp (o2 BF) [eIx (eV 0) (eI 1),eIx (eV 1) (eI 1)]]]])))) (AU (eOp (o1 CD) [eV 2])))
def GY:=AR (AV 6 MR)
def PN:=AM (A6 3 (eIx (eV 2) (eI 3))) (AM (A6 4 (eOp (o2 BF) [eOp (o1 ao) [As [3] 3 (C7 (eV 1)) (tTp [tNm 1,tNm 2,tNm 3]) Ai (eOp (o2 Bq) [eV 2,eIx (eV 0) (eV 1)])],eOp (o2 Bq) [eIx (eV 0) (eI 2),eIx (eV 3) (eOp (o1 ZN) [eI 1])]])) (AU (AB Bf [eOp (o2 Bq) [eIx (eV 2) (eI 2),eIx (eV 3) (eIx (eIx (eV 1) (eIx (eV 2) (eI 1))) (eI 0))],eV 4])))
def Jb:=AR (AV 5 PN)
def NS:=AM (A6 3 (J4 [])) (AM (Ml (VZ (eV 0) (eV 2)) (tTp [tNm 4,tNm 5]) (EA (Mq Ng (eV 3) [AB CI [AB Aq [eV 4,AB D1 [Bh [eI 1,eI 1],eV 1]],AB Aq [eV 5,eV 1]]]))) (AU (eOp (o1 CD) [eV 3])))
def Ej:=AR (AV 6 NS)
def O0:=AM (A6 2 (jz (o1 RB) [eV 0])) (AM (A6 3 (AB Aq [eIx (eV 2) (eIx (eV 1) (eI 1)),eIx (eV 1) (eI 3)])) (AM (PJ (AB D1 [eIx (eV 2) (eIx (eV 1) (eI 1)),eV 3]) (eV 2) (eIx (eV 1) (eI 1))) (AM (PJ (AB CI [eIx (eV 2) (eIx (eV 1) (eI 2)),eV 3]) (eV 2) (eIx (eV 1) (eI 2))) (AU (eOp (o1 CD) [eV 2])))))
def Fx:=AR (AV 4 O0)
def La:=AM (Ki (tTp [tNm 3,tNm 4,tNm 5]) (eV 1)) (xIf (eOp (o2 wEq) [eIx (eV 2) (eI 0),eC (.str "throw")]) (AM (WC 6 7 (AB Jb [eV 0,eV 3,eV 2]) (eIx (eIx (eV 3) (eIx (eV 2) (eI 1))) (eI 2))) (AM (PJ (eOp (o2 Ra) [eIx (eIx (eV 3) (eIx (eV 2) (eI 1))) (eI 1),eIx (eV 2) (eI 2)]) (eIx (eV 3) (eIx (eV 2) (eI 1))) (eI 1)) (AM (Ml (C7 (eV 3)) (tNm 8) (PJ (AB Ej [eIx (eV 8) (eI 2),eV 6,eV 7]) (eV 8) (eI 2))) (PJ (AB Ej [eV 4,eV 6,eV 7]) (eV 1) (eI 1))))) (AM (Ml (C7 (eV 3)) (tNm 8) (PJ (AB Fx [eIx (eV 8) (eI 2),eV 2]) (eV 8) (eI 2))) (PJ (AB Fx [eV 4,eV 2]) (eV 1) (eI 1))))
def Fw:=AR (AV 9 La)
def Ge:=AM (Ki (tTp [tNm 3,tNm 4,tNm 5]) (eV 1)) (AM (A6 6 (eIx (eV 2) (eI 0))) (xIf (eOp (o2 wEq) [eV 6,eC (.str "bring")]) (EA (Mq Ng (eV 3) [J4 [eIx (eV 2) (eI 2),eIx (eV 2) (eI 3),eOp (o1 CD) [As [2] 1 (Ts [eIx (eV 0) (eI 0)]) (tNm 1) Ai (Bh [eOp (o1 eZ) [eOp (o2 wEq) [eV 1,eIx (eV 0) (eI 1)]],eI 1])]]])) (xIf (eOp (o2 wEq) [eV 6,eC (.str "pool")]) (AM (WC 7 8 (eIx (eV 3) (eIx (eV 2) (eI 1))) (eIx (eV 3) (eIx (eV 2) (eI 2)))) (AM (EA (Mq Ng (eV 3) [J4 [eIx (eV 7) (eI 0),eOp (o2 BF) [eIx (eV 7) (eI 1),eIx (eV 8) (eI 1)],AB GY [eV 7,eV 8]]])) (AM (PJ (eI 0) (eV 7) (eI 1)) (PJ (eI 0) (eV 8) (eI 1))))) (xIf (eOp (o2 (wIn false)) [eV 6,Bh [eC (.str "swap"),eC (.str "trade")]]) (AM (Ki (tTp [tNm 9,tNm 10,tNm 11,tNm 12]) (eOp (HR true false) [eV 2,eOp (o1 ZN) [eI 4]])) (AM (PJ (eOp (o2 Ra) [eIx (eIx (eV 3) (eV 9)) (eI 1),eV 10]) (eIx (eV 3) (eV 9)) (eI 1)) (AM (EA (Mq Ng (eV 3) [J4 [eV 11,eV 12,eIx (eIx (eV 3) (eV 9)) (eI 2)]])) (EA (Mq mY (eV 5) [eOp (o2 Bq) [eOp (HR true true) [eV 2,eI 1,eI 2],eOp (o1 eZ) [eOp (o2 wEq) [eV 6,eC (.str "trade")]]]]))))) (xIf (eOp (o2 wEq) [eV 6,eC (.str "spoil")]) (PJ (eOp (o2 Ra) [eIx (eIx (eV 3) (eIx (eV 2) (eI 1))) (eI 1),eIx (eV 2) (eI 2)]) (eIx (eV 3) (eIx (eV 2) (eI 1))) (eI 1)) (EA (AB Fw [eV 0,eV 1,eV 2])))))))
def EW:=AR (AV 13 Ge)
def PD:=AM (Ki (tTp [tNm 3,tNm 4,tNm 5]) (eV 2)) (AM (A6 6 (As [] 2 (iA (eV 3)) (tTp [tNm 0,tNm 1]) (eOp (o2 wGt) [eIx (eV 1) (eI 1),eI 0]) (eV 0))) (AM (A6 7 (AB AH [eV 0,eI 12])) (AM (xIf (eOr (eOp (o2 wLt) [eV 7,eI 2]) (eOp (o2 wEq) [eV 6,Km []])) (AU (Bh [eC (.str "bring"),AB AH [eV 0,eIx (eV 1) (eI 0)],AB AH [eV 0,eIx (eV 1) (eI 1)],AB BE [eV 0]])) BX) (AM (A6 8 (eIx (eV 6) (AB AH [eV 0,eOp (o1 FI) [eV 6]]))) (AM (A6 9 (eOp (o2 BF) [eI 1,AB AH [eV 0,eOp (o2 iT) [eIx (eIx (eV 3) (eV 8)) (eI 1),eI 2000]]])) (AM (xIf (eOp (o2 wLt) [eV 7,eI 5]) (AM (A6 10 (As [3,8] 1 (C7 (eV 6)) (tNm 2) (Fi (eOp (o2 wNe) [eV 2,eV 1]) (eOp (o2 wEq) [eIx (eIx (eV 0) (eV 2)) (eI 0),eIx (eIx (eV 0) (eV 1)) (eI 0)])) (eV 2))) (xIf (eOp (o2 wNe) [eV 10,Km []]) (AU (Bh [eC (.str "pool"),eV 8,eIx (eV 10) (AB AH [eV 0,eOp (o1 FI) [eV 10]])])) BX)) BX) (AM (xIf (Fi (eOp (o2 wLt) [eV 7,eI 8]) (eOp (o2 wGt) [eIx (eV 1) (eI 1),eI 1])) (AM (A6 11 (eOp (o2 SO) [eOp (o2 BF) [eOp (o2 BF) [eIx (eIx (eV 3) (eV 8)) (eI 0),eI 1],AB AH [eV 0,eOp (o2 Ra) [eIx (eV 1) (eI 1),eI 1]]],eIx (eV 1) (eI 1)])) (AM (A6 12 (As [5] 1 (Ts [eI 10]) (tNm 1) (eOp (o2 (wIn true)) [eV 1,eV 0]) (eV 1))) (AM (xIf (Fi (eOp (o2 wEq) [eV 7,eI 7]) (eOp (o2 wNe) [eV 12,Km []])) (AU (Bh [eC (.str "trade"),eIx (eV 12) (AB AH [eV 0,eOp (o1 FI) [eV 12]]),eV 8,eV 9,eV 11,AB BE [eV 0]])) BX) (AU (Bh [eC (.str "swap"),eV 8,eV 9,eV 11,AB BE [eV 0]]))))) BX) (AM (xIf (eOp (o2 wEq) [eV 7,eI 8]) (AU (Bh [eC (.str "spoil"),eV 8,eV 9])) BX) (AM (xIf (Fi (eOp (o2 wEq) [eV 7,eI 9]) (eOp (o2 wGt) [eIx (eV 1) (eI 0),eI 1])) (AM (A6 13 (AB AH [eV 0,eIx (eV 1) (eI 0)])) (AU (Bh [eC (.str "sell"),eV 13,eOp (o2 SO) [eOp (o2 BF) [eOp (o2 BF) [eV 13,eI 1],AB AH [eV 0,eOp (o2 Ra) [eIx (eV 1) (eI 0),eI 1]]],eIx (eV 1) (eI 0)],AB GQ [eV 0]]))) BX) (AU (Bh [eC (.str "throw"),eV 8,eV 9,AB D7 [eV 0,eOp (o2 BF) [eIx (eV 1) (eI 1),eI 1]]])))))))))))
def Ee:=AR (AV 14 PD)
def O3:=AM (A6 2 (AB IC [eV 0])) (AM (A6 3 (AB IA [eV 0,eV 2])) (AM (WC 4 5 (AB IK [Bh [eV 2,eV 3,Bh []]]) (J4 [])) (AM (Ml (Ts [AB AH [eV 0,eOp (o2 BF) [eV 1,eI 1]]]) (tNm 6) (AM (A6 7 (AB Ee [eV 0,eV 2,eV 4])) (xIf (eOr (eOp (o2 wNe) [eIx (eV 7) (eI 0),eC (.str "throw")]) (eOp (o2 wLt) [eOp (o1 FI) [As [] 1 (C7 (eV 5)) (tNm 0) (eOp (o2 wEq) [eIx (eV 0) (eI 0),eC (.str "throw")]) (eV 0)],eI 3])) (AM (EA (AB EW [eV 2,eV 4,eV 7])) (EA (Mq Ng (eV 5) [eV 7]))) BX))) (AU (Bh [eV 2,eV 3,eOp (o1 CD) [eV 5]])))))
def Ci:=AR (AV 8 O3)
def L6:=AU (eOp (o2 GJ) [eC (.str ","),As [] 1 (C7 (eV 0)) (tNm 0) Ai (eOp (o2 BF) [eOp (o2 BF) [eOp (o1 ED) [eIx (eV 0) (eI 0)],eC (.str "/")],eOp (o1 ED) [eIx (eV 0) (eI 1)]])])
def CS:=AR (AV 1 L6)
def OM:=AU (eOp (o2 GJ) [eC (.str " "),As [] 1 (C7 (eV 0)) (tNm 0) Ai (eOp (o1 ED) [eV 0])])
def BU:=AR (AV 1 OM)
def EK:=AM (xIf (eOp (o2 wEq) [eIx (eV 0) (eI 0),eC (.str "sell")]) (AU (eOp (o2 BF) [eOp (o2 BF) [AB BU [eOp (HR false true) [eV 0,eI 3]],eC (.str " ")],AB CS [eOp (HR true false) [eV 0,eI 3]]])) BX) (AM (xIf (eOp (o2 wEq) [eIx (eV 0) (eI 0),eC (.str "throw")]) (AU (eOp (o2 BF) [eOp (o2 BF) [AB BU [eOp (HR false true) [eV 0,eI 3]],eC (.str " ")],eOp (o2 GJ) [eC (.str ","),As [] 1 (C7 (eIx (eV 0) (eI 3))) (tNm 0) Ai (eOp (o1 ED) [eV 0])]])) BX) (AU (AB BU [eV 0])))
def Ac:=AR (AV 1 EK)
def JD:=AU (eOp (o2 BF) [eOp (o2 BF) [AB BU [eOp (HR false true) [eV 0,eI 2]],eC (.str " ")],AB CS [eIx (eV 0) (eI 2)]])
def CO:=AR (AV 1 JD)
def IU:=AU (eOp (o2 BF) [eOp (o2 BF) [AB BU [eOp (o2 BF) [eOp (o2 BF) [Bh [eC (.str "train")],eOp (HR false true) [eV 0,eI 3]],eOp (HR true false) [eV 0,eI 4]]],eC (.str " ")],AB CS [eIx (eV 0) (eI 3)]])
def Ce:=AR (AV 1 IU)
def Iq:=AM (A6 1 (eOp (o2 BF) [Km [AB Ce [eIx (eV 0) (eI 0)]],As [] 1 (C7 (eIx (eV 0) (eI 1))) (tNm 0) Ai (eOp (o2 BF) [eC (.str "first "),AB CO [eV 0]])])) (AU (eOp (o2 GJ) [eC (.str "\n"),eOp (o2 BF) [eV 1,As [] 1 (C7 (eIx (eV 0) (eI 2))) (tNm 0) Ai (AB Ac [eV 0])]]))
def Bm:=AR (AV 2 Iq)
def L8:=AM (A6 1 (eIx (eIx (eV 0) (eI 0)) (eI 4))) (AM (Ki (tTp [tNm 2,tNm 3,tNm 4]) (AB FD [eV 0,eOp (o1 FI) [eIx (eV 0) (eI 2)]])) (AM (A6 5 (J4 [])) (AM (Ml (VZ (eV 2) (eV 3)) (tTp [tTp [tNm 7,tNm 8],tNm 6]) (AM (A6 9 (AB BV [eV 6,eOp (o2 Ra) [eI 10,eV 1],eV 4,eV 1])) (EA (Mq Ng (eV 5) [eOp (o1 CD) [As [8] 1 (C7 (eV 9)) (tNm 1) Ai (AB Cc [Bh [eV 0,eI 1],eV 1])]])))) (AU (eV 5)))))
def FH:=AR (AV 10 L8)
def NX:=AM (A6 2 (AB Be [eV 0])) (AM (Ml (C7 (eOp (HR false true) [eIx (eV 0) (eI 2),eV 1])) (tNm 3) (A6 2 (AB Ad [eV 2,eV 3]))) (AU (eV 2)))
def GW:=AR (AV 4 NX)
def OR:=AM (A6 1 (eC GV)) (AM (Ml (C7 (eV 0)) (tNm 2) (A6 1 (AB Gi [eV 1,eV 2]))) (AU (eV 1)))
def DZ:=AR (AV 3 OR)
def IL:=AU (eOp (o2 K9) [eIx (eV 0) (eI 0),eIx (eV 0) (eI 1)])
def Aj:=AR (AV 1 IL)
def LK:=AM (A6 1 (AB GW [eV 0,eOp (o1 FI) [eIx (eV 0) (eI 2)]])) (AM (A6 2 (J4 [])) (AM (Ml (VZ (eV 1) (AB FH [eV 0])) (tTp [tTp [tNm 4,tNm 5],tNm 3]) (AM (A6 6 (As [] 1 (C7 (eV 3)) (tNm 0) Ai (AB Ea [eV 0,Bh [AB Aj [eV 0],eI 1]]))) (AM (A6 7 (AB Aj [AB DZ [eV 6]])) (xIf (eOp (o2 wGt) [eV 7,eI 0]) (EA (Mq Ng (eV 2) [Bh [eV 4,eV 7,eOp (o1 CD) [As [7] 1 (C7 (eV 6)) (tNm 1) Ai (AB Cc [eV 1,Bh [eI 1,eV 0]])]]])) BX)))) (AU (eOp (o1 CD) [eV 2]))))
def EM:=AR (AV 8 LK)
noncomputable def BD:D:=.int 4
def Hd:=AM (EA (AB Bi [eV 0])) (AM (A6 1 (AB EM [eV 0])) (AM (xIf (eOp (o2 wGt) [eOp (o1 FI) [eV 1],eC BD]) IX BX) (AM (Ki (tTp [tNm 2,tNm 3,tNm 4,tNm 5,tNm 6,tNm 7]) (eIx (eV 0) (eI 0))) (AM (Ki (tTp [tNm 8,tNm 9,tNm 10]) (AB FD [eV 0,eOp (o1 FI) [eIx (eV 0) (eI 2)]])) (AU (Bh [Bh [eV 2,eV 3,eV 4,eV 10,eV 6,eV 7],eV 1,Bh []]))))))
def Aw:=AR (AV 11 Hd)
def Fh:Rx:=(Zr rNo (EA (AB Bi [eV 0])) (Zr rNo (A6 1 (AB EM [eV 0])) (Zr (rIf (eOp (o2 wGt) [eOp (o1 FI) [eV 1],eC BD]) (T7 "TooMany" [eC (.str "more loads stay over than a book begins with")]) rNo) (xIf (eOp (o2 wGt) [eOp (o1 FI) [eV 1],eC BD]) IX BX)
    rNo)))
def BC:=AR (bU 11 Fh)
def Oq:=ZO (AU (AB Aw [eV 0])) (RK BC [eV 0]) (gOr ["TooMany"] "TooMany" (AU (eV 0)) gNo)
def Fy:=AR (AV 1 Oq)
def F6(rec:Fn):Ex:=(AM (xIf (eOp (o2 wLt) [eV 0,eI 0]) (AU (eOp (o2 BF) [eC (.str "-"),AB rec [eOp (o1 ZN) [eV 0]]])) BX) (AM (A6 1 (J4 [])) (AM (LO (Od 0) (eOp (o2 wGe) [eV 0,eOp (o2 VY) [eI 10,eI 64]]) (AM (Ki (tTp [tNm 0,tNm 2]) (eOp (o2 Lz) [eV 0,eOp (o2 VY) [eI 10,eI 64]])) (EA (Mq Ng (eV 1) [eOp (o2 Iw) [eOp (o1 ED) [eV 2],eI 64]])))) (AM (EA (Mq Ng (eV 1) [eOp (o1 ED) [eV 0]])) (AU (eOp (o2 GJ) [eC (.str ""),eOp (o1 aY) [eV 1]]))))))
def AL:Nat->Fn
 |0=>λ_ _=>none
 |n+1=>AR (AV 3 (F6 (AL n)))
def Iy:=AU (eFs [AB (AL 8) [eIx (eV 0) (eI 0)],eC (.str "/"),AB (AL 8) [eIx (eV 0) (eI 1)]])
def BM:=AR (AV 1 Iy)
def Ic:=AU (eOp (o2 GJ) [eV 1,As [] 1 (C7 (eV 0)) (tNm 0) Ai (AB BM [eV 0])])
def Dj:=AR (AV 2 Ic)
def IZ:=AU (eOp (o2 GJ) [eV 1,As [] 1 (C7 (eV 0)) (tNm 0) Ai (AB (AL 8) [eV 0])])
def Dh:=AR (AV 2 IZ)
def EU:=AM (xIf (eOp (o2 wEq) [eV 0,eC (.str "share")]) (AU (AB BM [eV 1])) BX) (AM (xIf (eOp (o2 wEq) [eV 0,eC (.str "shares")]) (AU (AB Dj [eV 1,eC (.str ",")])) BX) (AM (xIf (eOp (o2 wEq) [eV 0,eC (.str "worths")]) (AU (AB Dh [eV 1,eC (.str ",")])) BX) (AU (AB (AL 8) [eV 1]))))
def Ba:=AR (AV 2 EU)
def LC:=AU (eOp (o2 GJ) [eC (.str " "),As [] 2 (VZ (eV 0) (eV 1)) (tTp [tNm 0,tNm 1]) Ai (AB Ba [eV 0,eV 1])])
def Au:=AR (AV 2 LC)
noncomputable def Ao:Wp (Str×D):=[("bring",.tup [.str "partner",.str "kind",.str "pieces"]),("pool",.tup [.str "load",.str "load"]),("swap",.tup [.str "load",.str "pieces",.str "kind",.str "pieces"]),("trade",.tup [.str "number",.str "load",.str "pieces",.str "kind",.str "pieces"]),("spoil",.tup [.str "load",.str "pieces"]),("throw",.tup [.str "load",.str "pieces",.str "worths"]),("sell",.tup [.str "partner",.str "partner",.str "share"])]
def LD:=AU (eFs [eIx (eV 0) (eI 0),eC (.str " "),AB Au [eOp (o1 (SM Ao)) [eIx (eV 0) (eI 0)],eOp (HR true false) [eV 0,eI 1]]])
def BA:=AR (AV 1 LD)
noncomputable def Cz:D:=.tup [.str "kind",.str "pieces",.str "shares"]
def Ko:=AU (AB Au [eC Cz,eV 0])
def C9:=AR (AV 1 Ko)
noncomputable def Cr:D:=.tup [.str "partners",.str "kinds",.str "beasts",.str "hire",.str "part",.str "shares"]
def Jw:=AM (Ki (tTp [tNm 1,tNm 2,tNm 3,tNm 4,tNm 5,tNm 6]) (eV 0)) (AU (eOp (o2 BF) [eC (.str "train "),AB Au [eC Cr,Bh [eV 1,eV 2,eV 3,eV 5,eV 6,eV 4]]]))
def DR:=AR (AV 7 Jw)
def LH:=AM (Ki (tTp [tNm 1,tNm 2,tNm 3]) (eV 0)) (AM (A6 4 (eOp (o2 BF) [eOp (o2 BF) [Km [AB DR [eV 1]],As [] 1 (C7 (eV 2)) (tNm 0) Ai (eOp (o2 BF) [eC (.str "first "),AB C9 [eV 0]])],As [] 1 (C7 (eV 3)) (tNm 0) Ai (AB BA [eV 0])])) (AU (eOp (o2 GJ) [eC (.str "\n"),eV 4])))
def B6:=AR (AV 5 LH)
def Jv:=AU (AB Cu [eV 1,eI 1])
def FC:=AR (AV 2 Jv)
def CJ:=AU (Fi (eOp (o2 SQ) [eV 0,eC (.ty "tuple")]) (eOp (o2 wEq) [eOp (o1 FI) [eV 0],eV 1]))
def AY:=AR (AV 2 CJ)
def Jo:=AU (Fi (AB AY [eV 0,eV 1]) (eOp (o1 ZP) [As [] 1 (C7 (eV 0)) (tNm 0) Ai (AB Am [eV 0,eI 1,eI 99])]))
def Eu:=AR (AV 2 Jo)
def Ju:=AU (AB Eu [eV 1,eOp (o2 BF) [eIx (eV 0) (eI 1),eI 1]])
def FA:=AR (AV 2 Ju)
def KA:=AU (AB Am [eV 1,eI 0,eOp (o2 Ra) [eIx (eV 0) (eI 1),eI 1]])
def Dv:=AR (AV 2 KA)
def Gk:=AU (AB Cu [eV 1,eI 0])
def Cj:=AR (AV 2 Gk)
def Jr:=AU (AB Am [eV 1,eI 0,eOp (o2 Ra) [eIx (eV 0) (eI 0),eI 1]])
def E5:=AR (AV 2 Jr)
def Hg:=AM (xIf (eOr (Jm (eOp (o2 SQ) [eV 0,eC (.ty "tuple")])) (eOp (o2 wNe) [eOp (o1 FI) [eV 0],eI 2])) (AU (eC (.bl false))) BX) (AM (Ki (tTp [tNm 1,tNm 2]) (eV 0)) (AU (Fi (AB FF [eV 1]) (Fi (AB Cu [eV 2,eI 1]) (eOp (o2 wEq) [AB BW [eV 1,eV 2],eI 1])))))
def CT:=AR (AV 3 Hg)
def MG:=AU (Fi (AB CT [eV 0]) (VJ (eI 0) (eIx (eV 0) (eI 0)) (eIx (eV 0) (eI 1))))
def C3:=AR (AV 1 MG)
def HC:=AU (Fi (AB C3 [eV 1]) (Fi (eOp (o2 wGt) [eIx (eV 1) (eI 0),eI 0]) (eOp (o2 wLe) [eIx (eV 1) (eI 1),eI 12])))
def C4:=AR (AV 2 HC)
def GL:=AU (AB Am [eV 1,eI 0,eI 9])
def CV:=AR (AV 2 GL)
def Fo:Wp (Str×Fn):=[("partner",E5),("kind",Dv),("load",Cj),("number",CV),("pieces",FC),("worths",FA),("share",C4)]
def C1:=ke Fo 3 1 [eV 0,eV 2]
def Al:=AR (AV 4 C1)
noncomputable def CB:D:=.tup [.str "pool",.str "sell"]
def Nk:=AM (xIf (eOr (Jm (eOp (o2 SQ) [eV 1,eC (.ty "tuple")])) (eOp (o2 wEq) [eOp (o1 FI) [eV 1],eI 0])) (AU (eC (.bl false))) BX) (AM (A6 2 (eIx (eV 1) (eI 0))) (AM (xIf (eOr (Jm (eOp (o2 SQ) [eV 2,eC (.ty "str")])) (eOp (o1 (HN true Ao)) [eV 2])) (AU (eC (.bl false))) BX) (AM (A6 3 (eOp (o1 (SM Ao)) [eV 2])) (AM (xIf (eOp (o2 wNe) [eOp (o1 FI) [eV 1],eOp (o2 BF) [eOp (o1 FI) [eV 3],eI 1]]) (AU (eC (.bl false))) BX) (AM (xIf (Jm (eOp (o1 ZP) [As [0,1] 2 (iA (eV 3)) (tTp [tNm 2,tNm 3]) Ai (AB Al [eV 0,eV 3,eIx (eV 1) (eOp (o2 BF) [eV 2,eI 1])])])) (AU (eC (.bl false))) BX) (AU (eOr (eOp (o2 (wIn true)) [eV 2,eC CB]) (eOp (o2 wNe) [eIx (eV 1) (eI 1),eIx (eV 1) (eI 2)]))))))))
def Dx:=AR (AV 4 Nk)
noncomputable def GZ:D:=.int 20
noncomputable def Fg:D:=.int 3
def Hk:=AM (xIf (eOr (Jm (eOp (o2 SQ) [eV 1,eC (.ty "tuple")])) (eOp (o2 wGt) [eOp (o1 FI) [eV 1],eC GZ])) (AU (eC (.bl false))) BX) (AM (xIf (Jm (eOp (o1 ZP) [As [0] 1 (C7 (eV 1)) (tNm 1) Ai (AB Dx [eV 0,eV 1])])) (AU (eC (.bl false))) BX) (AU (eOp (o2 wLe) [eOp (o1 FI) [As [] 1 (C7 (eV 1)) (tNm 0) (eOp (o2 wEq) [eIx (eV 0) (eI 0),eC (.str "throw")]) (eV 0)],eC Fg])))
def EZ:=AR (AV 2 Hk)
def Jp:=AM (xIf (Jm (AB AY [eV 1,eV 0])) (AU (eC (.bl false))) BX) (AU (Fi (eOp (o1 ZP) [As [] 1 (C7 (eV 1)) (tNm 0) Ai (AB C3 [eV 0])]) (eOp (o2 wEq) [AB DZ [eV 1],eC Po])))
def DV:=AR (AV 2 Jp)
def NT:=AM (xIf (Jm (AB AY [eV 1,eI 3])) (AU (eC (.bl false))) BX) (AM (Ki (tTp [tNm 2,tNm 3,tNm 4]) (eV 1)) (AU (Fi (AB Dv [eV 0,eV 2]) (Fi (AB Cu [eV 3,eI 0]) (AB DV [eIx (eV 0) (eI 0),eV 4])))))
def Eg:=AR (AV 5 NT)
def K4:=AM (xIf (eOr (Jm (eOp (o2 SQ) [eV 1,eC (.ty "tuple")])) (eOp (o2 wGt) [eOp (o1 FI) [eV 1],eC BD])) (AU (eC (.bl false))) BX) (AU (eOp (o1 ZP) [As [0] 1 (C7 (eV 1)) (tNm 1) Ai (Fi (AB Eg [eV 0,eV 1]) (eOp (o2 wGt) [eIx (eV 1) (eI 1),eI 0]))]))
def Fq:=AR (AV 2 K4)
def MA:=AM (xIf (Jm (AB AY [eV 0,eI 6])) (AU (eC (.bl false))) BX) (AM (Ki (tTp [tNm 1,tNm 2,tNm 3,tNm 4,tNm 5,tNm 6]) (eV 0)) (AM (xIf (Jm (Fi (AB Am [eV 1,eI 1,eI 4]) (Fi (AB Am [eV 2,eI 1,eI 5]) (AB Am [eV 3,eI 1,eI 20])))) (AU (eC (.bl false))) BX) (AU (Fi (AB DV [eV 1,eV 4]) (Fi (AB Am [eV 5,eI 0,eI 9]) (AB Am [eV 6,eI 0,eI 9]))))))
def Gf:=AR (AV 7 MA)
def NP:=AM (xIf (Jm (AB AY [eV 0,eI 3])) (AU (eC (.bl false))) BX) (AM (Ki (tTp [tNm 1,tNm 2,tNm 3]) (eV 0)) (AU (Fi (AB Gf [eV 1]) (Fi (AB Fq [eV 1,eV 2]) (AB EZ [eV 1,eV 3])))))
def Dy:=AR (AV 4 NP)
def MN:=AM (xIf (eOp (o1 iQ) [As [] 1 (C7 (eV 0)) (tNm 0) Ai (eOp (o2 (SD false)) [eV 0,eC .non])]) (AU (eC .non)) BX) (AU (eOp (o1 CD) [eV 0]))
def By:=AR (AV 1 MN)
def JH:=AM (xIf (eOr (Jm (Fi (eOp (o1 (wSB zH)) [eV 0]) (eOp (o1 (wSB zG)) [eV 0]))) (Fi (eOp (o2 wEq) [eOp (o2 cq) [eV 0,eI 0],eC (.str "0")]) (eOp (o2 wGt) [eOp (o1 FI) [eV 0],eI 1]))) (AU (eC .non)) BX) (AM (A6 1 (eOp (o2 K9) [eOp (o2 BF) [eOp (o1 FI) [eV 0],eI 63],eI 64])) (AM (A6 2 (eOp (o2 Iw) [eV 0,eOp (o2 Bq) [eI 64,eV 1]])) (AM (A6 3 (eI 0)) (AM (Ml (Ts [eV 1]) (tNm 4) (A6 3 (eOp (o2 BF) [eOp (o2 Bq) [eV 3,eOp (o2 VY) [eI 10,eI 64]],eOp (o1 V3) [eOp (HR true true) [eV 2,eOp (o2 Bq) [eI 64,eV 4],eOp (o2 BF) [eOp (o2 Bq) [eI 64,eV 4],eI 64]]]]))) (AU (eV 3))))))
def BB:=AR (AV 5 JH)
def JQ:=AM (Ki (tTp [tNm 1,tNm 2,tNm 3]) (eOp (o2 VM) [eV 0,eC (.str "/")])) (AM (A6 4 (Bh [AB BB [eV 1],AB BB [eV 3]])) (AU (eIf (AB CT [eV 4]) (eV 4) (eC .non))))
def Bl:=AR (AV 5 JQ)
def Ia:=AU (AB By [As [] 1 (C7 (eOp (o2 Bb) [eV 0,eC (.str ",")])) (tNm 0) Ai (AB Bl [eV 0])])
def Dm:=AR (AV 1 Ia)
def Ie:=AU (AB By [As [] 1 (C7 (eOp (o2 Bb) [eV 0,eC (.str ",")])) (tNm 0) Ai (AB BB [eV 0])])
def Di:=AR (AV 1 Ie)
def EY:=AM (xIf (eOp (o2 wEq) [eV 0,eC (.str "share")]) (AU (AB Bl [eV 1])) BX) (AM (xIf (eOp (o2 wEq) [eV 0,eC (.str "shares")]) (AU (AB Dm [eV 1])) BX) (AM (xIf (eOp (o2 wEq) [eV 0,eC (.str "worths")]) (AU (AB Di [eV 1])) BX) (AU (AB BB [eV 1]))))
def Av:=AR (AV 2 EY)
def Kx:=AM (xIf (eOp (o2 wNe) [eOp (o1 FI) [eV 1],eOp (o1 FI) [eV 0]]) (AU (eC .non)) BX) (AU (AB By [As [] 2 (VZ (eV 0) (eV 1)) (tTp [tNm 0,tNm 1]) Ai (AB Av [eV 0,eV 1])]))
def Ax:=AR (AV 2 Kx)
def Ho:=AM (Hj 1 2 (eOp (o2 Bb) [eV 0,eC (.str " ")])) (AM (xIf (eOp (o1 (HN true Ao)) [eV 1]) (AU (eC .non)) BX) (AM (A6 3 (AB Ax [eOp (o1 (SM Ao)) [eV 1],eV 2])) (AU (eIf (eOp (o2 (SD false)) [eV 3,eC .non]) (eC .non) (eOp (o2 BF) [Bh [eV 1],eV 3])))))
def BY:=AR (AV 4 Ho)
def Gp:=AM (Hj 1 2 (eOp (o2 Bb) [eV 0,eC (.str " ")])) (AU (eIf (eOp (o2 wEq) [eV 1,eC (.str "first")]) (AB Ax [eC Cz,eV 2]) (eC .non)))
def BI:=AR (AV 3 Gp)
def Js:=AM (Hj 1 2 (eOp (o2 Bb) [eV 0,eC (.str " ")])) (AM (A6 3 (AB Ax [eC Cr,eV 2])) (AM (xIf (eOr (eOp (o2 wNe) [eV 1,eC (.str "train")]) (eOp (o2 (SD false)) [eV 3,eC .non])) (AU (eC .non)) BX) (AM (Ki (tTp [tNm 4,tNm 5,tNm 6,tNm 7,tNm 8,tNm 9]) (eV 3)) (AU (Bh [eV 4,eV 5,eV 6,eV 9,eV 7,eV 8])))))
def Dc:=AR (AV 10 Js)
def K2:=AM (A6 1 (As [] 1 (C7 (eOp (HR true false) [eV 0,eI 1])) (tNm 0) (eOp (o2 FW) [eV 0,eC (.str "first ")]) (AB BI [eV 0]))) (AM (A6 2 (As [] 1 (C7 (eOp (HR true false) [eV 0,eI 1])) (tNm 0) (Jm (eOp (o2 FW) [eV 0,eC (.str "first ")])) (AB BY [eV 0]))) (AU (Bh [AB Dc [eIx (eV 0) (eI 0)],eOp (o1 CD) [eV 1],eOp (o1 CD) [eV 2]])))
def ES:=AR (AV 3 K2)
def LN:=AM (xIf (Jm (eOp (o2 SQ) [eV 0,eC (.ty "str")])) IX BX) (AM (A6 1 (AB ES [eOp (o2 Bb) [eV 0,eC (.str "\n")]])) (AM (xIf (eOr (Jm (AB Dy [eV 1])) (eOp (o2 (SD true)) [AB CL [eV 1],eC .non])) IX BX) (AM (xIf (eOp (o2 wNe) [AB B6 [eV 1],eV 0]) IX BX) (AU (eV 1)))))
def C8:=AR (AV 2 LN)
def K5:=AM (EA (AB Bi [eV 0])) (AU (AB B6 [eV 0]))
def DB:=AR (AV 1 K5)
def Xe:=AM (Ml (Ts [eOp (o2 m9) [eI 1,eOp (o2 iT) [eOp (o1 FI) [eV 0],eI 3]]]) (tNm 1) (AM (A6 2 (AB Ij [AB DK [eV 0,eV 1]])) (AM (A6 3 (AB Ci [eV 2,eI 12])) (Ml (C7 (Bh [eV 3,AB Fy [eV 3],Bh [Bh [eI 1,eI 1,eI 1,Bh [Bh [eI 1,eI 1]],eI 0,eI 0],Bh [],Bh []],AB Ci [eV 2,eI 4]])) (tNm 4) (AM (A6 5 (AB Bm [eV 4])) (AM (xIf (eOr (eOp (o2 wNe) [AB DB [eV 4],eV 5]) (eOp (o2 wNe) [AB C8 [eV 5],eV 4])) (AU (eC (.bl false))) BX) (AM (xIf (eOp (o2 wNe) [As [] 1 (C7 (eIx (eV 4) (eI 2))) (tNm 0) Ai (AB BA [eV 0]),As [] 1 (C7 (eIx (eV 4) (eI 2))) (tNm 0) Ai (AB Ac [eV 0])]) (AU (eC (.bl false))) BX) (Ml (C7 (eOp (o2 BF) [eIx (eIx (eV 4) (eI 0)) (eI 3),Bh [Bh [eI 0,eI 1],Bh [eOp (o2 VY) [eI 10,eI 39],eI 7]]])) (tNm 6) (xIf (eOp (o2 wNe) [AB BM [eV 6],eOp (o2 BF) [eOp (o2 BF) [eOp (o1 ED) [eIx (eV 6) (eI 0)],eC (.str "/")],eOp (o1 ED) [eIx (eV 6) (eI 1)]]]) (AU (eC (.bl false))) BX))))))))) (AU (eC (.bl true)))
def SY:=AR (AV 7 Xe)
end
section
noncomputable def top(i:Nat):wV:=AA4.main.body.getD i (.Pass ⟨0,0,0,0⟩)
abbrev Iz:=top 3
abbrev KD:=top 4
abbrev Hn:=top 5
abbrev DN:=top 6
abbrev Hu:=top 7
abbrev Ll:=top 8
abbrev P9:=top 9
abbrev Py:=top 10
abbrev OH:=top 11
abbrev Nh:=top 12
abbrev N4:=top 13
abbrev GU:=top 26
abbrev Ga:=top 27
abbrev De:=top 28
abbrev Iu:=top 29
abbrev G8:=top 30
abbrev KG:=top 31
abbrev EI:=top 32
abbrev Dp:=top 33
abbrev Gq:=top 34
abbrev DQ:=top 35
abbrev G3:=top 36
abbrev El:=top 37
abbrev IF:=top 39
abbrev J8:=top 40
abbrev Em:=top 41
abbrev ER:=top 42
abbrev CW:=top 43
abbrev KH:=top 44
abbrev Gw:=top 45
abbrev JC:=top 46
abbrev JW:=top 47
abbrev HF:=top 48
abbrev FZ:=top 49
abbrev F9:=top 50
abbrev CH:=top 51
abbrev J5:=top 52
abbrev HU:=top 53
abbrev F0:=top 54
abbrev Ef:=top 55
abbrev Cs:=top 57
abbrev EE:=top 58
abbrev EX:=top 59
abbrev EN:=top 60
abbrev Bv:=top 61
abbrev Bu:=top 62
abbrev D6:=top 63
abbrev Bw:=top 64
abbrev Bt:=top 65
abbrev Hi:=top 68
abbrev HZ:=top 69
abbrev DC:=top 70
abbrev EL:=top 71
abbrev Gx:=top 72
abbrev E8:=top 73
abbrev IB:=top 74
abbrev Ez:=top 75
abbrev Fj:=top 76
abbrev Ff:=top 77
abbrev B0:=top 78
abbrev Hq:=top 79
abbrev B4:=top 80
abbrev Fs:=top 81
abbrev Dd:=top 83
abbrev Cb:=top 84
abbrev F7:=top 85
abbrev Cd:=top 86
abbrev F8:=top 87
abbrev Eh:=top 88
abbrev F3:=top 89
abbrev Er:=top 90
abbrev CM:=top 91
abbrev FQ:=top 92
abbrev FO:=top 94
abbrev FY:=top 95
abbrev CU:=top 96
abbrev Fm:=top 97
abbrev Na:=top 99
abbrev Hz:=top 100
abbrev LR:=top 101
abbrev JG:=top 102
abbrev LV:=top 103
abbrev Du:=top 104
abbrev J7:=top 105
abbrev Ih:=top 106
abbrev KU:=top 107
abbrev F1:=top 108
abbrev KN:=top 109
abbrev FE:=top 110
abbrev DF:=top 111
abbrev Lu:=top 112
abbrev Kf:=top 113
abbrev JP:=top 114
abbrev HB:=top 115
abbrev Ly:=top 116
abbrev KZ:=top 117
abbrev Lm:=top 118
abbrev Lh:=top 119
abbrev Kk:=top 120
abbrev HP:=top 121
abbrev Jc:=top 122
abbrev Ek:=top 123
abbrev D9:=top 124
abbrev FV:=top 125
abbrev GN:=top 126
abbrev CG:=top 127
abbrev BJ:=top 128
abbrev HV:=top 129
structure Bts(mg:Str->vi vm):Prop where
 abs:mg "abs"=none
 all:mg "all"=none
 any:mg "any"=none
 bool:mg "bool"=none
 divmod:mg "divmod"=none
 enumerate:mg "enumerate"=none
 int:mg "int"=none
 isi:mg "isinstance"=none
 len:mg "len"=none
 list:mg "list"=none
 max:mg "max"=none
 min:mg "min"=none
 range:mg "range"=none
 sorted:mg "sorted"=none
 str:mg "str"=none
 sum:mg "sum"=none
 tuple:mg "tuple"=none
 zip:mg "zip"=none
structure All(w:xy)(K:vZ)(mg:Str->vi vm):Prop where
 bt:Bts mg
 ko:PV K mg "ALL" Po
 F5:PV K mg "LOAD_FORM" Cz
 Ua:PV K mg "MAKERS" EB
 L7:PV K mg "MOST_DEEDS" GZ
 L9:PV K mg "MOST_FIRST" BD
 K7:PV K mg "MOST_THROWS" Fg
 R7:PV K mg "NOTHING" GV
 FG:PV K mg "TRAIN_FORM" Cr
 Kw:PV K mg "UNLIKE" CB
 Ep:lF K w mg "FORMS" Ao
 TB:nk w K mg "PARTS" [("partner","is_partner"),("kind","is_kind"),("load","is_load_number"),("number","is_trade_number"),("pieces","are_pieces"),("worths","are_worths"),("share","is_sold_share")]
 RU:XcD K mg "TooMany"
 JM:XmD K mg ["TooMany"] "TooMany"
 Iz:St.Src K mg "is_whole" Iz
 KD:St.Src K mg "is_from" KD
 Hn:St.Src K mg "is_within" Hn
 DN:St.Src K mg "greatest_divisor" DN
 Hu:St.Src K mg "is_amount" Hu
 Ll:St.Src K mg "lowest" Ll
 P9:St.Src K mg "plus" P9
 Py:St.Src K mg "less" Py
 OH:St.Src K mg "times" OH
 Nh:St.Src K mg "mixed" Nh
 N4:St.Src K mg "total" N4
 GU:St.Src K mg "is_tuple_of" GU
 Ga:St.Src K mg "is_share" Ga
 De:St.Src K mg "are_owners" De
 Iu:St.Src K mg "is_train" Iu
 G8:St.Src K mg "is_partner" G8
 KG:St.Src K mg "is_kind" KG
 EI:St.Src K mg "is_load_number" EI
 Dp:St.Src K mg "is_trade_number" Dp
 Gq:St.Src K mg "are_pieces" Gq
 DQ:St.Src K mg "are_values" DQ
 G3:St.Src K mg "are_worths" G3
 El:St.Src K mg "is_sold_share" El
 IF:St.Src K mg "is_part" IF
 J8:St.Src K mg "is_load" J8
 Em:St.Src K mg "is_deed" Em
 ER:St.Src K mg "are_first" ER
 CW:St.Src K mg "are_deeds" CW
 KH:St.Src K mg "is_book" KH
 Gw:St.Src K mg "has_pieces" Gw
 JC:St.Src K mg "can_pool" JC
 JW:St.Src K mg "can_swap" JW
 HF:St.Src K mg "can_do" HF
 FZ:St.Src K mg "held_without" FZ
 F9:St.Src K mg "held_behind" F9
 CH:St.Src K mg "held_at_first" CH
 J5:St.Src K mg "held_by" J5
 HU:St.Src K mg "made_from" HU
 F0:St.Src K mg "first_wrong" F0
 Ef:St.Src K mg "refuse_undone" Ef
 Cs:St.Src K mg "number_text" Cs
 EE:St.Src K mg "number_read" EE
 EX:St.Src K mg "amount_text" EX
 EN:St.Src K mg "amount_read" EN
 Bv:St.Src K mg "numbers_text" Bv
 Bu:St.Src K mg "amounts_text" Bu
 D6:St.Src K mg "all_read" D6
 Bw:St.Src K mg "numbers_read" Bw
 Bt:St.Src K mg "amounts_read" Bt
 Hi:St.Src K mg "part_text" Hi
 HZ:St.Src K mg "part_read" HZ
 DC:St.Src K mg "form_text" DC
 EL:St.Src K mg "form_read" EL
 Gx:St.Src K mg "train_text" Gx
 E8:St.Src K mg "train_read" E8
 IB:St.Src K mg "load_text" IB
 Ez:St.Src K mg "first_read" Ez
 Fj:St.Src K mg "deed_text" Fj
 Ff:St.Src K mg "deed_read" Ff
 B0:St.Src K mg "book_told" B0
 Hq:St.Src K mg "book_text" Hq
 B4:St.Src K mg "rows_read" B4
 Fs:St.Src K mg "book_read" Fs
 Dd:St.Src K mg "all_to_one" Dd
 Cb:St.Src K mg "mixed_shares" Cb
 F7:St.Src K mg "made_shares" F7
 Cd:St.Src K mg "worth_of_all" Cd
 F8:St.Src K mg "part_thrown" F8
 Eh:St.Src K mg "thrown_shares" Eh
 F3:St.Src K mg "sold_shares" F3
 Er:St.Src K mg "shares_behind" Er
 CM:St.Src K mg "owners_behind" CM
 FQ:St.Src K mg "state_by" FQ
 FO:St.Src K mg "all_dues" FO
 FY:St.Src K mg "whole_pieces" FY
 CU:St.Src K mg "over_told" CU
 Fm:St.Src K mg "next_book" Fm
 Na:St.Src K mg "_law_pen" Na
 Hz:St.Src K mg "_law_cell_at" Hz
 LR:St.Src K mg "_law_draw" LR
 JG:St.Src K mg "_law_common" JG
 LV:St.Src K mg "_law_made" LV
 Du:St.Src K mg "_law_whole" Du
 J7:St.Src K mg "_law_train" J7
 Ih:St.Src K mg "_law_pieces" Ih
 KU:St.Src K mg "_law_first" KU
 F1:St.Src K mg "_law_begun" F1
 KN:St.Src K mg "_law_share" KN
 FE:St.Src K mg "_law_worths" FE
 DF:St.Src K mg "_law_deed" DF
 Lu:St.Src K mg "_law_plus" Lu
 Kf:St.Src K mg "_law_times" Kf
 JP:St.Src K mg "_law_pooled" JP
 HB:St.Src K mg "_law_cost" HB
 Ly:St.Src K mg "_law_less" Ly
 KZ:St.Src K mg "_law_borne" KZ
 Lm:St.Src K mg "_law_sold" Lm
 Lh:St.Src K mg "_law_turn" Lh
 Kk:St.Src K mg "_law_do" Kk
 HP:St.Src K mg "_law_book" HP
 Jc:St.Src K mg "_law_next" Jc
 Ek:St.Src K mg "_law_words" Ek
 D9:St.Src K mg "_law_shares" D9
 FV:St.Src K mg "_law_train_text" FV
 GN:St.Src K mg "_law_load_text" GN
 CG:St.Src K mg "_law_deed_text" CG
 BJ:St.Src K mg "_law_book_text" BJ
 HV:St.Src K mg "law" HV
end
local macro_rules| `(tactic|walk_at $s)=>do
 let i (w:yo):Lean.Term:=Lean.mkIdent w.toName
 let t (w:yo):AC1 Lean.Term:=do
  match w with
  | "?"=> `(?_)
  | "_"=> `(_)
  | "A"=> `(by assumption)
  | "B"=> `(by walk_at "b")
  | "D"=> `(by decide)
  | "K"=> `(λ_ _ _=>⟨?_,?_,?_⟩)
  | "F"=> `(Od _)
  |_=>match w.splitOn "/" with
   | [f,n]=>pure (AAi (i f) (Array.replicate n.length (<- `(?_))))
   |_=>pure (i w)
 let r (a:Wp yo):AC1 (ACU `tactic):=do `(tactic|refine $(AAi (i a.head!) (<-a.tail!.mapM t).toArray))
 let g (s:yo):AC1 (ACU `tactic):=do
  (s.splitOn ";").foldrM (λx z=>do
    let a:=x.splitOn " "
    let b<-if a.head!== "%" then `(tactic|with_reducible $(<-r a.tail!):tactic)else r a
    `(tactic|first| $b:tactic| $z:tactic)) (<- `(tactic|assumption))
 let ws:=s.getString.splitOn " "
 match ws.head! with
 | "b"=>g "Bts.abs A;Bts.all A;Bts.any A;Bts.bool A;Bts.divmod A;Bts.enumerate A;Bts.int A;Bts.isi A;Bts.len A;Bts.list A;Bts.max A;Bts.min A;Bts.range A;Bts.sorted A;Bts.str A;Bts.sum A;Bts.tuple A;Bts.zip A;% boot_abs;% boot_all;% boot_any;% boot_bool;% boot_divmod;% boot_enumerate;% boot_int;% boot_isinstance;% boot_len;% boot_list;% boot_max;% boot_min;% boot_range;% boot_sorted;% boot_str;% boot_sum;% boot_tuple;% boot_zip"
 | "d"=>do
   let z<-("vP:AD ? ?;AF|gDE:AG _;AX;B9;FN Mh ? ?;deM A A ?;Dt ? ? ?;Ck ? rfl B B ?;Cf ? rfl B B ?;Gn ?;WQ ?;DP _ _ _ rfl A ? K;WU ? ? ?;jT ? ?;cW ?;kZ ? ?;JR;RM;Sx A rfl;dc rfl B B;eU ? ? ?;si ?;ck PySem.F.slot_list_append PySem.F.type_list_append Yh ? ?;ck PySem.F.slot_list_extend PySem.F.type_list_extend pB ? ?;Qb ? ?;XO ? ?;eA ? ? ?|vX:AZ ?;AW ? ?;Cw|gDS:A7 ?;Fd _ ? A;Xx ?;JT ? ? ?;PZ _ _ _ rfl A rfl rfl A ? K;Uy ? ?;nJ ? ? ?;U8 PassesOwn.never rfl ? ? ?;rS rfl A rfl rfl D rfl rfl ? ?;P7;bZ F PassesOwn.never ? ?|gDT:Ec ? ? ?;NV ?;DW.dt dJ/??;DW.dt Vf/??;JO ?|gDG:CZ _ A;Vc rfl ?|vK:% Br;% RG ?;% Mn;% qC;% sG;% qP;% MB ?;% lT;% a9;% lg;% kg;% sN;% Pq;% W7;% Z6|sL:% HQ;% Ke;% kx rfl;% N8;% lx;% jA;% iR;% YR rfl;% ZD rfl;% br".splitOn "|").foldrM (λx z=>do
    let a:=x.splitOn ":"
    `(tactic|first|((with_reducible refine $(i a.head!) ?_); $(<-g a.tail!.head!):tactic)| $z:tactic)) (<-g "Bo ? ?;Lq;DL;Yr ?;Ed ?;YI rfl B ?;mC rfl B ? ?;lV rfl B ?;X4;dJ ? ?;Yw ?;Vf ? ?;Ov ?;sH;g9 ?;nX ? ? ?;% tT;uy ? ? ?;oD rfl A rfl ?;tT")
   let y:ACU `tactic<-ws.tail!.foldrM (λw z=>do `(tactic|(have:= $(if w.startsWith "T." then i w else AAi (i w) #[i "P",i "base",i "T"]); $z:tactic))) (<- `(tactic|repeat' $z:tactic))
   pure y
 |_=>Lean.Macro.throwUnsupported
variable(P:xK){w:xy}{K:vZ}{mg:Str->vi vm}(base:xZ)(T:All w K mg)
include T
theorem dW:St.Dfn P w K mg base "is_whole" 1 ["thing"] (spD K 1 FF):=dfW (N:=["thing"]) 0 T.Iz scM λ_ _ _=>by
 walk_at "d T.bt"
theorem eM:St.Dfn P w K mg base "is_from" 2 ["thing","low"] (spD K 2 Cu):=dfW (N:=["thing","low"]) 1 T.KD scM λ_ _ _=>by
 walk_at "d dW"
theorem Zx:St.Dfn P w K mg base "is_within" 3 ["thing","low","high"] (spD K 3 Am):=dfW (N:=["thing","low","high"]) 2 T.Hn scM λ_ _ _=>by
 walk_at "d eM"
theorem SS:St.Dfn P w K mg base "greatest_divisor" 1 ["one","other"] (spD K 2 BW):=dfW (N:=["one","other"]) 0 T.DN scM λ_ _ _=>by
 walk_at "d T.bt"
theorem DH:St.Dfn P w K mg base "is_amount" 3 ["thing"] (spD K 1 CT):=dfW (N:=["thing","top","bottom"]) 2 T.Hu scM λ_ _ _=>by
 walk_at "d T.bt dW eM SS"
theorem ip:St.Dfn P w K mg base "lowest" 2 ["top","bottom"] (spD K 2 DA):=dfW (N:=["top","bottom","divisor"]) 1 T.Ll scM λ_ _ _=>by
 walk_at "d SS"
theorem nR:St.Dfn P w K mg base "plus" 3 ["one","other"] (spD K 2 Gi):=dfW (N:=["one","other"]) 2 T.P9 scM λ_ _ _=>by
 walk_at "d ip"
theorem ml:St.Dfn P w K mg base "less" 3 ["one","other"] (spD K 2 Ea):=dfW (N:=["one","other"]) 2 T.Py scM λ_ _ _=>by
 walk_at "d ip"
theorem lH:St.Dfn P w K mg base "times" 3 ["one","other"] (spD K 2 Cc):=dfW (N:=["one","other"]) 2 T.OH scM λ_ _ _=>by
 walk_at "d ip"
theorem jk:St.Dfn P w K mg base "mixed" 3 ["one","weight","other","more"] (spD K 4 Iv):=dfW (N:=["one","weight","other","more","top"]) 2 T.Nh scM λ_ _ _=>by
 walk_at "d ip"
theorem lP:St.Dfn P w K mg base "total" 4 ["amounts"] (spD K 1 DZ):=dfW (N:=["amounts","together","amount"]) 3 T.N4 scM λ_ _ _=>by
 walk_at "d T.R7 nR"
theorem Yq:St.Dfn P w K mg base "is_tuple_of" 1 ["thing","many"] (spD K 2 AY):=dfW (N:=["thing","many"]) 0 T.GU scM λ_ _ _=>by
 walk_at "d T.bt"
omit T in
theorem Pf:Ak ["thing"] ["thing"] (AE Ga):=scM
theorem dI:St.Dfn P w K mg base "is_share" 4 ["thing"] (spD K 1 C3):=by
 have DH:=DH P base T
 refine dfM 3 T.Ga Pf λhr hu=>?_
 exact(AZ (A7 (jT (deM DH hr (AD (AG 0) AF)) (cW (eK AX (FN Mh (AG 0) AX) (FN Mh (AG 0) AX))))))
theorem ZL:St.Dfn P w K mg base "are_owners" 5 ["partners","thing"] (spD K 2 DV):=dfW (N:=["partners","thing"]) 4 T.De scM λ_ _ _=>by
 have:AJ ["partners","thing"] (AE De) ["share"] (ixC [] 1) (Gm De 0):=csM
 have:(["share"]:Wp Str).Nodup:=by decide+kernel
 walk_at "d T.bt T.ko lP Yq dI"
theorem b9:St.Dfn P w K mg base "is_train" 6 ["thing"] (spD K 1 Gf):=dfW (N:=["thing","partners","kinds","beasts","holders","hire","part"]) 5 T.Iu scM λ_ _ _=>by
 walk_at "d Zx Yq ZL"
theorem OY:St.Dfn P w K mg base "is_partner" 4 ["train","thing"] (spD K 2 E5):=dfW (N:=["train","thing"]) 3 T.G8 scM λ_ _ _=>by
 walk_at "d Zx"
theorem Ss:St.Dfn P w K mg base "is_kind" 4 ["train","thing"] (spD K 2 Dv):=dfW (N:=["train","thing"]) 3 T.KG scM λ_ _ _=>by
 walk_at "d Zx"
theorem K6:St.Dfn P w K mg base "is_load_number" 3 ["train","thing"] (spD K 2 Cj):=dfW (N:=["train","thing"]) 2 T.EI scM λ_ _ _=>by
 walk_at "d eM"
theorem KY:St.Dfn P w K mg base "is_trade_number" 4 ["train","thing"] (spD K 2 CV):=dfW (N:=["train","thing"]) 3 T.Dp scM λ_ _ _=>by
 walk_at "d Zx"
theorem Ob:St.Dfn P w K mg base "are_pieces" 3 ["train","thing"] (spD K 2 FC):=dfW (N:=["train","thing"]) 2 T.Gq scM λ_ _ _=>by
 walk_at "d eM"
theorem ZJ:St.Dfn P w K mg base "are_values" 4 ["thing","many"] (spD K 2 Eu):=dfW (N:=["thing","many"]) 3 T.DQ scM λ_ _ _=>by
 have:AJ ["thing","many"] (AE DQ) ["value"] (ixC [] 1) (Gm DQ 0):=csM
 have:(["value"]:Wp Str).Nodup:=by decide+kernel
 walk_at "d T.bt Zx Yq"
theorem Ol:St.Dfn P w K mg base "are_worths" 5 ["train","thing"] (spD K 2 FA):=dfW (N:=["train","thing"]) 4 T.G3 scM λ_ _ _=>by
 walk_at "d ZJ"
theorem Ls:St.Dfn P w K mg base "is_sold_share" 5 ["train","thing"] (spD K 2 C4):=dfW (N:=["train","thing"]) 4 T.El scM λ_ _ _=>by
 walk_at "d dI"
omit T in
theorem MC:Ak ["train","part","thing","holds"] ["train","part","thing"] (AE IF):=scM
theorem aK:pf P w K mg base "PARTS" 5 2 Fo:=fT T.TB (.cons ⟨rfl,_,_,(by decide),OY P base T⟩ (.cons ⟨rfl,_,_,(by decide),Ss P base T⟩ (.cons ⟨rfl,_,_,(by decide),K6 P base T⟩ (.cons ⟨rfl,_,_,(by decide),KY P base T⟩ (.cons ⟨rfl,_,_,(by decide),Ob P base T⟩ (.cons ⟨rfl,_,_,(by decide),Ol P base T⟩ (.cons ⟨rfl,_,_,(by decide),Ls P base T⟩ Paired.nil)))))))
theorem Kg:St.Dfn P w K mg base "is_part" 6 ["train","part","thing"] (spD K 3 Al):=by
 have T_PARTS:=aK P base T
 refine dfM 5 T.IF MC λhr hu=>?_
 exact(iJ 3 1 T_PARTS (hr.mono (by decide)) (AD (AG 0) (AD (AG 2) AF)) rfl MC.nd)
theorem fk:St.Dfn P w K mg base "is_load" 6 ["train","thing"] (spD K 2 Eg):=dfW (N:=["train","thing","kind","pieces","owners"]) 5 T.J8 scM λ_ _ _=>by
 walk_at "d eM Yq ZL Ss"
omit T in
theorem JL:Ak ["train","thing","word","form"] ["train","thing"] (AE Em):=scM
omit T in
theorem Oc:AJ ["train","thing","word","form"] (AE Em) ["train","thing","at","part"] (ixC [0,1] 2) (Gm Em 0):=csM
omit T in
theorem Jn:(["train","thing","at","part"]:Wp Str).Nodup:=by decide+kernel
theorem fq:St.Dfn P w K mg base "is_deed" 7 ["train","thing"] (spD K 2 Dx):=by
 have B:=T.bt
 have Kw:=T.Kw
 have Ep:=T.Ep
 have Kg:=Kg P base T
 refine dfM 6 T.Em JL λhr hu=>?_
 exact(AW (JT (DW.dt (Vf (NV (JO (Ck N8 rfl B.isi ACj (AD (AG 1) (AD (dc rfl B.tuple ADa) AF))))) (Ov (Ec (RG hu) (Ck HQ rfl B.len AC2 (AD (AG 1) AF)) AX)))) (AZ (A7 RM)) Cw)
      (AW (Fd 2 (FN Mh (AG 1) AX) JL.nd)
      (AW (JT (DW.dt (Vf (NV (JO (Ck N8 rfl B.isi ACj (AD (AG 2) (AD (dc rfl B.str AAj) AF))))) (Ov (OP Ep rfl (AG 2))))) (AZ (A7 RM)) Cw)
      (AW (Fd 3 (Ys Ep rfl (AG 2)) JL.nd)
      (AW (JT (Ec (MB hu) (Ck HQ rfl B.len AC2 (AD (AG 1) AF)) (Dt Br (Ck HQ rfl B.len AC2 (AD (AG 3) AF)) AX)) (AZ (A7 RM)) Cw)
      (AW (JT (NV (JO (Ck (YR rfl) rfl B.all boot_all (AD (DP [0,1] 2 ["train","thing","at","part"] rfl Oc (lV rfl B.enumerate (AG 3)) (λs H fp=>⟨Vc rfl (Bo (CZ 2 Jn) (Bo (CZ 3 Jn) Lq)),DL,deM Kg hr (AD (AG 0) (AD (AG 3) (AD (FN Mh (AG 1) (Dt Br (AG 2) AX)) AF)))⟩)) AF)))) (AZ (A7 RM)) Cw)
      (AZ (A7 (qk (WU W7 (AG 2) (Sx Kw rfl)) (cW (WU (MB hu) (FN Mh (AG 1) AX) (FN Mh (AG 1) AX))))))))))))
theorem Zo:St.Dfn P w K mg base "are_first" 7 ["train","thing"] (spD K 2 Fq):=dfW (N:=["train","thing"]) 6 T.ER scM λ_ _ _=>by
 have:AJ ["train","thing"] (AE ER) ["train","load"] (ixC [0] 1) (Gm ER 0):=csM
 have:(["train","load"]:Wp Str).Nodup:=by decide+kernel
 walk_at "d T.bt T.L9 fk"
theorem aV:St.Dfn P w K mg base "are_deeds" 8 ["train","thing"] (spD K 2 EZ):=dfW (N:=["train","thing"]) 7 T.CW scM λ_ _ _=>by
 have:AJ ["train","thing"] (AE CW) ["train","deed"] (ixC [0] 1) (Gm CW 0):=csM
 have:(["train","deed"]:Wp Str).Nodup:=by decide+kernel
 have:AJ ["train","thing"] (AE CW) ["deed"] (ixC [] 1) (Gm CW 1):=csM
 have:(["deed"]:Wp Str).Nodup:=by decide+kernel
 walk_at "d T.bt T.L7 T.K7 fq"
theorem KS:St.Dfn P w K mg base "is_book" 9 ["thing"] (spD K 1 Dy):=dfW (N:=["thing","train","first","deeds"]) 8 T.KH scM λ_ _ _=>by
 walk_at "d Yq b9 Zo aV"
theorem ZM:St.Dfn P w K mg base "has_pieces" 1 ["held","load","pieces"] (spD K 3 Bc):=dfW (N:=["held","load","pieces"]) 0 T.Gw scM λ_ _ _=>by
 walk_at "d T.bt"
theorem dN:St.Dfn P w K mg base "can_pool" 2 ["held","load","other"] (spD K 3 D2):=dfW (N:=["held","load","other"]) 1 T.JC scM λ_ _ _=>by
 walk_at "d ZM"
theorem cZ:St.Dfn P w K mg base "can_swap" 2 ["held","load","given","kind"] (spD K 4 D3):=dfW (N:=["held","load","given","kind"]) 1 T.JW scM λ_ _ _=>by
 walk_at "d ZM"
theorem iy:St.Dfn P w K mg base "can_do" 3 ["held","done","deed"] (spD K 3 CK):=dfW (N:=["held","done","deed","word","numbers"]) 2 T.HF scM λ_ _ _=>by
 have:AJ ["held","done","deed","word","numbers"] (AE HF) ["other"] (ixC [] 1) (Gm HF 0):=csM
 have:(["other"]:Wp Str).Nodup:=by decide+kernel
 walk_at "d ZM dN cZ"
theorem WE:St.Dfn P w K mg base "held_without" 1 ["held","load","pieces"] (spD K 3 BS):=dfW (N:=["held","load","pieces","kind","there"]) 0 T.FZ scM λ_ _ _=>by
 walk_at "d"
theorem Wa:St.Dfn P w K mg base "held_behind" 2 ["held","deed"] (spD K 2 Ad):=dfW (N:=["held","deed","word","kind","pieces","more","load","given","got"]) 1 T.F9 scM λ_ _ _=>by
 walk_at "d WE"
theorem Vd:St.Dfn P w K mg base "held_at_first" 1 ["book"] (spD K 1 Be):=dfW (N:=["book"]) 0 T.CH scM λ_ _ _=>by
 have:AJ ["book"] (AE CH) ["load"] (ixC [] 1) (Gm CH 0):=csM
 have:(["load"]:Wp Str).Nodup:=by decide+kernel
 walk_at "d"
theorem fB:St.Dfn P w K mg base "held_by" 3 ["book","many"] (spD K 2 GW):=dfW (N:=["book","many","held","deed"]) 2 T.J5 scM λ_ _ _=>by
 walk_at "d Wa Vd"
theorem bK:St.Dfn P w K mg base "made_from" 1 ["deed"] (spD K 1 Bx):=dfW (N:=["deed","word"]) 0 T.HU scM λ_ _ _=>by
 walk_at "d T.bt"
theorem GB:St.Dfn P w K mg base "first_wrong" 4 ["book"] (spD K 1 CL):=dfW (N:=["book","held","deeds","at","deed"]) 3 T.F0 scM λ_ _ _=>by
 walk_at "d T.bt iy Wa Vd"
theorem Vy:St.Dfn P w K mg base "refuse_undone" 5 ["book"] (spD K 1 Bi):=dfW (N:=["book","wrong"]) 4 T.Ef scM λ_ _ _=>by
 walk_at "d GB"
omit T in
theorem Df:Ak ["number","parts","low"] ["number"] (AE Cs):=scM
theorem Ar:∀n:Nat,n<=8->St.Dfn P w K mg base "number_text" (1+n) ["number"] (spD K 1 (AL n))
 |0,_=>ZQ T.Cs (λ_ _ F=>bnR F λ_ _ _ _ _ _ _=>rfl)
 |n+1,hn=>by
  have Ar:=Ar n (by lia)
  have B:=T.bt
  refine dfM (1+n) T.Cs Df λhr hu=>?_
  exact(AW (JT (Ec lg (AG 0) AX) (AZ (A7 (Dt Br B9 (deM Ar hr (AD (kZ X4 (AG 0)) AF))))) Cw)
   (AW (Fd 1 (WQ AF) Df.nd)
   (AW (bZ (Od 0) AAT (Ec kg (AG 0) (Dt Pq AX AX)) (AW (Uy (Ck aN rfl B.divmod boot_divmod (AD (AG 0) (AD (Dt Pq AX AX) AF))) (Vc rfl (Bo (CZ 0 Df.nd) (Bo (CZ 2 Df.nd) Lq))))
   (AZ (Xx (ck AAf AB0 Yh (AG 1) (AD (HJ ACV ACW UP U2 (Cf D4 rfl B.str AAj (AD (AG 2) AF)) (AD AX AF)) AF))))))
   (AW (Xx (ck AAf AB0 Yh (AG 1) (AD (Cf D4 rfl B.str AAj (AD (AG 0) AF)) AF)))
   (AZ (A7 (HJ xN xO Hr Hl B9 (AD (gH (AG 1) (kZ (c:=false) X4 AX) λ_ _=>rfl) AF))))))))
omit T in
theorem Bs:Ak ["word","blocks","padded","number","block"] ["word"] (AE EE):=scM
theorem Bj:St.Dfn P w K mg base "number_read" 1 ["word"] (spD K 1 BB):=by
 have B:=T.bt
 refine dfM 0 T.EE Bs λhr hu=>?_
 exact(AW (JT (DW.dt (Vf (NV (DW.dt (dJ (JO (dM PySem.F.slot_str_isascii PySem.F.type_str_isascii Vm gU (AG 0))) (Yw (JO (dM PySem.F.slot_str_isdigit PySem.F.type_str_isdigit Vp gU (AG 0))))))) (Ov (DW.dt (dJ (Ec (RG hu) (FN pK (AG 0) AX) B9) (Yw (Ec lT (Ck HQ rfl B.len AC2 (AD (AG 0) AF)) AX))))))) (AZ (A7 JR)) Cw)
      (AW (Fd 1 (Dt a9 (Dt Br (Ck HQ rfl B.len AC2 (AD (AG 0) AF)) AX) AX) Bs.nd)
      (AW (Fd 2 (HJ ACV ACW UP U2 (AG 0) (AD (Dt Mn AX (AG 1)) AF)) Bs.nd)
      (AW (Fd 3 AX Bs.nd)
      (AW (U8 AAT rfl (YI rfl B.range (AD (AG 1) AF)) (CZ 4 Bs.nd) (AZ (Fd 3 (Dt Br (Dt Mn (AG 3) (Dt Pq AX AX)) (Cf Vi rfl B.int boot_int (AD (eA (AG 2) (Dt Mn AX (AG 4)) (Dt Br (Dt Mn AX (AG 4)) AX)) AF))) Bs.nd)))
      (AZ (A7 (AG 3))))))))
omit T in
theorem Mf:Ak ["amount"] ["amount"] (AE EX):=scM
theorem CN:St.Dfn P w K mg base "amount_text" 10 ["amount"] (spD K 1 BM):=by
 have Ar:=Ar P base T 8 (by decide)
 refine dfM 9 T.EX Mf λhr hu=>?_
 exact(AZ (A7 (jX (FP.val (deM Ar hr (AD (FN Mh (AG 0) AX) AF)) (FP.con (by decide) (FP.val (deM Ar hr (AD (FN Mh (AG 0) AX) AF)) FP.nil))))))
omit T in
theorem Cg:Ak ["word","top","slash","bottom","amount"] ["word"] (AE EN):=scM
theorem GS:St.Dfn P w K mg base "amount_read" 4 ["word"] (spD K 1 Bl):=by
 have DH:=DH P base T
 have Bj:=Bj P base T
 refine dfM 3 T.EN Cg λhr hu=>?_
 exact(AW (Uy (HJ ACC PySem.F.type_str_partition dw iH (AG 0) (AD B9 AF)) (Vc rfl (Bo (CZ 1 Cg.nd) (Bo (CZ 2 Cg.nd) (Bo (CZ 3 Cg.nd) Lq)))))
      (AW (Fd 4 (Gn (AD (deM Bj hr (AD (AG 1) AF)) (AD (deM Bj hr (AD (AG 3) AF)) AF))) Cg.nd)
      (AZ (A7 (eU (JO (deM DH hr (AD (AG 4) AF))) (AG 4) JR)))))
omit T in
theorem Lo:Ak ["numbers","between"] ["numbers","between"] (AE Bv):=scM
omit T in
theorem KR:AJ ["numbers","between"] (AE Bv) ["number"] (ixC [] 1) (Gm Bv 0):=csM
omit T in
theorem Kh:(["number"]:Wp Str).Nodup:=by decide+kernel
theorem WB:St.Dfn P w K mg base "numbers_text" 10 ["numbers","between"] (spD K 2 Dh):=by
 have Ar:=Ar P base T 8 (by decide)
 refine dfM 9 T.Bv Lo λhr hu=>?_
 exact(AZ (A7 (HJ xN xO Hr Hl (AG 1) (AD (DP [] 1 ["number"] rfl KR (Ed (AG 0)) (λs H fp=>⟨CZ 0 Kh,DL,deM Ar hr (AD (AG 0) AF)⟩)) AF))))
omit T in
theorem Ln:Ak ["amounts","between"] ["amounts","between"] (AE Bu):=scM
omit T in
theorem J2:AJ ["amounts","between"] (AE Bu) ["amount"] (ixC [] 1) (Gm Bu 0):=csM
omit T in
theorem KC:(["amount"]:Wp Str).Nodup:=by decide+kernel
theorem V7:St.Dfn P w K mg base "amounts_text" 11 ["amounts","between"] (spD K 2 Dj):=by
 have CN:=CN P base T
 refine dfM 10 T.Bu Ln λhr hu=>?_
 exact(AZ (A7 (HJ xN xO Hr Hl (AG 1) (AD (DP [] 1 ["amount"] rfl J2 (Ed (AG 0)) (λs H fp=>⟨CZ 0 KC,DL,deM CN hr (AD (AG 0) AF)⟩)) AF))))
omit T in
theorem P2:Ak ["things"] ["things"] (AE D6):=scM
omit T in
theorem OK:AJ ["things"] (AE D6) ["thing"] (ixC [] 1) (Gm D6 0):=csM
omit T in
theorem NL:(["thing"]:Wp Str).Nodup:=by decide+kernel
theorem D0:St.Dfn P w K mg base "all_read" 1 ["things"] (spD K 1 By):=by
 have B:=T.bt
 refine dfM 0 T.D6 P2 λhr hu=>?_
 exact(AW (JT (JO (Ck (Yz rfl) rfl B.any boot_any (AD (DP [] 1 ["thing"] rfl OK (Ed (AG 0)) (λs H fp=>⟨CZ 0 NL,DL,WU TM (AG 0) JR⟩)) AF))) (AZ (A7 JR)) Cw)
      (AZ (A7 (Cf Ke rfl B.tuple ADa (AD (AG 0) AF)))))
omit T in
theorem L3:Ak ["word"] ["word"] (AE Bw):=scM
omit T in
theorem J1:AJ ["word"] (AE Bw) ["part"] (ixC [] 1) (Gm Bw 0):=csM
omit T in
theorem J6:(["part"]:Wp Str).Nodup:=by decide+kernel
theorem WH:St.Dfn P w K mg base "numbers_read" 2 ["word"] (spD K 1 Di):=by
 have Bj:=Bj P base T
 have D0:=D0 P base T
 refine dfM 1 T.Bw L3 λhr hu=>?_
 exact(AZ (A7 (deM D0 hr (AD (DP [] 1 ["part"] rfl J1 (Ed (HJ xf yP Ji JZ (AG 0) (AD B9 AF))) (λs H fp=>⟨CZ 0 J6,DL,deM Bj hr (AD (AG 0) AF)⟩)) AF))))
omit T in
theorem LX:Ak ["word"] ["word"] (AE Bt):=scM
omit T in
theorem KJ:AJ ["word"] (AE Bt) ["part"] (ixC [] 1) (Gm Bt 0):=csM
omit T in
theorem J9:(["part"]:Wp Str).Nodup:=by decide+kernel
theorem V8:St.Dfn P w K mg base "amounts_read" 5 ["word"] (spD K 1 Dm):=by
 have GS:=GS P base T
 have D0:=D0 P base T
 refine dfM 4 T.Bt LX λhr hu=>?_
 exact(AZ (A7 (deM D0 hr (AD (DP [] 1 ["part"] rfl KJ (Ed (HJ xf yP Ji JZ (AG 0) (AD B9 AF))) (λs H fp=>⟨CZ 0 J9,DL,deM GS hr (AD (AG 0) AF)⟩)) AF))))
theorem Ha:St.Dfn P w K mg base "part_text" 12 ["part","thing"] (spD K 2 Ba):=dfW (N:=["part","thing"]) 11 T.Hi scM λ_ _ _=>by
 have:=Ar P base T 8 (by decide)
 walk_at "d CN WB V7"
theorem bA:St.Dfn P w K mg base "part_read" 6 ["part","word"] (spD K 2 Av):=dfW (N:=["part","word"]) 5 T.HZ scM λ_ _ _=>by
 walk_at "d Bj GS WH V8"
omit T in
theorem Oe:Ak ["form","things"] ["form","things"] (AE DC):=scM
omit T in
theorem Me:AJ ["form","things"] (AE DC) ["part","thing"] (ixC [] 2) (Gm DC 0):=csM
omit T in
theorem IT:(["part","thing"]:Wp Str).Nodup:=by decide+kernel
theorem IE:St.Dfn P w K mg base "form_text" 13 ["form","things"] (spD K 2 Au):=by
 have B:=T.bt
 have Ha:=Ha P base T
 refine dfM 12 T.DC Oe λhr hu=>?_
 exact(AZ (A7 (HJ xN xO Hr Hl B9 (AD (DP [] 2 ["part","thing"] rfl Me (mC rfl B.zip (AG 0) (AG 1)) (λs H fp=>⟨Vc rfl (Bo (CZ 0 IT) (Bo (CZ 1 IT) Lq)),DL,deM Ha hr (AD (AG 0) (AD (AG 1) AF))⟩)) AF))))
theorem BZ:St.Dfn P w K mg base "form_read" 7 ["form","words"] (spD K 2 Ax):=dfW (N:=["form","words"]) 6 T.EL scM λ_ _ _=>by
 have:AJ ["form","words"] (AE EL) ["part","word"] (ixC [] 2) (Gm EL 0):=csM
 have:(["part","word"]:Wp Str).Nodup:=by decide+kernel
 walk_at "d T.bt D0 bA"
theorem Gy:St.Dfn P w K mg base "train_text" 14 ["train"] (spD K 1 DR):=dfW (N:=["train","partners","kinds","beasts","holders","hire","part"]) 13 T.Gx scM λ_ _ _=>by
 walk_at "d T.FG IE"
omit T in
theorem A8:Ak ["row","word","words","things","partners","kinds","beasts","hire","part","holders"] ["row"] (AE E8):=scM
theorem Gv:St.Dfn P w K mg base "train_read" 8 ["row"] (spD K 1 Dc):=by
 have FG:=T.FG
 have BZ:=BZ P base T
 refine dfM 7 T.E8 A8 λhr hu=>?_
 exact(AW (TV (i:=1) (j:=2) rfl A8.nd (HJ xf yP Ji JZ (AG 0) (AD B9 AF)))
      (AW (Fd 3 (deM BZ hr (AD (Sx FG rfl) (AD (AG 2) AF))) A8.nd)
      (AW (JT (DW.dt (Vf (Ec (MB hu) (AG 1) B9) (Ov (Ec TM (AG 3) JR)))) (AZ (A7 JR)) Cw)
      (AW (Uy (AG 3) (Vc rfl (Bo (CZ 4 A8.nd) (Bo (CZ 5 A8.nd) (Bo (CZ 6 A8.nd) (Bo (CZ 7 A8.nd) (Bo (CZ 8 A8.nd) (Bo (CZ 9 A8.nd) Lq))))))))
      (AZ (A7 (Gn (AD (AG 4) (AD (AG 5) (AD (AG 6) (AD (AG 9) (AD (AG 7) (AD (AG 8) AF)))))))))))))
theorem HY:St.Dfn P w K mg base "load_text" 14 ["load"] (spD K 1 C9):=dfW (N:=["load"]) 13 T.IB scM λ_ _ _=>by
 walk_at "d T.F5 IE"
omit T in
theorem JV:Ak ["row","word","words"] ["row"] (AE Ez):=scM
theorem G4:St.Dfn P w K mg base "first_read" 8 ["row"] (spD K 1 BI):=by
 have F5:=T.F5
 have BZ:=BZ P base T
 refine dfM 7 T.Ez JV λhr hu=>?_
 exact(AW (TV (i:=1) (j:=2) rfl JV.nd (HJ xf yP Ji JZ (AG 0) (AD B9 AF)))
      (AZ (A7 (eU (Ec (RG hu) (AG 1) B9) (deM BZ hr (AD (Sx F5 rfl) (AD (AG 2) AF))) JR))))
omit T in
theorem Oj:Ak ["deed"] ["deed"] (AE Fj):=scM
theorem DJ:St.Dfn P w K mg base "deed_text" 14 ["deed"] (spD K 1 BA):=by
 have Ep:=T.Ep
 have IE:=IE P base T
 refine dfM 13 T.Fj Oj λhr hu=>?_
 exact(AZ (A7 (jX (FP.val (FN Mh (AG 0) AX) (FP.con (by decide) (FP.val (deM IE hr (AD (Ys Ep rfl (FN Mh (AG 0) AX)) (AD (Qb (AG 0) AX) AF))) FP.nil))))))
omit T in
theorem Gs:Ak ["row","word","words","things"] ["row"] (AE Ff):=scM
theorem HW:St.Dfn P w K mg base "deed_read" 8 ["row"] (spD K 1 BY):=by
 have Ep:=T.Ep
 have BZ:=BZ P base T
 refine dfM 7 T.Ff Gs λhr hu=>?_
 exact(AW (TV (i:=1) (j:=2) rfl Gs.nd (HJ xf yP Ji JZ (AG 0) (AD B9 AF)))
      (AW (JT (OP Ep rfl (AG 1)) (AZ (A7 JR)) Cw)
      (AW (Fd 3 (deM BZ hr (AD (Ys Ep rfl (AG 1)) (AD (AG 2) AF))) Gs.nd)
      (AZ (A7 (eU (Ec TM (AG 3) JR) JR (Dt Br (Gn (AD (AG 1) AF)) (AG 3))))))))
omit T in
theorem DY:Ak ["book","train","first","deeds","rows"] ["book"] (AE B0):=scM
omit T in
theorem Md:AJ ["book","train","first","deeds","rows"] (AE B0) ["load"] (ixC [] 1) (Gm B0 0):=csM
omit T in
theorem MY:(["load"]:Wp Str).Nodup:=by decide+kernel
omit T in
theorem MV:AJ ["book","train","first","deeds","rows"] (AE B0) ["deed"] (ixC [] 1) (Gm B0 1):=csM
omit T in
theorem MX:(["deed"]:Wp Str).Nodup:=by decide+kernel
theorem Hv:St.Dfn P w K mg base "book_told" 15 ["book"] (spD K 1 B6):=by
 have Gy:=Gy P base T
 have HY:=HY P base T
 have DJ:=DJ P base T
 refine dfM 14 T.B0 DY λhr hu=>?_
 exact(AW (Uy (AG 0) (Vc rfl (Bo (CZ 1 DY.nd) (Bo (CZ 2 DY.nd) (Bo (CZ 3 DY.nd) Lq)))))
      (AW (Fd 4 (Dt Br (Dt Br (WQ (AD (deM Gy hr (AD (AG 1) AF)) AF)) (DP [] 1 ["load"] rfl Md (Ed (AG 2)) (λs H fp=>⟨CZ 0 MY,DL,Dt Br B9 (deM HY hr (AD (AG 0) AF))⟩))) (DP [] 1 ["deed"] rfl MV (Ed (AG 3)) (λs H fp=>⟨CZ 0 MX,DL,deM DJ hr (AD (AG 0) AF)⟩))) DY.nd)
      (AZ (A7 (HJ xN xO Hr Hl B9 (AD (AG 4) AF))))))
theorem IJ:St.Dfn P w K mg base "book_text" 16 ["book"] (spD K 1 DB):=dfW (N:=["book"]) 15 T.Hq scM λ_ _ _=>by
 walk_at "d Vy Hv"
omit T in
theorem Gz:Ak ["rows","loads","deeds"] ["rows"] (AE B4):=scM
omit T in
theorem Ma:AJ ["rows","loads","deeds"] (AE B4) ["row"] (ixC [] 1) (Gm B4 0):=csM
omit T in
theorem MW:(["row"]:Wp Str).Nodup:=by decide+kernel
omit T in
theorem MZ:AJ ["rows","loads","deeds"] (AE B4) ["row"] (ixC [] 1) (Gm B4 1):=csM
omit T in
theorem MT:(["row"]:Wp Str).Nodup:=by decide+kernel
theorem HX:St.Dfn P w K mg base "rows_read" 9 ["rows"] (spD K 1 ES):=by
 have B:=T.bt
 have Gv:=Gv P base T
 have G4:=G4 P base T
 have HW:=HW P base T
 refine dfM 8 T.B4 Gz λhr hu=>?_
 exact(AW (PZ [] 1 ["row"] rfl Gz.nd rfl rfl Ma (Ed (Qb (AG 0) AX)) (λs H fp=>⟨CZ 0 MW,Yr (JO (HJ ABM ABN Qh RO (AG 0) (AD B9 AF))),deM G4 hr (AD (AG 0) AF)⟩))
      (AW (PZ [] 1 ["row"] rfl Gz.nd rfl rfl MZ (Ed (Qb (AG 0) AX)) (λs H fp=>⟨CZ 0 MT,Yr (NV (JO (HJ ABM ABN Qh RO (AG 0) (AD B9 AF)))),deM HW hr (AD (AG 0) AF)⟩))
      (AZ (A7 (Gn (AD (deM Gv hr (AD (FN Mh (AG 0) AX) AF)) (AD (Cf Ke rfl B.tuple ADa (AD (AG 1) AF)) (AD (Cf Ke rfl B.tuple ADa (AD (AG 2) AF)) AF))))))))
omit T in
theorem Jy:Ak ["text","book"] ["text"] (AE Fs):=scM
theorem He:St.Dfn P w K mg base "book_read" 16 ["text"] (spD K 1 C8):=by
 have B:=T.bt
 have KS:=KS P base T
 have GB:=GB P base T
 have Hv:=Hv P base T
 have HX:=HX P base T
 refine dfM 15 T.Fs Jy λhr hu=>?_
 exact(AW (JT (NV (JO (Ck N8 rfl B.isi ACj (AD (AG 0) (AD (dc rfl B.str AAj) AF))))) (AZ P7) Cw)
      (AW (Fd 1 (deM HX hr (AD (HJ xf yP Ji JZ (AG 0) (AD B9 AF)) AF)) Jy.nd)
      (AW (JT (DW.dt (Vf (NV (JO (deM KS hr (AD (AG 1) AF)))) (Ov (Ec Z6 (deM GB hr (AD (AG 1) AF)) JR)))) (AZ P7) Cw)
      (AW (JT (Ec (MB hu) (deM Hv hr (AD (AG 1) AF)) (AG 0)) (AZ P7) Cw)
      (AZ (A7 (AG 1)))))))
theorem ZI:St.Dfn P w K mg base "all_to_one" 1 ["many","one"] (spD K 2 Ew):=dfW (N:=["many","one"]) 0 T.Dd scM λ_ _ _=>by
 have:AJ ["many","one"] (AE Dd) ["one","at"] (ixC [1] 1) (Gm Dd 0):=csM
 have:(["one","at"]:Wp Str).Nodup:=by decide+kernel
 walk_at "d T.bt T.ko T.R7"
theorem V9:St.Dfn P w K mg base "mixed_shares" 4 ["shares","weight","others","more"] (spD K 4 BV):=dfW (N:=["shares","weight","others","more"]) 3 T.Cb scM λ_ _ _=>by
 have:AJ ["shares","weight","others","more"] (AE Cb) ["weight","more","share","other"] (ixC [1,3] 2) (Gm Cb 0):=csM
 have:(["weight","more","share","other"]:Wp Str).Nodup:=by decide+kernel
 walk_at "d T.bt jk"
theorem YV:St.Dfn P w K mg base "made_shares" 5 ["held","shares","deed"] (spD K 3 A9):=dfW (N:=["held","shares","deed","sources","load","other"]) 4 T.F7 scM λ_ _ _=>by
 walk_at "d T.bt bK V9"
theorem WG:St.Dfn P w K mg base "worth_of_all" 1 ["train","held","worths"] (spD K 3 Dg):=dfW (N:=["train","held","worths"]) 0 T.Cd scM λ_ _ _=>by
 have:AJ ["train","held","worths"] (AE Cd) ["worths","kind","pieces"] (ixC [2] 2) (Gm Cd 0):=csM
 have:(["worths","kind","pieces"]:Wp Str).Nodup:=by decide+kernel
 walk_at "d T.bt"
theorem ZC:St.Dfn P w K mg base "part_thrown" 3 ["train","held","deed"] (spD K 3 EJ):=dfW (N:=["train","held","deed","load","pieces","worths"]) 2 T.F8 scM λ_ _ _=>by
 walk_at "d ip WG"
theorem VL:St.Dfn P w K mg base "thrown_shares" 5 ["train","held","owners","deed","shares"] (spD K 5 C6):=dfW (N:=["train","held","owners","deed","shares","top","bottom"]) 4 T.Eh scM λ_ _ _=>by
 walk_at "d V9 ZC"
theorem Y6:St.Dfn P w K mg base "sold_shares" 4 ["deed","shares"] (spD K 2 EV):=dfW (N:=["deed","shares","partner","other","sold","passed","changed"]) 3 T.F3 scM λ_ _ _=>by
 walk_at "d T.bt nR ml lH"
theorem Vu:St.Dfn P w K mg base "shares_behind" 6 ["train","held","owners","deed","shares"] (spD K 5 Ab):=dfW (N:=["train","held","owners","deed","shares"]) 5 T.Er scM λ_ _ _=>by
 walk_at "d VL Y6"
theorem Vz:St.Dfn P w K mg base "owners_behind" 7 ["train","held","owners","deed"] (spD K 4 Ah):=dfW (N:=["train","held","owners","deed","behind"]) 6 T.CM scM λ_ _ _=>by
 have:AJ ["train","held","owners","deed","behind"] (AE CM) ["train","held","owners","deed","shares"] (ixC [0,1,2,3] 1) (Gm CM 0):=csM
 have:(["train","held","owners","deed","shares"]:Wp Str).Nodup:=by decide+kernel
 walk_at "d T.Ua ZI YV Vu"
theorem cx:St.Dfn P w K mg base "state_by" 8 ["book","many"] (spD K 2 FD):=dfW (N:=["book","many","train","first","deeds","held","owners","holders","deed"]) 7 T.FQ scM λ_ _ _=>by
 have:AJ ["book","many","train","first","deeds","held","owners","holders","deed"] (AE FQ) ["load"] (ixC [] 1) (Gm FQ 0):=csM
 have:(["load"]:Wp Str).Nodup:=by decide+kernel
 walk_at "d Wa Vd Vu Vz"
theorem dA:St.Dfn P w K mg base "all_dues" 9 ["book"] (spD K 1 FH):=dfW (N:=["book","hire","held","owners","holders","dues","shares","kind","pieces","parts"]) 8 T.FO scM λ_ _ _=>by
 have:AJ ["book","hire","held","owners","holders","dues","shares","kind","pieces","parts"] (AE FO) ["pieces","part"] (ixC [8] 1) (Gm FO 0):=csM
 have:(["pieces","part"]:Wp Str).Nodup:=by decide+kernel
 walk_at "d T.bt lH V9 cx"
theorem V4:St.Dfn P w K mg base "whole_pieces" 1 ["due"] (spD K 1 Aj):=dfW (N:=["due"]) 0 T.FY scM λ_ _ _=>by
 walk_at "d"
theorem bf:St.Dfn P w K mg base "over_told" 10 ["book"] (spD K 1 EM):=dfW (N:=["book","held","over","dues","kind","pieces","still","left"]) 9 T.CU scM λ_ _ _=>by
 have:AJ ["book","held","over","dues","kind","pieces","still","left"] (AE CU) ["due"] (ixC [] 1) (Gm CU 0):=csM
 have:(["due"]:Wp Str).Nodup:=by decide+kernel
 have:AJ ["book","held","over","dues","kind","pieces","still","left"] (AE CU) ["left","amount"] (ixC [7] 1) (Gm CU 1):=csM
 have:(["left","amount"]:Wp Str).Nodup:=by decide+kernel
 walk_at "d T.bt ml lH lP fB dA V4"
theorem II:oR P w K mg base "next_book" 11 ["book"] (spR K mg 1 BC):=tO (N:=["book","over","partners","kinds","beasts","ahead","hire","part","held","owners","holders"]) 10 T.Fm scM λ_ _ _=>by
 walk_at "d T.bt T.L9 Vy cx bf T.RU"
theorem Hc:St.Dfn P w K mg base "next_book" 11 ["book"] (spD K 1 Aw):=dfW (N:=["book","over","partners","kinds","beasts","ahead","hire","part","held","owners","holders"]) 10 T.Fm scM λ_ _ _=>by
 walk_at "d T.bt T.L9 Vy cx bf"
theorem OU:St.Dfn P w K mg base "_law_pen" 1 ["_law_cell"] (spD K 1 Ij):=dfW (N:=["_law_cell"]) 0 T.Na scM λ_ _ _=>by
 walk_at "d T.bt"
theorem Ht:St.Dfn P w K mg base "_law_cell_at" 1 ["_law_script","_law_k"] (spD K 2 DK):=dfW (N:=["_law_script","_law_k"]) 0 T.Hz scM λ_ _ _=>by
 walk_at "d T.bt"
theorem iu:St.Dfn P w K mg base "_law_draw" 1 ["_law_pen_here","_law_bound"] (spD K 2 AH):=dfW (N:=["_law_pen_here","_law_bound","_law_found","_law_stir"]) 0 T.LR scM λ_ _ _=>by
 walk_at "d"
theorem cB:St.Dfn P w K mg base "_law_common" 1 ["_law_one","_law_other"] (spD K 2 Gh):=dfW (N:=["_law_one","_law_other"]) 0 T.JG scM λ_ _ _=>by
 walk_at "d"
theorem iX:St.Dfn P w K mg base "_law_made" 2 ["_law_top","_law_bottom"] (spD K 2 Bf):=dfW (N:=["_law_top","_law_bottom","_law_by"]) 1 T.LV scM λ_ _ _=>by
 walk_at "d T.bt cB"
theorem eD:St.Dfn P w K mg base "_law_whole" 3 ["_law_pen_here","_law_many"] (spD K 2 Dw):=dfW (N:=["_law_pen_here","_law_many","_law_weights"]) 2 T.Du scM λ_ _ _=>by
 have:AJ ["_law_pen_here","_law_many","_law_weights"] (AE Du) ["_law_pen_here","_law_one"] (ixC [0] 1) (Gm Du 0):=csM
 have:(["_law_pen_here","_law_one"]:Wp Str).Nodup:=by decide+kernel
 have:AJ ["_law_pen_here","_law_many","_law_weights"] (AE Du) ["_law_weights","_law_weight"] (ixC [2] 1) (Gm Du 1):=csM
 have:(["_law_weights","_law_weight"]:Wp Str).Nodup:=by decide+kernel
 walk_at "d T.bt iu iX"
theorem fZ:St.Dfn P w K mg base "_law_train" 4 ["_law_pen_here"] (spD K 1 IC):=dfW (N:=["_law_pen_here","_law_partners","_law_kinds","_law_beasts"]) 3 T.J7 scM λ_ _ _=>by
 walk_at "d iu eD"
theorem bu:St.Dfn P w K mg base "_law_pieces" 2 ["_law_pen_here"] (spD K 1 BE):=dfW (N:=["_law_pen_here","_law_great"]) 1 T.Ih scM λ_ _ _=>by
 walk_at "d iu"
theorem eN:St.Dfn P w K mg base "_law_first" 4 ["_law_pen_here","_law_train_here"] (spD K 2 IA):=dfW (N:=["_law_pen_here","_law_train_here","_law_found","_law_k"]) 3 T.KU scM λ_ _ _=>by
 walk_at "d T.bt iu eD bu"
theorem gG:St.Dfn P w K mg base "_law_begun" 1 ["_law_book_here"] (spD K 1 IK):=dfW (N:=["_law_book_here"]) 0 T.F1 scM λ_ _ _=>by
 have:AJ ["_law_book_here"] (AE F1) ["_law_load"] (ixC [] 1) (Gm F1 0):=csM
 have:(["_law_load"]:Wp Str).Nodup:=by decide+kernel
 walk_at "d T.bt"
theorem gv:St.Dfn P w K mg base "_law_share" 3 ["_law_pen_here"] (spD K 1 GQ):=dfW (N:=["_law_pen_here","_law_bottom"]) 2 T.KN scM λ_ _ _=>by
 walk_at "d iu iX"
theorem cM:St.Dfn P w K mg base "_law_worths" 2 ["_law_pen_here","_law_many"] (spD K 2 D7):=dfW (N:=["_law_pen_here","_law_many"]) 1 T.FE scM λ_ _ _=>by
 have:AJ ["_law_pen_here","_law_many"] (AE FE) ["_law_pen_here","_law_one"] (ixC [0] 1) (Gm FE 0):=csM
 have:(["_law_pen_here","_law_one"]:Wp Str).Nodup:=by decide+kernel
 walk_at "d T.bt iu"
theorem iP:St.Dfn P w K mg base "_law_deed" 4 ["_law_pen_here","_law_train_here","_law_state"] (spD K 3 Ee):=dfW (N:=["_law_pen_here","_law_train_here","_law_state","_law_loads","_law_holders","_law_numbers","_law_full","_law_way","_law_load","_law_some","_law_same","_law_kind","_law_left","_law_partner"]) 3 T.DF scM λ_ _ _=>by
 have:AJ ["_law_pen_here","_law_train_here","_law_state","_law_loads","_law_holders","_law_numbers","_law_full","_law_way","_law_load","_law_some","_law_same","_law_kind","_law_left","_law_partner"] (AE DF) ["_law_at","_law_load"] (ixC [] 2) (Gm DF 0):=csM
 have:(["_law_at","_law_load"]:Wp Str).Nodup:=by decide+kernel
 have:AJ ["_law_pen_here","_law_train_here","_law_state","_law_loads","_law_holders","_law_numbers","_law_full","_law_way","_law_load","_law_some","_law_same","_law_kind","_law_left","_law_partner"] (AE DF) ["_law_loads","_law_load","_law_at"] (ixC [3,8] 1) (Gm DF 1):=csM
 have:(["_law_loads","_law_load","_law_at"]:Wp Str).Nodup:=by decide+kernel
 have:AJ ["_law_pen_here","_law_train_here","_law_state","_law_loads","_law_holders","_law_numbers","_law_full","_law_way","_law_load","_law_some","_law_same","_law_kind","_law_left","_law_partner"] (AE DF) ["_law_numbers","_law_number"] (ixC [5] 1) (Gm DF 2):=csM
 have:(["_law_numbers","_law_number"]:Wp Str).Nodup:=by decide+kernel
 walk_at "d T.bt iu bu gv cM"
theorem iS:St.Dfn P w K mg base "_law_plus" 3 ["_law_one","_law_other"] (spD K 2 CI):=dfW (N:=["_law_one","_law_other"]) 2 T.Lu scM λ_ _ _=>by
 walk_at "d iX"
theorem gR:St.Dfn P w K mg base "_law_times" 3 ["_law_one","_law_other"] (spD K 2 Aq):=dfW (N:=["_law_one","_law_other"]) 2 T.Kf scM λ_ _ _=>by
 walk_at "d iX"
theorem cg:St.Dfn P w K mg base "_law_pooled" 4 ["_law_one","_law_other"] (spD K 2 GY):=dfW (N:=["_law_one","_law_other","_law_found","_law_mine","_law_its","_law_both"]) 3 T.JP scM λ_ _ _=>by
 walk_at "d T.bt iX iS gR"
theorem ir:St.Dfn P w K mg base "_law_cost" 3 ["_law_train_here","_law_loads","_law_deed_here"] (spD K 3 Jb):=dfW (N:=["_law_train_here","_law_loads","_law_deed_here","_law_worths_here","_law_whole_here"]) 2 T.HB scM λ_ _ _=>by
 have:AJ ["_law_train_here","_law_loads","_law_deed_here","_law_worths_here","_law_whole_here"] (AE HB) ["_law_worths_here","_law_kind","_law_pieces_here","_law_owners"] (ixC [3] 3) (Gm HB 0):=csM
 have:(["_law_worths_here","_law_kind","_law_pieces_here","_law_owners"]:Wp Str).Nodup:=by decide+kernel
 walk_at "d T.bt iX"
theorem ia:St.Dfn P w K mg base "_law_less" 4 ["_law_one","_law_other"] (spD K 2 D1):=dfW (N:=["_law_one","_law_other"]) 3 T.Ly scM λ_ _ _=>by
 walk_at "d iS"
theorem gW:St.Dfn P w K mg base "_law_borne" 5 ["_law_shares_here","_law_part","_law_owners"] (spD K 3 Ej):=dfW (N:=["_law_shares_here","_law_part","_law_owners","_law_found","_law_mine","_law_its"]) 4 T.KZ scM λ_ _ _=>by
 walk_at "d T.bt iS gR ia"
theorem iY:St.Dfn P w K mg base "_law_sold" 5 ["_law_shares_here","_law_deed_here"] (spD K 2 Fx):=dfW (N:=["_law_shares_here","_law_deed_here","_law_found","_law_passes"]) 4 T.Lm scM λ_ _ _=>by
 walk_at "d T.bt iS gR ia"
theorem iW:St.Dfn P w K mg base "_law_turn" 6 ["_law_train_here","_law_state","_law_deed_here"] (spD K 3 Fw):=dfW (N:=["_law_train_here","_law_state","_law_deed_here","_law_loads","_law_holders","_law_numbers","_law_part","_law_owners","_law_load"]) 5 T.Lh scM λ_ _ _=>by
 walk_at "d ir gW iY"
theorem oM:St.Dfn P w K mg base "_law_do" 7 ["_law_train_here","_law_state","_law_deed_here"] (spD K 3 EW):=dfW (N:=["_law_train_here","_law_state","_law_deed_here","_law_loads","_law_holders","_law_numbers","_law_word","_law_one","_law_other","_law_load","_law_given","_law_kind","_law_got"]) 6 T.Kk scM λ_ _ _=>by
 have:AJ ["_law_train_here","_law_state","_law_deed_here","_law_loads","_law_holders","_law_numbers","_law_word","_law_one","_law_other","_law_load","_law_given","_law_kind","_law_got"] (AE Kk) ["_law_deed_here","_law_one"] (ixC [2] 1) (Gm Kk 0):=csM
 have:(["_law_deed_here","_law_one"]:Wp Str).Nodup:=by decide+kernel
 walk_at "d T.bt cg iW"
theorem Jh:St.Dfn P w K mg base "_law_book" 8 ["_law_pen_here","_law_most"] (spD K 2 Ci):=dfW (N:=["_law_pen_here","_law_most","_law_train_here","_law_first_here","_law_state","_law_deeds","_law_k","_law_deed_here"]) 7 T.HP scM λ_ _ _=>by
 have:AJ ["_law_pen_here","_law_most","_law_train_here","_law_first_here","_law_state","_law_deeds","_law_k","_law_deed_here"] (AE HP) ["_law_one"] (ixC [] 1) (Gm HP 0):=csM
 have:(["_law_one"]:Wp Str).Nodup:=by decide+kernel
 walk_at "d T.bt iu fZ eN gG iP oM"
omit T in
theorem Su:Ak ["_law_book_here"] ["_law_book_here"] (AE Jc):=scM
theorem L4:St.Dfn P w K mg base "_law_next" 12 ["_law_book_here"] (spD K 1 Fy):=by
 have Hc:=Hc P base T
 have JM:=T.JM
 have II:=II P base T
 refine dfM 11 T.Jc Su λhr hu=>?_
 exact(AZ (lL (AZ (A7 (deM Hc hr (AD (AG 0) AF)))) (g9 (ku (eO II (hr.mono (by decide)) rfl (AD (AG 0) AF)))) (fe JM rfl (λ_=>(AZ (A7 (AG 0)))) l7)))
omit T in
theorem Rh:Ak ["_law_things"] ["_law_things"] (AE Ek):=scM
omit T in
theorem OZ:AJ ["_law_things"] (AE Ek) ["_law_thing"] (ixC [] 1) (Gm Ek 0):=csM
omit T in
theorem Og:(["_law_thing"]:Wp Str).Nodup:=by decide+kernel
theorem F4:St.Dfn P w K mg base "_law_words" 1 ["_law_things"] (spD K 1 BU):=by
 have B:=T.bt
 refine dfM 0 T.Ek Rh λhr hu=>?_
 exact(AZ (A7 (HJ xN xO Hr Hl B9 (AD (DP [] 1 ["_law_thing"] rfl OZ (Ed (AG 0)) (λs H fp=>⟨CZ 0 Og,DL,Cf D4 rfl B.str AAj (AD (AG 0) AF)⟩)) AF))))
omit T in
theorem QF:Ak ["_law_shares_here"] ["_law_shares_here"] (AE D9):=scM
omit T in
theorem N5:AJ ["_law_shares_here"] (AE D9) ["_law_one"] (ixC [] 1) (Gm D9 0):=csM
omit T in
theorem NR:(["_law_one"]:Wp Str).Nodup:=by decide+kernel
theorem JE:St.Dfn P w K mg base "_law_shares" 1 ["_law_shares_here"] (spD K 1 CS):=by
 have B:=T.bt
 refine dfM 0 T.D9 QF λhr hu=>?_
 exact(AZ (A7 (HJ xN xO Hr Hl B9 (AD (DP [] 1 ["_law_one"] rfl N5 (Ed (AG 0)) (λs H fp=>⟨CZ 0 NR,DL,Dt Br (Dt Br (Cf D4 rfl B.str AAj (AD (FN Mh (AG 0) AX) AF)) B9) (Cf D4 rfl B.str AAj (AD (FN Mh (AG 0) AX) AF))⟩)) AF))))
theorem FX:St.Dfn P w K mg base "_law_train_text" 2 ["_law_train_here"] (spD K 1 Ce):=dfW (N:=["_law_train_here"]) 1 T.FV scM λ_ _ _=>by
 walk_at "d F4 JE"
theorem GK:St.Dfn P w K mg base "_law_load_text" 2 ["_law_load"] (spD K 1 CO):=dfW (N:=["_law_load"]) 1 T.GN scM λ_ _ _=>by
 walk_at "d F4 JE"
omit T in
theorem Mj:Ak ["_law_deed_here"] ["_law_deed_here"] (AE CG):=scM
omit T in
theorem Kn:AJ ["_law_deed_here"] (AE CG) ["_law_one"] (ixC [] 1) (Gm CG 0):=csM
omit T in
theorem Kz:(["_law_one"]:Wp Str).Nodup:=by decide+kernel
theorem CF:St.Dfn P w K mg base "_law_deed_text" 2 ["_law_deed_here"] (spD K 1 Ac):=by
 have B:=T.bt
 have F4:=F4 P base T
 have JE:=JE P base T
 refine dfM 1 T.CG Mj λhr hu=>?_
 exact(AW (JT (Ec (RG hu) (FN Mh (AG 0) AX) B9) (AZ (A7 (Dt Br (Dt Br (deM F4 hr (AD (XO (AG 0) AX) AF)) B9) (deM JE hr (AD (Qb (AG 0) AX) AF))))) Cw)
      (AW (JT (Ec (RG hu) (FN Mh (AG 0) AX) B9) (AZ (A7 (Dt Br (Dt Br (deM F4 hr (AD (XO (AG 0) AX) AF)) B9) (HJ xN xO Hr Hl B9 (AD (DP [] 1 ["_law_one"] rfl Kn (Ed (FN Mh (AG 0) AX)) (λs H fp=>⟨CZ 0 Kz,DL,Cf D4 rfl B.str AAj (AD (AG 0) AF)⟩)) AF))))) Cw)
      (AZ (A7 (deM F4 hr (AD (AG 0) AF))))))
omit T in
theorem IP:Ak ["_law_book_here","_law_rows"] ["_law_book_here"] (AE BJ):=scM
omit T in
theorem LB:AJ ["_law_book_here","_law_rows"] (AE BJ) ["_law_load"] (ixC [] 1) (Gm BJ 0):=csM
omit T in
theorem Kv:(["_law_load"]:Wp Str).Nodup:=by decide+kernel
omit T in
theorem LA:AJ ["_law_book_here","_law_rows"] (AE BJ) ["_law_deed_here"] (ixC [] 1) (Gm BJ 1):=csM
omit T in
theorem K8:(["_law_deed_here"]:Wp Str).Nodup:=by decide+kernel
theorem GP:St.Dfn P w K mg base "_law_book_text" 3 ["_law_book_here"] (spD K 1 Bm):=by
 have FX:=FX P base T
 have GK:=GK P base T
 have CF:=CF P base T
 refine dfM 2 T.BJ IP λhr hu=>?_
 exact(AW (Fd 1 (Dt Br (WQ (AD (deM FX hr (AD (FN Mh (AG 0) AX) AF)) AF)) (DP [] 1 ["_law_load"] rfl LB (Ed (FN Mh (AG 0) AX)) (λs H fp=>⟨CZ 0 Kv,DL,Dt Br B9 (deM GK hr (AD (AG 0) AF))⟩))) IP.nd)
      (AZ (A7 (HJ xN xO Hr Hl B9 (AD (Dt Br (AG 1) (DP [] 1 ["_law_deed_here"] rfl LA (Ed (FN Mh (AG 0) AX)) (λs H fp=>⟨CZ 0 K8,DL,deM CF hr (AD (AG 0) AF)⟩))) AF)))))
end Mi
end
noncomputable section
namespace Mi
open PySem PySem.NumText
noncomputable def sep(c:Nat):Str:=⟨#[c]⟩
theorem Uo{c:Nat}:∀{a b s t:Wp Nat},c∉a->c∉b->a++c::s=b++c::t->a=b/\s=t
 | [],[],s,t,_,_,h=>by simpa using h
 | [],y::b,s,t,_,hb,h=>by
   simp at h
   exact absurd (by simp[h.1]) hb
 |x::a,[],s,t,ha,_,h=>by
  simp at h
  exact absurd (by simp[h.1]) ha
 |x::a,y::b,s,t,ha,hb,h=>by
  simp only[wg,List.cons.injEq]at h
  simp only[ve,ACv]at ha hb
  obtain⟨e1,e2⟩:=Uo ha.2 hb.2 h.2
  exact⟨by rw[h.1,e1],e2⟩
def N0{a b:Str}(h:a.cps.toList=b.cps.toList):a=b:=Str.ext' (Array.toList_inj.mp h)
def Oa{a b:Str}:(a++b).cps.toList=a.cps.toList++b.cps.toList:=by rw[Str.cps_append,ADL]
def join_cons{c:Nat}{p q:Str}{r:Wp Str}:(wG (sep c) (p::q::r)).cps.toList=p.cps.toList++c::(wG (sep c) (q::r)).cps.toList:=by
 show(p++sep c++wG (sep c) (q::r)).cps.toList=_
 rw[Oa,Oa]
 simp[sep]
theorem UK{c:Nat}:∀{ps qs:Wp Str},ps≠[]->qs≠[]->(∀p∈ps,c∉p.cps.toList)->(∀q∈qs,c∉q.cps.toList)->wG (sep c) ps=wG (sep c) qs->ps=qs
 | [],_,h,_,_,_,_=>absurd rfl h
 |_,[],_,h,_,_,_=>absurd rfl h
 | [p],[q],_,_,_,_,h=>by rw[show p=q from h]
 | [p],q::q'::qs,_,_,hp,hq,h=>by
   have:=congrArg (λx:Str=>x.cps.toList) h
   simp only[join_cons]at this
   exact absurd (by rw[show(wG (sep c) [p]).cps.toList=p.cps.toList from rfl]at this;rw[this];simp) (hp p (by simp))
 |p::p'::ps,[q],_,_,hp,hq,h=>by
  have:=congrArg (λx:Str=>x.cps.toList) h
  simp only[join_cons]at this
  exact absurd (by rw[show(wG (sep c) [q]).cps.toList=q.cps.toList from rfl]at this;rw[<-this];simp) (hq q (by simp))
 |p::p'::ps,q::q'::qs,_,_,hp,hq,h=>by
  have:=congrArg (λx:Str=>x.cps.toList) h
  simp only[join_cons]at this
  obtain⟨e1,e2⟩:=Uo (hp p (by simp)) (hq q (by simp)) this
  rw[N0 e1,UK (by simp) (by simp) (λz hz=>hp z (vh _ hz)) (λz hz=>hq z (vh _ hz)) (N0 e2)]
def bV{x:Str}{c:Nat}:yC x (sep c)≠[]:=by
 unfold yC
 split
 .simp
 .split
  .simp
  .rw[StrLaws.partsBetween_eq]
   obtain⟨p,r,e⟩:=StrLaws.partsFrom_ne x (sep c).length 0 (xU x (sep c) 0 x.length (x.length+1))
   rw[e]
   simp
def Jk{c:Nat}{ps:Wp Str}(h:ps≠[])(hp:∀p∈ps,c∉p.cps.toList):yC (wG (sep c) ps) (sep c)=ps:=
 UK bV h (StrLaws.split_free _ c) hp (StrLaws.join_split _ _)
def Ub{s:Str}{ts:Wp Str}:AC0 s ts=wG s ts:=StrLaws.glued_eq_join s ts
noncomputable def nS(n:Nat):Str:=vY (toString (n:Int))
noncomputable def dg(n:Nat):Wp Nat:=(Nat.toDigits 10 n).map Char.toNat
def QZ{n:Nat}:(nS n).cps.toList=dg n:=PySem.W.KIN.signs_num n
def PH{n:Nat}:AllDigits (dg n):=λc hc=>by
 obtain⟨ch,hch,rfl⟩:=vq.mp hc
 exact PyProof.Rows.digit_range (Nat.isDigit_of_mem_toDigits (by decide) (by decide) hch)
def mU{n:Nat}:digitsVal (dg n)=n:=PySem.W.KIN.val_back n
def Kq{n:Nat}(h:n<10):dg n=[48+n]:=by
 unfold dg
 rw[Nat.toDigits_of_lt_base h,digitChar_of n h]
 have:∀d<10,(Char.ofNat (48+d)).toNat=48+d:=by decide
 show [(Char.ofNat (48+n)).toNat]=_
 rw[this n h]
def Qs{n d:Nat}(hn:0<n)(hd:d<10):dg (10*n+d)=dg n++[48+d]:=by
 rw[<-Kq hd]
 unfold dg
 rw[<-Nat.toDigits_append_toDigits (by decide) hn hd,yT]
def aO{n:Nat}:dg n≠[]:=λe=>by
 have h:=toDigits_len_ge 10 n
 unfold dg at e
 rw[ABD.mp e]at h
 exact absurd h (by decide)
noncomputable def pad:Nat->Nat->Wp Nat
 |0,_=>[]
 |k+1,n=>pad k (n / 10)++[48+n % 10]
theorem Nn:∀{k n:Nat},(pad k n).length=k
 |0,_=>rfl
 |k+1,n=>by
  show(pad k (n / 10)++[48+n % 10]).length=_
  rw[wc,Nn]
  rfl
theorem cN:∀{k q r:Nat},0<q->r<10^k->dg (q*10^k+r)=dg q++pad k r
 |0,q,r,hq,hr=>by
  have:r=0:=by simpa using hr
  subst this
  simp[pad]
 |k+1,q,r,hq,hr=>by
  have h1:r / 10<10^k:=yh (by rw[yK]at hr;lia)
  have e:q*10^(k+1)+r=10*(q*10^k+r / 10)+r % 10:=by
   rw[yK]
   have:=Nat.div_add_mod r 10
   have:q*(10^k*10)=10*(q*10^k):=by rw[<-xY,xk]
   lia
  have hp:0<q*10^k+r / 10:=vd (yU hq (Nat.pow_pos (by decide))) (yr _ _)
  rw[e,Qs hp (AAC _ (by decide)),cN hq h1,zE]
  rfl
theorem Up:∀{k n:Nat},n<10^k->0<k->wB (k-(dg n).length) 48++dg n=pad k n/\(dg n).length<=k
 |0,_,_,h=>absurd h (by decide)
 |k+1,n,hn,_=>by
  by_cases h:n<10
  .rw[Kq h]
   have e:pad (k+1) n=pad k (n / 10)++[48+n % 10]:=rfl
   have z:∀{j:Nat},pad j 0=wB j 48:=by
    intro j
    induction j with
    |zero=>rfl
    |succ j ih=>
     show pad j (0 / 10)++[48+0 % 10]=_
     rw[show 0 / 10=0 from rfl,ih,List.replicate_succ']
   rw[e,Nat.div_eq_of_lt h,Nat.mod_eq_of_lt h,z]
   simp
  .have hk:0<k:=by
    cases k with
    |zero=>simp at hn;lia
    |succ k=>lia
   have h1:n / 10<10^k:=yh (by rw[yK]at hn;lia)
   obtain⟨e1,e2⟩:=Up h1 hk
   have e:dg n=dg (n / 10)++[48+n % 10]:=by
    have:=Qs (n:=n / 10) (d:=n % 10) (by lia) (AAC _ (by decide))
    rwa [show 10*(n / 10)+n % 10=n by lia]at this
   rw[e,wc]
   have e3:pad (k+1) n=pad k (n / 10)++[48+n % 10]:=rfl
   rw[e3,<-e1]
   simp
   lia
end Mi
end
noncomputable section
namespace Mi
open PySem PySem.Spec L2
@[simp high] def An{α β:Type}(a:α)(f:α->Option β):(some a).bind f=f a:=Eq.mp (congrArg (λz=>z=f a) rfl) (Eq.refl (f a))
@[simp high] def qT{α β:Type}(a:α)(f:α->β):(some a).map f=some (f a):=Eq.mp (congrArg (λz=>z=some (f a)) rfl) (Eq.refl (some (f a)))
section
variable{E:En}{S:Sto}{op:OpN}{f g c:Ev}{d:D}{i:Nat}{w:Wv}{a b e h r':D}{r:Wp D}{fs:Wp Ev}
@[simp] def vH:at? (o::E) 0=o:=rfl
@[simp] def vI:at? (o::E) (i+1)=at? E i:=rfl
@[simp] def tH:eC d E S=some (d,S):=rfl
@[simp] def sE:eV i E S=(at? E i).map λd=>(d,S):=rfl
@[simp] def fC:evs [] E S=some ([],S):=rfl
@[simp] def Dl:evs (f::fs) E S=(f E S).bind λr=>(evs fs E r.2).map λq=>(r.1::q.1,q.2):=rfl
@[simp] def Yu{cf:Bool}:Ny cf op fs E S=(evs fs E S).bind λr=>(op (r.1.map (dr r.2))).bind λw=>fin cf w r.2:=rfl
@[simp] def vC{cf:Bool}:fin cf (.val d) S=some (d,S):=by cases cf<;>rfl
@[simp] def uo:fin false (.own r) S=some (.lst r,S):=rfl
@[simp] def uW:fin true (.own r) S=some (.ref S.length,S++[.lst r]):=rfl
@[simp] def rQ:dr S .non=.val .non:=rfl
@[simp] def uZ{b:Bool}:dr S (.bl b)=.val (.bl b):=rfl
@[simp] def rK{i:Int}:dr S (.int i)=.val (.int i):=rfl
@[simp] def tF{x:Str}:dr S (.str x)=.val (.str x):=rfl
@[simp] def uC{x:String}:dr S (.ty x)=.val (.ty x):=rfl
@[simp] def rX:dr S (.tup r)=.val (.tup r):=rfl
@[simp] def sA:dr S (.lst r)=.val (.lst r):=rfl
@[simp] def tE{ns:List Int}:dr S (.scr ns)=.val (.scr ns):=rfl
def A1{n:Nat}(h:S[n]?=Gc (.lst r)):dr S (.ref n)=.own r:=by
 show(match S[n]? with|some (.lst ds)=>Wv.own ds|_=>.val (.ref n))=_
 rw[h]
def AQ{n:Nat}(h:S[n]?=Gc (.lst r)):FK S n=Gc r:=by
 unfold FK
 rw[h]
@[simp] def rZ:fz (.val d)=d:=rfl
noncomputable def rG(g:Ev)(E:En)(r:D×Sto):vi (D×Sto):=match r.1 with| .bl true=>g E r.2| .bl false=>Gc (.bl false,r.2)|_=>none
noncomputable def orK(g:Ev)(E:En)(r:D×Sto):vi (D×Sto):=match r.1 with| .bl false=>g E r.2| .bl true=>Gc (.bl true,r.2)|_=>none
noncomputable def sk(r:D×Sto):vi (D×Sto):=match r.1 with| .bl b=>Gc (.bl (!b),r.2)|_=>none
noncomputable def ifK(f g:Ev)(E:En)(r:D×Sto):vi (D×Sto):=match r.1 with| .bl true=>f E r.2| .bl false=>g E r.2|_=>none
@[simp] def sr:rG g E (.bl true,S)=g E S:=rfl
@[simp] def sM:rG g E (.bl false,S)=some (.bl false,S):=rfl
@[simp] def uR:orK g E (.bl false,S)=g E S:=rfl
@[simp] def uD:orK g E (.bl true,S)=some (.bl true,S):=rfl
@[simp] def r9{b:Bool}:sk (.bl b,S)=some (.bl (!b),S):=rfl
@[simp] def uV:ifK f g E (.bl true,S)=f E S:=rfl
@[simp] def ui:ifK f g E (.bl false,S)=g E S:=rfl
@[simp] def nD:Fi f g E S=(f E S).bind (rG g E):=rfl
@[simp] def TN:eOr f g E S=(f E S).bind (orK g E):=rfl
@[simp] def oS:Jm f E S=(f E S).bind sk:=rfl
@[simp] def rB:eIf c f g E S=(c E S).bind (ifK f g E):=rfl
@[simp] def nq:Bh fs E S=(evs fs E S).bind λr=>if r.1.length<=sizeLine then some (.tup r.1,r.2)else none:=rfl
@[simp] def oO{cf:Bool}:ZU cf fs E S=(evs fs E S).bind λr=>if r.1.length<=sizeLine then fin cf (.own r.1) r.2 else none:=rfl
@[simp] def jG{F:Fn}:AB F fs E S=(evs fs E S).bind λr=>F r.1 r.2:=rfl
noncomputable def sX(op:Mo)(fs:Wp Ev)(E:En)(r:D×Sto):vi (D×Sto):=match r.1 with
 | .ref n=>(FK r.2 n).bind λ_=>(evs fs E r.2).bind λp=>(FK p.2 n).bind λds=>(op p.2 ds p.1).map λq=>(q.1,p.2.set n (.lst q.2))
 |_=>none
@[simp] def nv{op:Mo}:sX op fs E (.ref n,S)=(FK S n).bind λ_=>(evs fs E S).bind λp=>(FK p.2 n).bind λds=>(op p.2 ds p.1).map λq=>(q.1,p.2.set n (.lst q.2)):=rfl
@[simp] def mr{op:Mo}:Mq op f fs E S=(f E S).bind (sX op fs E):=rfl
@[simp] def nG:Ng S r [d]=if r.length<sizeLine then some (.non,r++[d])else none:=rfl
variable{x y:Ex}
noncomputable def iU(y:Ex)(r:Fl×En×Sto):vi (Fl×En×Sto):=match r.1 with| .nx=>y r.2.1 r.2.2| .ret w=>Gc (.ret w,r.2)
noncomputable def qQ(x y:Ex)(E:En)(r:D×Sto):vi (Fl×En×Sto):=match r.1 with| .bl true=>x E r.2| .bl false=>y E r.2|_=>none
@[simp] def Lr:iU y (.nx,E,S)=y E S:=rfl
@[simp] def mX{w:D}:iU y (.ret w,E,S)=some (.ret w,E,S):=rfl
@[simp] def sP:qQ x y E (.bl true,S)=x E S:=rfl
@[simp] def sQ:qQ x y E (.bl false,S)=y E S:=rfl
@[simp] def LJ:AM x y E S=(x E S).bind (iU y):=rfl
@[simp] def nE:BX E S=some (.nx,E,S):=rfl
@[simp] def YB:xIf c x y E S=(c E S).bind (qQ x y E):=rfl
@[simp] def nN:AU f E S=(f E S).map λr=>(.ret r.1,E,r.2):=rfl
@[simp] def bF:A6 i f E S=(f E S).map λr=>(.nx,E.set i (some r.1),r.2):=rfl
@[simp] def XN:EA f E S=(f E S).map λr=>(.nx,E,r.2):=rfl
noncomputable def rR(d b:D)(E:En)(i:D×Sto):vi (Fl×En×Sto):=match b,i.1 with
 | .ref n,.int j=>(FK i.2 n).bind λds=>(ixN ds.length j).map λm=>(.nx,E,i.2.set n (.lst (ds.set m d)))
 |_,_=>none
@[simp] def nP:rR d (.ref n) E (.int j,S)=(FK S n).bind λds=>(ixN ds.length j).map λm=>(.nx,E,S.set n (.lst (ds.set m d))):=rfl
@[simp] def nZ{k o:Ev}:PJ k f o E S=(k E S).bind λr=>(f E r.2).bind λb=>(o E b.2).bind (rR r.1 b.1 E):=rfl
@[simp] def nh{t:Tf}:Ki t f E S=(f E S).bind λr=>(t r.1 E r.2).map λE'=>(.nx,E',r.2):=rfl
@[simp] def oH{i j:Nat}:WC i j f g E S=(f E S).bind λr=>(g E r.2).map λq=>(.nx,(E.set i (some r.1)).set j (some q.1),q.2):=by
  unfold WC
  rw[Dl]
  cases f E S with
  |none=>rfl
  |some r=>
   rw[An,An,Dl]
   cases g E r.2 with
   |none=>rfl
   |some q=>rfl
@[simp] def hV:tNm i d E S=some (E.set i (some d)):=rfl
@[simp] def pD:tTp ts (.tup ds) E S=tMs ts ds E S:=rfl
@[simp] def ox:tTp ts (.lst ds) E S=tMs ts ds E S:=rfl
@[simp] def qV:tTp ts (.ref n) E S=(FK S n).bind λds=>tMs ts ds E S:=rfl
@[simp] def rC:tMs [] [] E S=some E:=rfl
@[simp] def oK:tMs (t::ts) (d::ds) E S=(t d E S).bind λE1=>tMs ts ds E1 S:=rfl
@[simp] def iz:AR (AV N x) ds S=(x (ds.map some++List.replicate (N-ds.length) none) S).map λr=>(flD r.1,r.2.2):=by rw[QX];rfl
@[simp] def rT:flD .nx=.non:=rfl
@[simp] def pb:flD (.ret d)=d:=rfl
@[simp] def qb{i j:Int}:BF (.val (.int i)) (.val (.int j))=some (.val (.int (i+j))):=rfl
@[simp] def pQ{i j:Str}:BF (.val (.str i)) (.val (.str j))=if i.length+j.length<=sizeLine then some (.val (.str (i++j)))else none:=rfl
@[simp] def ql{xs ys:List D}:BF (.val (.tup xs)) (.val (.tup ys))=if xs.length+ys.length<=sizeLine then some (.val (.tup (xs++ys)))else none:=rfl
@[simp] def pN{xs ys:List D}:BF (.val (.lst xs)) (.val (.lst ys))=if xs.length+ys.length<=sizeLine then some (.own (xs++ys))else none:=rfl
@[simp] def nF{i j:Int}:Bq (.val (.int i)) (.val (.int j))=if DO i j=true then some (.val (.int (i*j)))else none:=rfl
@[simp] def nV{k:Int}:Bq (.val (.tup r)) (.val (.int k))=if(!r.isEmpty && decide (k<=0) && decide (-(2^63)<=k))=true then some (.val (.tup []))else if(!r.isEmpty && decide (1<=k) && decide (r.length*k.toNat<=sizeLine))=true then some (.val (.tup (List.replicate k.toNat r).flatten))else none:=rfl
@[simp] def qq:asS (.own r)=some r:=rfl
@[simp] def pM:asS (.val (.lst r))=some r:=rfl
@[simp] def pG:asS (.val (.tup r))=some r:=rfl
@[simp] def rA{ns:List Int}:asS (.val (.scr ns))=some (ns.map .int):=rfl
@[simp] def pF:asL (.own r)=some r:=rfl
@[simp] def gm{j:Int}:wIx w (.val (.int j))=(asS w).bind λds=>(atI ds j).map .val:=rfl
def DM{n:Nat}{x:α}(h:xs[n]?=Gc x):atI xs (n:Int)=Gc x:=fR h
def cQ{xs:Wp α}{i:Int}(h0:0<=i)(h1:i<xs.length):atI xs i=Gc (xs[i.toNat]'(by lia)):=by
 have:atI xs ((i.toNat:Nat):Int)=Gc (xs[i.toNat]'(by lia)):=DM (vk (by lia))
 rwa [wL h0]at this
@[simp] def uT:atI (a::r) 0=some a:=DM (n:=0) rfl
@[simp] def uL:atI (a::b::r) 1=some b:=DM (n:=1) rfl
@[simp] def uA:atI (a::b::e::r) 2=some e:=DM (n:=2) rfl
@[simp] def uJ:atI (a::b::e::h::r) 3=some h:=DM (n:=3) rfl
@[simp] def uF{k:D}:atI (a::b::e::h::k::r) 4=some k:=DM (n:=4) rfl
def QD{n k:Nat}(h:k<n):ixN n (k:Int)=Gc k:=by
 unfold ixN
 simp
 lia
def Uv{n:Nat}{i:Int}(h0:0<=i)(h1:i<n):ixN n i=Gc i.toNat:=by
 have:=QD (n:=n) (k:=i.toNat) (by lia)
 rwa [wL h0]at this
@[simp] def uS{n:Nat}:ixN (n+1) 0=some 0:=Uv (by decide) (by lia)
@[simp] def u9{n:Nat}:ixN (n+2) 1=some 1:=Uv (by decide) (by lia)
@[simp] def t9{n:Nat}:ixN (n+3) 2=some 2:=Uv (by decide) (by lia)
@[simp] def sR{i j:Int}:deq (.int i) (.int j)=(i==j):=rfl
@[simp] def qM{i j:Int}:KI (.int i) (.int j)=true:=rfl
@[simp] def qH{w':Wv}:wEq w w'=if KI (fz w) (fz w')=true then some (.val (.bl (deq (fz w) (fz w'))))else none:=rfl
@[simp] def qf{w':Wv}:wNe w w'=if KI (fz w) (fz w')=true then some (.val (.bl (!deq (fz w) (fz w'))))else none:=rfl
@[simp] def qG{i j:Int}:wLt (.val (.int i)) (.val (.int j))=some (.val (.bl (decide (i<j)))):=rfl
@[simp] def qI{i j:Int}:wLe (.val (.int i)) (.val (.int j))=some (.val (.bl (decide (i<=j)))):=rfl
@[simp] def qc{i j:Int}:wGt (.val (.int i)) (.val (.int j))=some (.val (.bl (decide (j<i)))):=rfl
@[simp] def pR{i j:Int}:wGe (.val (.int i)) (.val (.int j))=some (.val (.bl (decide (j<=i)))):=rfl
@[simp] def nK{i j:Int}:Ra (.val (.int i)) (.val (.int j))=some (.val (.int (i-j))):=rfl
@[simp] def ni{i:Int}:ZN (.val (.int i))=some (.val (.int (-i))):=rfl
@[simp] def oG{i j:Int}:SO (.val (.int i)) (.val (.int j))=(if 0<j then some (.val (.int (i % j)))else none):=by
  show ADZ Wv.val (if 0<j then Gc (D.int (i % j))else none)=_
  split<;>rfl
@[simp] def YL{i j:Int}:K9 (.val (.int i)) (.val (.int j))=(if(decide (0<j) && decide (j.natAbs<F2))=true then some (.val (.int (i / j)))else none):=by
  show ADZ Wv.val (if(decide (0<j) && decide (j.natAbs<F2))=true then Gc (D.int (i / j))else none)=_
  split<;>rfl
@[simp] def my{i j:Int}:VY (.val (.int i)) (.val (.int j))=if(decide (0<=j) && decide (j<=1000) && decide (i.natAbs<2^64))=true then some (.val (.int (i^j.toNat)))else none:=by
  show ADZ Wv.val (if(decide (0<=j) && decide (j<=1000) && decide (i.natAbs<2^64))=true then Gc (D.int (i^j.toNat))else none)=_
  split<;>rfl
@[simp] def me{i:Int}:ie (.val (.int i))=some (.val (.int (i.natAbs:Int))):=by
  show Gc (Wv.val (D.int (if i<0 then-i else i)))=_
  congr 3
  split<;>lia
@[simp] def nH:FI (.val (.lst r))=some (.val (.int r.length)):=rfl
@[simp] def oP:FI (.val (.tup r))=some (.val (.int r.length)):=rfl
@[simp] def oJ{ns:List Int}:FI (.val (.scr ns))=some (.val (.int ns.length)):=by
  show Gc (Wv.val (D.int ((ns.map D.int).length:Nat)))=_
  rw[wY]
@[simp] def ic:CD w=(asS w).map λds=>.val (.tup ds):=rfl
@[simp] def mF:RB w=(asS w).map λds=>.own ds:=rfl
@[simp] def rM{b:Bool}:eZ (.val (.bl b))=some (.val (.int (if b then 1 else 0))):=rfl
@[simp] def oA{i j:Int}:m9 (.val (.int i)) (.val (.int j))=some (.val (.int (if j>i then j else i))):=rfl
@[simp] def nM{i j:Int}:iT (.val (.int i)) (.val (.int j))=some (.val (.int (if j<i then j else i))):=rfl
@[simp] def oQ{T:String}:SQ w (.val (.ty T))=if Ql T=true then(kdW w).map λk=>.val (.bl (k.isA T))else none:=rfl
@[simp] def qR:Ql "int"=true:=by decide
@[simp] def oE:Ql "bool"=true:=by decide
@[simp] def kQ:Ql "tuple"=true:=by decide
@[simp] def om:Ql "str"=true:=by decide
@[simp] def mZ:ZP (.val (.lst r))=(bls r).map λbs=>.val (.bl (bs.all id)):=rfl
def AI{n:Nat}(h:n<=1000):n<=sizeLine:=va h (by decide)
@[simp] def sz1:(1:Nat)<=sizeLine:=AI (by decide)
@[simp] def sz2:(2:Nat)<=sizeLine:=AI (by decide)
@[simp] def sz3:(3:Nat)<=sizeLine:=AI (by decide)
@[simp] def sz4:(4:Nat)<=sizeLine:=AI (by decide)
@[simp] def sz5:(5:Nat)<=sizeLine:=AI (by decide)
@[simp] def sz6:(6:Nat)<=sizeLine:=AI (by decide)
@[simp] def GI:Ai E S=some (.bl true,S):=rfl
@[simp] def mz{b:Ex}:Ml s t b E S=(s E S).bind λr=>Mu r.1.2 t b r.1.1 E r.2:=rfl
@[simp] def AO:gOk [] S:=λ_ h=>(nomatch h)
def H0{b:Ex}(h:gOk gs S):Mu gs t b [] E S=Gc (.nx,E,S):=by
 unfold Mu
 rw[wU h]
def ZG {b:Ex}(h:gOk gs S):Mu gs t b (d::ds) E S=(t d E S).bind λE1=>(b E1 S).bind λr=>match r.1 with
    | .nx => Mu gs t b ds r.2.1 r.2.2
    | .ret w=>Gc (.ret w,r.2):=by
  rw [Mu, wU h]
  all_goals rfl
def Es{b:Ex}(h:gOk gs S):Mu gs t b (d::ds) E S=(t d E S).bind λE1=>(b E1 S).bind (iU (Mu gs t b ds)):=by
 rw[ZG h]
 rfl
@[simp] def nO:C7 f E S=(f E S).bind λr=>(sqD r.2 r.1).map λp=>(p,r.2):=rfl
@[simp] def rH:sqD S (.tup r)=some (r,[]):=rfl
@[simp] def qp:sqD S (.lst r)=some (r,[]):=rfl
def IG{n:Nat}(h:S[n]?=Gc (.lst r)):sqD S (.ref n)=Gc (r,[(n,r)]):=by
 show(FK S n).map (λds=>(ds,[(n,ds)]))=_
 rw[AQ h]
 rfl
@[simp] def nU:iA f E S=(f E S).bind λr=>(sqD r.2 r.1).map λp=>((QY 0 p.1,p.2),r.2):=rfl
@[simp] def nY:VZ f g E S=(f E S).bind λr=>(g E r.2).bind λq=>(sqD q.2 r.1).bind λa=>(sqD q.2 q.1).map λb=>((MO a.1 b.1,a.2++b.2),q.2):=by
  unfold VZ
  rw[Dl]
  cases f E S with
  |none=>rfl
  |some r=>
   rw[An,An,Dl]
   cases g E r.2 with
   |none=>rfl
   |some q=>rfl
noncomputable def Lg(j:Int):xD:=decide (-(2^62)<=j) && decide (j<2^62)
def Fp{j:Int}(h: -1000000<=j)(g:j<=1000000):Lg j=true:=by
 unfold Lg
 rw[vn]
 exact⟨xp (by lia),xp (by lia)⟩
noncomputable def sj(S:Sto):D->vi ((Wp D×Gd)×Sto)
 | .int j=>if Lg j=true then Gc ((OX 0 j.toNat,[]),S)else none
 |_=>none
@[simp] def oU{j:Int}:sj S (.int j)=if Lg j=true then some ((OX 0 j.toNat,[]),S)else none:=rfl
@[simp] def ng:Ts [f] E S=(f E S).bind λr=>sj r.2 r.1:=by
  unfold Ts
  rw[Dl]
  cases f E S with
  |none=>rfl
  |some r=>
   obtain⟨d,S1⟩:=r
   rw[An,fC,qT,An,An]
   cases d<;>rfl
@[simp] def jP:O5 cf cap m s t c f E S=(s E S).bind λr=>(Bk r.1.2 t c f r.1.1 [] (Vn cap m E) r.2).bind λq=>fin cf (.own q.1) q.2:=rfl
@[simp] def nQ:Vn cap m E=cap.map (at? E)++List.replicate m none:=rfl
theorem QG{α:Type}(p:α->xD):∀xs:Wp α,bls (xs.map λx=>.bl (p x))=Gc (xs.map p)
 | []=>rfl
 |x::xs=>by
  have ih:=QG p xs
  unfold bls at ih⊢
  rw[v5,ABe,ih]
  rfl
@[simp] def VP{i:Int}:Mg (.int i::r)=(Mg r).map λns=>i::ns:=by
  unfold Mg
  rw[ABe]
  show(do let r1<-Gc i;let rs<-List.mapM intD r;pure (r1::rs))=_
  cases List.mapM intD r<;>rfl
theorem HI:∀(ns:Wp Int),Mg (ns.map D.int)=Gc ns
 | []=>rfl
 |n::ns=>by rw[v5,VP,HI ns];rfl
@[simp] def m8:ao (.own r)=(Mg r).map λns=>.val (.int ns.sum):=rfl
@[simp] def mn:ao (.val (.lst r))=(Mg r).map λns=>.val (.int ns.sum):=rfl
@[simp] def rz:SD false w (.val .non)=some (.val (.bl (isN w))):=rfl
@[simp] def sD:SD true w (.val .non)=some (.val (.bl (!isN w))):=rfl
@[simp] def uM{i:Int}:HR true false [w,.val (.int i)]=wSl (some i) none w:=rfl
@[simp] def tV{i:Int}:HR false true [w,.val (.int i)]=wSl none (some i) w:=rfl
@[simp] def uI{i j:Int}:HR true true [w,.val (.int i),.val (.int j)]=wSl (some i) (some j) w:=rfl
@[simp] def qr{lo hi:Option Int}:wSl lo hi (.val (.tup r))=some (.val (.tup (MU r lo hi))):=rfl
end
structure B5(A:Wp Nat)(S S':Sto):Prop where
 len:S.length<=S'.length
 keep:∀n,n<S.length->n∉A->S'[n]?=S[n]?
def B5.refl:B5 A S S:=⟨vf _,λ_ _ _=>rfl⟩
def B5.trans(h:B5 A S S')(g:B5 A S' S2):B5 A S S2:=⟨va h.len g.len,λn hn ha=>(g.keep n (vd hn h.len) ha).trans (h.keep n hn ha)⟩
def B5.mono(h:B5 A S S')(s:∀n∈A,n∈B):B5 B S S':=⟨h.len,λn hn hb=>h.keep n hn λz=>hb (s n z)⟩
def B5.get(h:B5 A S S')(e:S[n]?=Gc c)(ha:n∉A):S'[n]?=Gc c:=by
 rw[h.keep n (vt.mp e).1 ha];exact e
def B5.app:B5 A S (S++T):=⟨by simp,λn hn _=>vg hn⟩
def B5.set(h:n∈A):B5 A S (S.set n c):=⟨by simp,λm hm ha=>vj (λz=>ha (by rw[<-z];exact h))⟩
def B5.new(h:B5 A S S')(g:B5 (A++B) S' S2)(hb:∀n∈B,S.length<=n):B5 A S S2:=⟨va h.len g.len,λn hn ha=>(g.keep n (vd hn h.len) (λz=>by
 rcases wF.mp z with z|z
 .exact ha z
 .have:=hb n z;lia)).trans (h.keep n hn ha)⟩
def Af{S:Sto}(h:S[n]?=Gc c):n<S.length:=(vt.mp h).1
section
variable{E:En}{S:Sto}
@[simp high] def ny{op:Op1}:Ny cf (o1 op) [f] E S=(f E S).bind λr=>(op (dr r.2 r.1)).bind λw=>fin cf w r.2:=by
  rw[Yu,Dl];cases f E S<;>rfl
@[simp high] def aa{op:Op2}:Ny cf (o2 op) [f,g] E S=(f E S).bind λr=>(g E r.2).bind λq=>(op (dr q.2 r.1) (dr q.2 q.1)).bind λw=>fin cf w q.2:=by
  rw[Yu,Dl]
  cases f E S with
  |none=>rfl
  |some r=>rw[An,An,Dl];cases g E r.2<;>rfl
def sV:evs [f] E S=(f E S).bind λr=>Gc ([r.1],r.2):=by rw[Dl];cases f E S<;>rfl
def sF:evs [f,g] E S=(f E S).bind λr=>(g E r.2).bind λq=>Gc ([r.1,q.1],q.2):=by
 rw[Dl];cases f E S with
 |none=>rfl
 |some r=>rw[An,An,sV];cases g E r.2<;>rfl
def rh:evs [f,g,h] E S=(f E S).bind λr=>(g E r.2).bind λq=>(h E q.2).bind λu=>Gc ([r.1,q.1,u.1],u.2):=by
 rw[Dl];cases f E S with
 |none=>rfl
 |some r=>rw[An,An,sF];cases g E r.2 with
  |none=>rfl
  |some q=>rw[An,An];cases h E q.2<;>rfl
def tq:evs [f,g,h,k] E S=(f E S).bind λr=>(g E r.2).bind λq=>(h E q.2).bind λu=>(k E u.2).bind λv=>Gc ([r.1,q.1,u.1,v.1],v.2):=by
 rw[Dl];cases f E S with
 |none=>rfl
 |some r=>rw[An,An,rh];cases g E r.2 with
  |none=>rfl
  |some q=>rw[An,An];cases h E q.2 with
   |none=>rfl
   |some u=>rw[An,An];cases k E u.2<;>rfl
@[simp high] def tQ:evs [f] E S=(f E S).bind λr=>some ([r.1],r.2):=sV
@[simp high] def uc:evs [f,g] E S=(f E S).bind λr=>(g E r.2).bind λq=>some ([r.1,q.1],q.2):=sF
@[simp high] def tY:evs [f,g,h] E S=(f E S).bind λr=>(g E r.2).bind λq=>(h E q.2).bind λu=>some ([r.1,q.1,u.1],u.2):=rh
@[simp high] def tJ:evs [f,g,h,k] E S=(f E S).bind λr=>(g E r.2).bind λq=>(h E q.2).bind λu=>(k E u.2).bind λv=>some ([r.1,q.1,u.1,v.1],v.2):=tq
@[simp high] def vS{d:D}:eV 0 (some d::E) S=some (d,S):=rfl
@[simp high] def vU:eV 1 (o0::some d::E) S=some (d,S):=rfl
@[simp high] def vN{o0 o1:Option D}:eV 2 (o0::o1::some d::E) S=some (d,S):=rfl
@[simp high] def vL{o0 o1 o2:Option D}:eV 3 (o0::o1::o2::some d::E) S=some (d,S):=rfl
@[simp high] def vO{o0 o1 o2 o3:Option D}:eV 4 (o0::o1::o2::o3::some d::E) S=some (d,S):=rfl
@[simp high] def vM{o0 o1 o2 o3 o4:Option D}:eV 5 (o0::o1::o2::o3::o4::some d::E) S=some (d,S):=rfl
@[simp high] def vT{o0 o1 o2 o3 o4 o5:Option D}:eV 6 (o0::o1::o2::o3::o4::o5::some d::E) S=some (d,S):=rfl
@[simp high] def vJ{o0 o1 o2 o3 o4 o5 o6:Option D}:eV 7 (o0::o1::o2::o3::o4::o5::o6::some d::E) S=some (d,S):=rfl
@[simp high] def vQ{o0 o1 o2 o3 o4 o5 o6 o7:Option D}:eV 8 (o0::o1::o2::o3::o4::o5::o6::o7::some d::E) S=some (d,S):=rfl
@[simp high] def vW{o0 o1 o2 o3 o4 o5 o6 o7 o8:Option D}:eV 9 (o0::o1::o2::o3::o4::o5::o6::o7::o8::some d::E) S=some (d,S):=rfl
@[simp high] def uw{o0 o1 o2 o3 o4 o5 o6 o7 o8 o9:Option D}:eV 10 (o0::o1::o2::o3::o4::o5::o6::o7::o8::o9::some d::E) S=some (d,S):=rfl
@[simp high] def tP{o0 o1 o2 o3 o4 o5 o6 o7 o8 o9 o10:Option D}:eV 11 (o0::o1::o2::o3::o4::o5::o6::o7::o8::o9::o10::some d::E) S=some (d,S):=rfl
@[simp high] def tu{o0 o1 o2 o3 o4 o5 o6 o7 o8 o9 o10 o11:Option D}:eV 12 (o0::o1::o2::o3::o4::o5::o6::o7::o8::o9::o10::o11::some d::E) S=some (d,S):=rfl
@[simp high] def uq{o0 o1 o2 o3 o4 o5 o6 o7 o8 o9 o10 o11 o12:Option D}:eV 13 (o0::o1::o2::o3::o4::o5::o6::o7::o8::o9::o10::o11::o12::some d::E) S=some (d,S):=rfl
@[simp 20000] def su:Ny cf (o2 op) [f,eC d] E S=(f E S).bind λr=>(op (dr r.2 r.1) (dr r.2 d)).bind λw=>fin cf w r.2:=by
  rw[aa];cases f E S<;>rfl
@[simp high] def oV:AM (A6 i f) y E S=(f E S).bind λr=>y (E.set i (some r.1)) r.2:=by
  rw[LJ,bF];cases f E S<;>rfl
@[simp high] def mW{y:Ex}:AM (EA f) y E S=(f E S).bind λr=>y E r.2:=by
  rw[LJ,XN];cases f E S<;>rfl
end
section
def mulL(h: -18446744073709551616<i)(g:i<18446744073709551616):DO i j=true:=by
 unfold DO
 rw[xq]
 exact .inl (xp (by lia))
def mulR(h: -18446744073709551616<j)(g:j<18446744073709551616):DO i j=true:=by
 unfold DO
 rw[xq,xq]
 exact .inr (.inl (xp (by lia)))
def Cp(h:n<2^k)(hk:k<=8000):n<F2:=vd h (wQ (by decide) hk)
def FL{n:Int}(h0:0<n)(h1:n<1152921504606846976):n.natAbs<F2:=Cp (k:=60) (show n.natAbs<2^60 by lia) (by decide)
variable{S:Sto}
noncomputable def OW(a b:Int):Int:=((ABO a.natAbs b.natAbs:Nat):Int)
theorem NM:GC c b (k+1) E S=(c E S).bind λr=>match r.1 with
 | .bl true=>(b E r.2).bind λp=>match p.1 with
   | .nx=>GC c b k p.2.1 p.2.2
   | .ret w=>Gc (.ret w,p.2)
 | .bl false=>Gc (.nx,E,r.2)
 |_=>none:=rfl
def QE(e1:c E S=Gc (.bl true,S1))(e2:b E S1=Gc (.nx,E2,S2)):GC c b (k+1) E S=GC c b k E2 S2:=by
 rw[NM,e1]
 show(b E S1).bind _=_
 rw[e2]
 rfl
def Ph(e1:c E S=Gc (.bl false,S1)):GC c b (k+1) E S=Gc (.nx,E,S1):=by
 rw[NM,e1]
 rfl
theorem UQ:∀k (x y:Nat),y<k->GC (eOp (o2 wNe) [eV 1,eC (.int 0)]) (WC 0 1 (eV 1) (eOp (o2 SO) [eV 0,eV 1])) k [Gc (.int x),Gc (.int y)] S=Gc (.nx,[Gc (.int (ABO x y:Nat)),Gc (.int 0)],S)
 |0,x,y,h=>absurd h (Nat.not_lt_zero _)
 |k+1,x,y,h=>by
  by_cases hy:y=0
  .subst hy
   rw[Ph (S1:=S) (by simp)]
   simp
  .have hy2:(((y:Nat):Int)==0)=false:=by simpa using hy
   have ih:=UQ k y (x % y) (by have:=AAC x (y2 hy);lia)
   rw[show((x % y:Nat):Int)=(x:Int) % (y:Int) by lia]at ih
   have hy4:0<y:=y2 hy
   rw[QE (S1:=S) (S2:=S) (E2:=[Gc (.int y),Gc (.int ((x:Int) % (y:Int)))]) (by simp[hy2]) (by simp[hy4]),ih]
   rw[ACX x y,Nat.gcd_rec y x,ACX]
def XQ a b:BW [.int a,.int b] S=Gc (.int (OW a b),S):=by
 have:=UQ (S:=S) (b.natAbs+2) a.natAbs b.natAbs (by lia)
 simp[BW,Fc,LO,Od,this,OW]
theorem Nf:∀k (x y:Nat),y<k->GC (eOp (o2 wGt) [eV 1,eC (.int 0)]) (WC 0 1 (eV 1) (eOp (o2 SO) [eV 0,eV 1])) k [Gc (.int x),Gc (.int y)] S=Gc (.nx,[Gc (.int (ABO x y:Nat)),Gc (.int 0)],S)
 |0,x,y,h=>absurd h (Nat.not_lt_zero _)
 |k+1,x,y,h=>by
  by_cases hy:y=0
  .subst hy
   rw[Ph (S1:=S) (by simp)]
   simp
  .have ih:=Nf k y (x % y) (by have:=AAC x (y2 hy);lia)
   rw[show((x % y:Nat):Int)=(x:Int) % (y:Int) by lia]at ih
   have hy4:0<y:=y2 hy
   rw[QE (S1:=S) (S2:=S) (E2:=[Gc (.int y),Gc (.int ((x:Int) % (y:Int)))]) (by simp[hy4]) (by simp[hy4]),ih]
   rw[ACX x y,Nat.gcd_rec y x,ACX]
def Yy a b(ha:0<=a)(hb:0<=b):Gh [.int a,.int b] S=Gc (.int (OW a b),S):=by
 have:=Nf (S:=S) (b.natAbs+2) a.natAbs b.natAbs (by lia)
 have e1:((a.natAbs:Nat):Int)=a:=by lia
 have e2:((b.natAbs:Nat):Int)=b:=by lia
 rw[e1,e2]at this
 simp[Gh,ML,LO,Od,this,OW]
noncomputable def lowP(t b:Int):Int×Int:=(t / OW t b,b / OW t b)
def U4(h:0<b):0<OW t b:=by
 unfold OW
 have:0<ABO t.natAbs b.natAbs:=Nat.gcd_pos_of_pos_right _ (by lia)
 lia
def XC(h:0<b):(OW t b).natAbs<=b.natAbs:=by
 unfold OW
 have:ABO t.natAbs b.natAbs<=b.natAbs:=Nat.gcd_le_right _ (by lia)
 lia
noncomputable def amD(p:Int×Int):D:=.tup [.int p.1,.int p.2]
def Kl(h:0<b)(hb:b.natAbs<F2):DA [.int t,.int b] S=Gc (amD (lowP t b),S):=by
 have h1:=U4 (t:=t) h
 have h2:(OW t b).natAbs<F2:=wO (XC h) hb
 simp[DA,PF,XQ,h1,h2,amD,lowP]
def aq:OW (t.natAbs:Int) b=OW t b:=by
 unfold OW
 rw[wx]
def To(h:0<b)(hb:b.natAbs<F2):Bf [.int t,.int b] S=Gc (amD (lowP t b),S):=by
 have h1:=U4 (t:=t) h
 have h2:(OW t b).natAbs<F2:=wO (XC h) hb
 have h3:=Yy (S:=S) (t.natAbs:Int) b (by lia) (by lia)
 rw[aq]at h3
 simp[Bf,PK,h3,h1,h2,amD,lowP]
noncomputable def aD(q:Rat):D:=.tup [.int q.num,.int q.den]
def Sz(k:Nat)(q:Rat):Prop:=q.num.natAbs<2^k/\q.den<2^k
def C5 q:(q.num:Rat) / (q.den:Rat)=q:=by
 rw[<-Rat.mkRat_eq_div,Rat.mkRat_self]
def IY(q:Rat):(q.den:Rat)≠0:=by
 have:=q.den_nz
 exact_mod_cast this
def N6(t:Int)(n:Nat)(h:0<n):((t:Rat) / (n:Rat)).num=t / (ABO t.natAbs n:Nat)/\((t:Rat) / (n:Rat)).den=n / ABO t.natAbs n:=by
 have e:(t:Rat) / (n:Rat)=mkRat t n:=by rw[Rat.mkRat_eq_div]
 rw[e,Rat.mkRat_def,dif_neg (by lia),Rat.normalize_eq]
 exact⟨rfl,rfl⟩
def Ik(h:0<b):amD (lowP t b)=aD ((t:Rat) / (b:Rat)):=by
 obtain⟨n,rfl⟩:∃n:Nat,b=n:=⟨b.natAbs,by lia⟩
 obtain⟨h1,h2⟩:=N6 t n (by lia)
 unfold amD aD lowP OW
 rw[show(((n:Nat):Int):Rat)=((n:Nat):Rat)from rfl,h1,h2]
 simp
def NW{t b:Int}(h:0<b)(ht:t.natAbs<2^k)(hb:b.natAbs<2^k):Sz k ((t:Rat) / (b:Rat)):=by
 obtain⟨n,rfl⟩:∃n:Nat,b=n:=⟨b.natAbs,by lia⟩
 obtain⟨h1,h2⟩:=N6 t n (by lia)
 unfold Sz
 rw[show(((n:Nat):Int):Rat)=((n:Nat):Rat)from rfl,h1,h2]
 exact⟨wO (ABl _ _) ht,wO (Nat.div_le_self _ _) (by simpa using hb)⟩
def Bg(ha:a<2^j)(hb:b<2^k):a*b<2^(j+k):=by
 rw[zV]
 exact Nat.mul_lt_mul'' ha hb
def Ey(hi:i.natAbs<2^k)(hj:j.natAbs<2^m)(h:k<=60000)(g:m<=60000):DO i j=true:=by
 unfold DO
 rw[xq,xq,vn]
 exact .inr (.inr ⟨xp (vd hi (wQ (by decide) h)),xp (vd hj (wQ (by decide) g))⟩)
def Sz.mono(h:Sz k q)(g:k<=m):Sz m q:=by
 have:=wQ (n:=2) (by decide) g
 exact⟨by have:=h.1;lia,by have:=h.2;lia⟩
def den_pos(q:Rat):0<(q.den:Int):=by have:=q.den_pos;lia
def hJ{x:Int}(h:x.natAbs<2^n)(g:n<=m):x.natAbs<2^m:=vd h (wQ (by decide) g)
def D8(hp:Sz j p)(hq:Sz k q):(p.num*q.den+q.num*p.den).natAbs<2^(j+k+1)/\((p.den:Int)*q.den).natAbs<2^(j+k)/\(p.num*q.den-q.num*p.den).natAbs<2^(j+k+1):=by
 have a1:=Bg hp.1 hq.2
 have a2:=Bg hq.1 hp.2
 have a3:=Bg hp.2 hq.2
 rw[ACP k j]at a2
 have e:2^(j+k+1)=2^(j+k)+2^(j+k):=by rw[yK];lia
 refine⟨?_,?_,?_⟩
 .refine wO (Int.natAbs_add_le _ _) ?_
  rw[zS,zS,wx,wx,e]
  lia
 .rw[zS,wx,wx];exact a3
 .refine wO (Int.natAbs_sub_le _ _) ?_
  rw[zS,zS,wx,wx,e]
  lia
def P1:(((p.num*q.den+q.num*p.den:Int):Rat) / (((p.den:Int)*q.den:Int):Rat))=p+q:=by
 have h1:=C5 p;have h2:=C5 q
 have d1:=IY p;have d2:=IY q
 push_cast
 grind
def Ux:(((p.num*q.den-q.num*p.den:Int):Rat) / (((p.den:Int)*q.den:Int):Rat))=p-q:=by
 have h1:=C5 p;have h2:=C5 q
 have d1:=IY p;have d2:=IY q
 push_cast
 grind
def Nq:(((p.num*q.num:Int):Rat) / (((p.den:Int)*q.den:Int):Rat))=p*q:=by
 have h1:=C5 p;have h2:=C5 q
 have d1:=IY p;have d2:=IY q
 push_cast
 grind
def lQ(hp:Sz j p)(hq:Sz k q):Sz (j+k+1) (p+q):=by
 rw[<-P1]
 have:=D8 hp hq
 exact NW (xg (den_pos _) (den_pos _)) this.1 (hJ this.2.1 (by lia))
def k9(hp:Sz j p)(hq:Sz k q):Sz (j+k+1) (p-q):=by
 rw[<-Ux]
 have:=D8 hp hq
 exact NW (xg (den_pos _) (den_pos _)) this.2.2 (hJ this.2.1 (by lia))
def O4(hp:Sz j p)(hq:Sz k q):Sz (j+k) (p*q):=by
 rw[<-Nq]
 have:=D8 hp hq
 exact NW (xg (den_pos _) (den_pos _)) (by rw[zS];exact Bg hp.1 hq.1) this.2.1
def Ou(hp:Sz j p)(hq:Sz k q)(hj:j+k<=7990):DO p.num q.den=true/\DO q.num p.den=true/\DO p.den q.den=true/\DO p.num q.num=true:=by
 refine⟨Ey hp.1 (by simpa using hq.2) (by lia) (by lia),Ey hq.1 (by simpa using hp.2) (by lia) (by lia),Ey (by simpa using hp.2) (by simpa using hq.2) (by lia) (by lia),Ey hp.1 hq.1 (by lia) (by lia)⟩
def eP(hp:Sz j p)(hq:Sz k q)(hj:j+k<=7990):Gi [aD p,aD q] S=Gc ((aD (p+q)),S):=by
 obtain⟨m1,m2,m3,m4⟩:=Ou hp hq (by lia)
 have b:=D8 hp hq
 have l:=Kl (S:=S) (t:=p.num*q.den+q.num*p.den) (b:=p.den*q.den) (xg (den_pos _) (den_pos _)) (Cp b.2.1 (by lia))
 rw[Ik (xg (den_pos _) (den_pos _)),P1]at l
 simp only[aD]at l⊢
 simp[Gi,UJ,m1,m2,m3,l]
def jm(hp:Sz j p)(hq:Sz k q)(hj:j+k<=7990):Ea [aD p,aD q] S=Gc ((aD (p-q)),S):=by
 obtain⟨m1,m2,m3,m4⟩:=Ou hp hq (by lia)
 have b:=D8 hp hq
 have l:=Kl (S:=S) (t:=p.num*q.den-q.num*p.den) (b:=p.den*q.den) (xg (den_pos _) (den_pos _)) (Cp b.2.1 (by lia))
 rw[Ik (xg (den_pos _) (den_pos _)),Ux]at l
 simp only[aD]at l⊢
 simp[Ea,Uk,m1,m2,m3,l]
def Yb(hp:Sz j p)(hq:Sz k q)(hj:j+k<=7990):Cc [aD p,aD q] S=Gc ((aD (p*q)),S):=by
 obtain⟨m1,m2,m3,m4⟩:=Ou hp hq (by lia)
 have b:=D8 hp hq
 have l:=Kl (S:=S) (t:=p.num*q.num) (b:=p.den*q.den) (xg (den_pos _) (den_pos _)) (Cp b.2.1 (by lia))
 rw[Ik (xg (den_pos _) (den_pos _)),Nq]at l
 simp only[aD]at l⊢
 simp[Cc,Qx,m3,m4,l]
def Ug(hp:Sz j p)(hq:Sz k q)(hj:j+k<=7990):CI [aD p,aD q] S=Gc ((aD (p+q)),S):=by
 obtain⟨m1,m2,m3,m4⟩:=Ou hp hq (by lia)
 have b:=D8 hp hq
 have l:=To (S:=S) (t:=p.num*q.den+q.num*p.den) (b:=p.den*q.den) (xg (den_pos _) (den_pos _)) (Cp b.2.1 (by lia))
 rw[Ik (xg (den_pos _) (den_pos _)),P1]at l
 simp only[aD]at l⊢
 simp[CI,PU,m1,m2,m3,l]
def LW(hp:Sz j p)(hq:Sz k q)(hj:j+k<=7990):Aq [aD p,aD q] S=Gc ((aD (p*q)),S):=by
 obtain⟨m1,m2,m3,m4⟩:=Ou hp hq (by lia)
 have b:=D8 hp hq
 have l:=To (S:=S) (t:=p.num*q.num) (b:=p.den*q.den) (xg (den_pos _) (den_pos _)) (Cp b.2.1 (by lia))
 rw[Ik (xg (den_pos _) (den_pos _)),Nq]at l
 simp only[aD]at l⊢
 simp[Aq,Nb,m3,m4,l]
def kA:aD (-q)=.tup [.int (0-q.num),.int q.den]:=by
 unfold aD
 rw[show(-q).num=0-q.num by simp,show(-q).den=q.den by simp]
def kX(hq:Sz k q):Sz k (-q):=by
 unfold Sz
 rw[show(-q).num= -q.num by simp,show(-q).den=q.den by simp,Int.natAbs_neg]
 exact hq
def cV(hp:Sz j p)(hq:Sz k q)(hj:j+k<=7990):D1 [aD p,aD q] S=Gc ((aD (p-q)),S):=by
 have l:=Ug (S:=S) hp (kX hq) hj
 rw[kA]at l
 rw[Rat.sub_eq_add_neg]
 simp only[aD]at l⊢
 simp at l
 simp[D1,PL,l]
def Yp(h:0<b)(hb:b.natAbs<F2):DA [.int t,.int b] S=Gc ((aD (t / b)),S):=by
 rw[Kl h hb,Ik h]
def aQ(h:0<b)(hb:b.natAbs<F2):Bf [.int t,.int b] S=Gc ((aD (t / b)),S):=by
 rw[To h hb,Ik h]
def Jd{a b:Int}(ha:a.natAbs<2^k)(hb:b.natAbs<2^k):(a+b).natAbs<2^(k+1):=by
 have e:2^(k+1)=2^k+2^k:=by rw[yK];lia
 have:=Int.natAbs_add_le a b
 lia
def LM{a b:Int}(ha:a.natAbs<2^j)(hb:b.natAbs<2^k):(a*b).natAbs<2^(j+k):=by
 rw[zS];exact Bg ha hb
def Wm(h:0<w+m):((p.num*q.den*w+q.num*p.den*m:Int):Rat) / (((p.den:Int)*q.den*(w+m):Int):Rat)=(p*w+q*m) / (w+m):=by
 have h1:=C5 p;have h2:=C5 q
 have d1:=IY p;have d2:=IY q
 have d3:((w:Rat)+(m:Rat))≠0:=by
  intro e
  have:((w+m:Int):Rat)=0:=by push_cast;exact e
  have:=yj.mp this
  lia
 push_cast
 grind
section
variable{w m:Int}
def ZV(hp:Sz j p)(hq:Sz k q)(hw:w.natAbs<2^n)(hm:m.natAbs<2^n):(p.num*q.den*w+q.num*p.den*m).natAbs<2^(j+k+n+1)/\((p.den:Int)*q.den*(w+m)).natAbs<2^(j+k+(n+1)):=by
 have d1:((p.den:Int)).natAbs<2^j:=by simpa using hp.2
 have d2:((q.den:Int)).natAbs<2^k:=by simpa using hq.2
 refine⟨Jd (LM (LM hp.1 d2) hw) ?_,LM (LM d1 d2) (Jd hw hm)⟩
 have:=LM (LM hq.1 d1) hm
 rwa [ACP k j]at this
def kD(hp:Sz j p)(hq:Sz k q)(hw:w.natAbs<2^n)(hm:m.natAbs<2^n)(h:0<w+m)(hj:j+k+n+1<=7990):Iv [aD p,.int w,aD q,.int m] S=Gc ((aD ((p*w+q*m) / (w+m))),S):=by
 obtain⟨m1,m2,m3,m4⟩:=Ou hp hq (by lia)
 have d1:((p.den:Int)).natAbs<2^j:=by simpa using hp.2
 have d2:((q.den:Int)).natAbs<2^k:=by simpa using hq.2
 have b:=ZV hp hq hw hm
 have m5:DO (p.num*q.den) w=true:=Ey (LM hp.1 d2) hw (by lia) (by lia)
 have m6:DO (q.num*p.den) m=true:=Ey (LM hq.1 d1) hm (by lia) (by lia)
 have m7:DO ((p.den:Int)*q.den) (w+m)=true:=Ey (LM d1 d2) (Jd hw hm) (by lia) (by lia)
 have l:=Yp (S:=S) (t:=p.num*q.den*w+q.num*p.den*m) (b:=p.den*q.den*(w+m)) (xg (xg (den_pos _) (den_pos _)) h) (Cp b.2 (by lia))
 rw[Wm h]at l
 simp only[aD]at l⊢
 simp[Iv,SF,m1,m2,m3,m5,m6,m7,l]
end
end
section
variable{S:Sto}{p:Nat}
def dH(h:p<S.length):dr (S.set p (.lst r)) (.ref p)=.own r:=A1 (vx h)
def Pen(ds:Wp D):Prop:=∃a b c d:Int,ds=[.int a,.int b,.int c,.int d]/\0<=d/\d<1000000007
def EF(p:Nat)(S:Sto):Prop:=∃ds,S[p]?=Gc (.lst ds)/\Pen ds
structure Pn(p:Nat)(S S':Sto):Prop where
 same:B5 [p] S S'
 pen:EF p S'
def Pn.trans(h:Pn p S S')(g:Pn p S' S2):Pn p S S2:=⟨h.same.trans g.same,g.pen⟩
def Pn.get(h:Pn p S S')(e:S[n]?=Gc c)(ha:n≠p):S'[n]?=Gc c:=h.same.get e (by simpa using ha)
def Pn.refl(h:EF p S):Pn p S S:=⟨.refl,h⟩
def EF.lt(h:EF p S):p<S.length:=by obtain⟨ds,e,_⟩:=h;exact Af e
def EF.app(h:EF p S) T:EF p (S++T):=by obtain⟨ds,e,hp⟩:=h;exact⟨ds,by rw[vg (Af e)];exact e,hp⟩
inductive Drw(p:Nat)(n:Int)(S:Sto):Prop
 |mk (r:Int) (S':Sto) (e:AH [.ref p,.int n] S=Gc (.int r,S')) (a:0<=r) (b:r<n) (g:Pn p S S')
def Ap(h:EF p S)(h0:0<n)(h1:n<1152921504606846976):Drw p n S:=by
 obtain⟨ds,hp,a,b,c,d,rfl,hd0,hd1⟩:=h
 have hl:=Af hp
 have hs:=FL h0 h1
 have hr:=A1 hp
 have hc:=AQ hp
 by_cases hb:b=1/\0<a
 .obtain⟨rfl,ha⟩:=hb
  refine⟨a % n,S.set p (.lst [.int (a / n),.int 1,.int c,.int d]),?_,ym _ (by lia),y3 _ h0,.set (by simp),_,vx hl,_,_,_,_,rfl,hd0,hd1⟩
  simp[AH,Je,ha,h0,hs,hr,hc]
 .have m1:DO (d+17) (69621+2*(c+1))=true:=mulL (by lia) (by lia)
  have m2:DO 2 (c+1)=true:=mulL (by decide) (by decide)
  generalize ht:(d+17)*(69621+2*(c+1)) % 2147483647=t at*
  have t0:0<=t:=by rw[<-ht];exact ym _ (by decide)
  have t1:t<2147483647:=by rw[<-ht];exact y3 _ (by decide)
  have m3:DO t t=true:=mulL (by lia) (by lia)
  have m4:DO 40503 (c+1)=true:=mulL (by decide) (by decide)
  generalize hu:(t*t+40503*(c+1)+5) % 2147483629=u at*
  have u0:0<=u:=by rw[<-hu];exact ym _ (by decide)
  have u1:u<2147483629:=by rw[<-hu];exact y3 _ (by decide)
  have m5:DO u 48271=true:=mulL (by lia) (by lia)
  have d32:(32:Int).natAbs<F2:=FL (by decide) (by decide)
  have d32':(32:Nat)<F2:=d32
  refine⟨u*48271 % 2147483647 / 32 % n,S.set p (.lst [.int a,.int b,.int (c+1),.int d]),?_,ym _ (by lia),y3 _ h0,.set (by simp),_,vx hl,_,_,_,_,rfl,hd0,hd1⟩
  by_cases hb1:b=1
  .subst hb1
   have ha:¬0<a:=λz=>hb ⟨rfl,z⟩
   simp[AH,Je,ha,h0,hs,hr,hc,dH,hl,m1,m2,m3,m4,m5,ht,hu,d32']
  .have hb2:(b==1)=false:=by simpa using hb1
   simp[AH,Je,hb2,h0,hs,hr,hc,dH,hl,m1,m2,m3,m4,m5,ht,hu,d32']
def ja c:∃p S',Ij [.int c] S=Gc (.ref p,S')/\EF p S'/\B5 [] S S'/\S.length<=p:=by
 refine⟨S.length,S++[.lst [.int c,.int (if(10:Int)^18<=c then 1 else 0),.int 0,.int (c % 1000000007)]],?_,⟨_,wK,_,_,_,_,rfl,ym _ (by decide),y3 _ (by decide)⟩,.app,vf _⟩
 simp[Ij,Qy]
def EG(h:gOk gs S):Bk gs t c f [] acc E S=Gc (acc,S):=by
 unfold Bk
 rw[wU h]
def Oz (h:gOk gs S)(hz:acc.length<sizeLine):Bk gs t c f (d::ds) acc E S=(t d E S).bind λE1=>(c E1 S).bind λr=>match r.1 with
      | .bl true => (f E1 r.2).bind fun p => Bk gs t c f ds (acc ++ [p.1]) E1 p.2
      | .bl false => Bk gs t c f ds acc E1 r.2
      | _=>none:=by
  rw [Bk, wU h, wU hz]
  all_goals rfl
def Hy(h:gOk gs S)(hz:acc.length<sizeLine)(e1:t d E S=Gc E1)(e2:c E1 S=Gc (.bl true,S1)):Bk gs t c f (d::ds) acc E S=(f E1 S1).bind λp=>Bk gs t c f ds (acc++[p.1]) E1 p.2:=by
 rw[Oz h hz,e1]
 show(c E1 S).bind _=_
 rw[e2]
 rfl
def Kb(h:gOk gs S)(hz:acc.length<sizeLine)(e1:t d E S=Gc E1)(e2:c E1 S=Gc (.bl false,S1)):Bk gs t c f (d::ds) acc E S=Bk gs t c f ds acc E1 S1:=by
 rw[Oz h hz,e1]
 show(c E1 S).bind _=_
 rw[e2]
 rfl
theorem Pu{gs:Gd}{t:Tf}{f:Ev}{I:Sto->Prop}(hg:∀S,I S->gOk gs S):∀{ds acc} {os} {S},os.length=m->I S->acc.length+ds.length<=sizeLine->(∀d∈ds,∀os S,os.length=m->I S->∃us y S',us.length=m/\t d (C++os) S=Gc (C++us)/\f (C++us) S=Gc (y,S')/\I S'/\R d y)->∃ys S',Bk gs t Ai f ds acc (C++os) S=Gc (acc++ys,S')/\I S'/\ys.length=ds.length/\Paired R ds ys
 | [],acc,os,S,ho,hI,hz,h=>⟨[],S,by rw[EG (hg S hI)];simp,hI,rfl,.nil⟩
 |d::ds,acc,os,S,ho,hI,hz,h=>by
  obtain⟨us,y,S1,hu,e1,e2,I1,r1⟩:=h d vp os S ho hI
  obtain⟨ys,S2,e3,I2,l2,r2⟩:=Pu hg (ds:=ds) (acc:=acc++[y]) (os:=us) (S:=S1) hu I1 (by simp at hz ⊢; lia) λd' hd=>h d' (vh _ hd)
  refine⟨y::ys,S2,?_,I2,by simp[l2],.cons r1 r2⟩
  rw[Hy (hg S hI) (by simp at hz;lia) e1 GI,e2,An,e3]
  simp
theorem comp_map(hg:gOk gs S):∀{ds acc} {os},os.length=m->acc.length+ds.length<=sizeLine->(∀d∈ds,∀os,os.length=m->∃us,us.length=m/\t d (C++os) S=Gc (C++us)/\f (C++us) S=Gc (g d,S))->Bk gs t Ai f ds acc (C++os) S=Gc (acc++ds.map g,S)
 | [],acc,os,ho,hz,h=>by rw[EG hg];simp
 |d::ds,acc,os,ho,hz,h=>by
  obtain⟨us,hu,e1,e2⟩:=h d vp os ho
  rw[Hy hg (by simp at hz;lia) e1 GI,e2,An]
  rw[comp_map hg hu (by simp at hz ⊢; lia) λd' hd=>h d' (vh _ hd)]
  simp
theorem Hx{I:Wp D->En->Sto->Prop}(hg:∀ds E S,I ds E S->gOk gs S):∀{ds} {E} {S},I ds E S->(∀d ds E S,I (d::ds) E S->∃E1 E2 S2,t d E S=Gc E1/\b E1 S=Gc (.nx,E2,S2)/\I ds E2 S2)->∃E' S',Mu gs t b ds E S=Gc (.nx,E',S')/\I [] E' S'
 | [],E,S,hI,h=>⟨E,S,H0 (hg _ _ _ hI),hI⟩
 |d::ds,E,S,hI,h=>by
  obtain⟨E1,E2,S2,e1,e2,I2⟩:=h d ds E S hI
  obtain⟨E',S',e3,I3⟩:=Hx hg I2 h
  exact⟨E',S',by rw[Es (hg _ _ _ hI),e1];simp[e2,e3],I3⟩
def pick{xs:Wp D}{r:Int}(h0:0<=r)(h1:r<xs.length):∃x,atI xs r=Gc x/\x∈xs:=⟨_,cQ h0 h1,AAG _⟩
theorem Lw{P:β->Prop}:∀{xs:Wp α} {ys},Paired (λ_ y=>P y) xs ys->∀y∈ys,P y
 |_,_,.nil,y,h=>by cases h
 |_,_,.cons r t,y,h=>by
  rcases ve.mp h with h|h
  .rw[h];exact r
  .exact Lw t y h
def Jj:(OX lo n).length=n:=by simp[OX]
end
def Ok(G B:Nat)(r:Rat):Prop:=∃z:Nat,r*(G:Rat)=(z:Rat)/\z<=B
def O6{n:Nat}(h:0<n):(n:Rat)≠0:=by
 have:n≠0:=by lia
 exact_mod_cast this
def Ok.sz(h:Ok G B r)(hG:0<G)(g:G<2^k)(b:B<2^k):Sz k r:=by
 obtain⟨z,e,hz⟩:=h
 have e2:r=((z:Int):Rat) / ((G:Int):Rat):=by
  have:=O6 hG
  rw[show(((z:Nat):Int):Rat)=(z:Rat)from rfl,show(((G:Nat):Int):Rat)=(G:Rat)from rfl,<-e]
  grind
 rw[e2]
 exact NW (by lia) (by simpa using wO hz b) (by simpa using g)
def Ok.up(h:Ok G B r)(hB:B*t<=B'):Ok (G*t) B' r:=by
 obtain⟨z,e,hz⟩:=h
 refine⟨z*t,?_,va (wC t hz) hB⟩
 push_cast
 rw[<-e]
 grind
def Ok.zero:Ok G B 0:=⟨0,by simp,yB _⟩
def Ok.one(h:G<=B):Ok G B 1:=⟨G,by simp,h⟩
def Ok.mix{G B a b t:Nat}(hr:Ok G B r)(ho:Ok G B o)(ht:a+b=t)(h0:0<t):Ok (G*t) (B*t) ((r*(a:Rat)+o*(b:Rat)) / (t:Rat)):=by
 obtain⟨z,e1,h1⟩:=hr
 obtain⟨y,e2,h2⟩:=ho
 refine⟨z*a+y*b,?_,?_⟩
 .have:=O6 h0
  push_cast
  rw[<-e1,<-e2]
  grind
 .rw[<-ht,Nat.mul_add]
  exact Nat.add_le_add (wC a h1) (wC b h2)
structure Tr where
 p:Nat
 k:Nat
 b:Nat
 ho:Wp Rat
 h:Int
 l:Int
structure Ld where
 k:Nat
 n:Int
 ow:Wp Rat
structure Stt where
 AA:Wp Ld
 hold:Wp Rat
 nums:Wp Int
inductive AN where
 |DX (p k:Nat) (n:Int)
 |Ig (a b:Nat)
 |swap (l:Nat) (g:Int) (k:Nat) (n:Int)
 |Cm (t:Int) (l:Nat) (g:Int) (k:Nat) (n:Int)
 |Dq (l:Nat) (n:Int)
 |thr (l:Nat) (n:Int) (ws:Wp Int)
 |Et (p q:Nat) (s:Rat)
noncomputable def shD(rs:Wp Rat):D:=.tup (rs.map aD)
noncomputable def Tr.d(t:Tr):D:=.tup [.int t.p,.int t.k,.int t.b,shD t.ho,.int t.h,.int t.l]
noncomputable def Ld.d(l:Ld):D:=.tup [.int l.k,.int l.n,shD l.ow]
noncomputable def AN.d:AN->D
 | .DX p k n=>.tup [.str "bring",.int p,.int k,.int n]
 | .Ig a b=>.tup [.str "pool",.int a,.int b]
 | .swap l g k n=>.tup [.str "swap",.int l,.int g,.int k,.int n]
 | .Cm t l g k n=>.tup [.str "trade",.int t,.int l,.int g,.int k,.int n]
 | .Dq l n=>.tup [.str "spoil",.int l,.int n]
 | .thr l n ws=>.tup [.str "throw",.int l,.int n,.tup (ws.map .int)]
 | .Et p q s=>.tup [.str "sell",.int p,.int q,aD s]
noncomputable def HK(x:Rat)(os ss:Wp Rat):Wp Rat:=AAk (λs o=>s*(1-x)+o*x) ss os
noncomputable def FU(p q:Nat)(s:Rat)(ss:Wp Rat):Wp Rat:=(ss.set p (ss.getD p 0-ss.getD p 0*s)).set q (ss.getD q 0+ss.getD p 0*s)
noncomputable def B8(n m:Int)(ss os:Wp Rat):Wp Rat:=AAk (λs o=>(s*n+o*m) / (n+m:Int)) ss os
noncomputable def C0(t:Tr)(ls:Wp Ld)(ws:Wp Int):Int:=(ls.map λl=>l.n*ws.getD l.k 0).sum+t.b*ws.getD t.k 0
noncomputable def Ka(t:Tr)(ls:Wp Ld)(l:Nat)(n:Int)(ws:Wp Int):Rat:=((n*ws.getD ((ls[l]?.map (·.k)).getD 0) 0:Int):Rat) / (C0 t ls ws:Rat)
noncomputable def AK(ls:Wp Ld)(l:Nat):Ld:=ls.getD l ⟨0,0,[]⟩
noncomputable def less(ls:Wp Ld)(l:Nat)(n:Int):Wp Ld:=ls.set l {AK ls l with n:=(AK ls l).n-n}
noncomputable def Sw(p i:Nat):Wp Rat:=(xI p).map λj=>if j=i then 1 else 0
noncomputable def step(t:Tr)(s:Stt):AN->Stt
 | .DX p k n=>{s with AA:=s.AA++[⟨k,n,Sw t.p p⟩]}
 | .Ig a b=>{s with AA:=less (less s.AA a (AK s.AA a).n) b (AK s.AA b).n++[⟨(AK s.AA a).k,(AK s.AA a).n+(AK s.AA b).n,B8 (AK s.AA a).n (AK s.AA b).n (AK s.AA a).ow (AK s.AA b).ow⟩]}
 | .swap l g k n=>{s with AA:=less s.AA l g++[⟨k,n,(AK s.AA l).ow⟩]}
 | .Cm u l g k n=>{s with AA:=less s.AA l g++[⟨k,n,(AK s.AA l).ow⟩],nums:=s.nums++[u]}
 | .Dq l n=>{s with AA:=less s.AA l n}
 | .thr l n ws=>{s with AA:=(less s.AA l n).map λx=>{x with ow:=HK (Ka t s.AA l n ws) (AK s.AA l).ow x.ow},hold:=HK (Ka t s.AA l n ws) (AK s.AA l).ow s.hold}
 | .Et p q x=>{s with AA:=s.AA.map λy=>{y with ow:=FU p q x y.ow},hold:=FU p q x s.hold}
def Hb(t:Tr):Prop:=1<=t.p/\t.p<=4/\1<=t.k/\t.k<=5/\1<=t.b/\t.b<=20
def Can(t:Tr)(s:Stt):AN->Prop
 | .DX p k n=>p<t.p/\k<t.k/\1<=n/\n<2^131
 | .Ig a b=>a≠b/\a<s.AA.length/\b<s.AA.length/\0<(AK s.AA a).n/\0<(AK s.AA b).n/\(AK s.AA a).k=(AK s.AA b).k
 | .swap l g k n=>l<s.AA.length/\1<=g/\g<=(AK s.AA l).n/\k<t.k/\k≠(AK s.AA l).k/\1<=n/\n<2^131
 | .Cm u l g k n=>l<s.AA.length/\1<=g/\g<=(AK s.AA l).n/\k<t.k/\k≠(AK s.AA l).k/\1<=n/\n<2^131/\u∉s.nums/\0<=u/\u<=9
 | .Dq l n=>l<s.AA.length/\1<=n/\n<=(AK s.AA l).n
 | .thr l n ws=>l<s.AA.length/\1<=n/\n<=(AK s.AA l).n/\ws.length=t.k+1/\∀w∈ws,1<=w/\w<=99
 | .Et p q x=>p≠q/\p<t.p/\q<t.p/\0<x.num/\x.num<=x.den/\x.den<=12
structure Ft(t:Tr)(k:Nat)(s:Stt):Prop where
 len:s.AA.length<=4+k
 kind:∀l∈s.AA,l.k<t.k
 pcs:∀l∈s.AA,0<=l.n/\l.n<2^(131+k)
 own:∀l∈s.AA,l.ow.length=t.p
 hold:s.hold.length=t.p
 nm:s.nums.length<=k
 gb:∃G B:Nat,0<G/\G<=B/\B<2^(30+170*k)/\(∀l∈s.AA,∀r∈l.ow,Ok G B r)/\∀r∈s.hold,Ok G B r
def Ft.sz(h:Ft t k s):(∀l∈s.AA,∀r∈l.ow,Sz (30+170*k) r)/\∀r∈s.hold,Sz (30+170*k) r:=by
 obtain⟨G,B,g0,gb,b,h1,h2⟩:=h.gb
 exact⟨λl hl r hr=>(h1 l hl r hr).sz g0 (wO gb b) b,λr hr=>(h2 r hr).sz g0 (wO gb b) b⟩
def AS(h:l<ls.length):AK ls l∈ls:=by
 unfold AK
 rw[v8,vk h]
 exact AAG h
def Fe(h:l<ls.length):ls[l]?=Gc (AK ls l):=by
 unfold AK
 rw[v8,vk h]
 rfl
def Kr(h:x∈less ls l n)(hl:l<ls.length):x∈ls\/x={AK ls l with n:=(AK ls l).n-n}:=by
 unfold less at h
 rcases zA h with h|h
 .exact .inl h
 .exact .inr h
def Bp:(less ls l n).length=ls.length:=by simp[less]
theorem Sn{P:Int->Prop}:∀{ys},(∀y∈ys,∃i,y=.int i/\P i)->∃ns:Wp Int,ys=ns.map D.int/\∀n∈ns,P n
 | [],_=>⟨[],rfl,λn h=>by cases h⟩
 |y::ys,h=>by
  obtain⟨i,rfl,hi⟩:=h y vp
  obtain⟨ns,rfl,hn⟩:=Sn (P:=P) (ys:=ys) λz hz=>h z (vh _ hz)
  exact⟨i::ns,rfl,λn hn'=>by
   rcases ve.mp hn' with e|e
   .rw[e];exact hi
   .exact hn n e⟩
def Qn{ns:Wp Int}(h:∀n∈ns,0<=n/\n<=8):0<=ns.sum/\ns.sum<=8*ns.length/\∀n∈ns,n<=ns.sum:=by
 induction ns with
 |nil=>simp
 |cons a l ih=>
  have h1:=h a vp
  obtain⟨i1,i2,i3⟩:=ih λn hn=>h n (vh _ hn)
  rw[wX,xT]
  refine⟨by lia,by push_cast;lia,λn hn=>?_⟩
  rcases ve.mp hn with e|e
  .lia
  .have:=i3 n e;lia
def VX (h:EF p S)(hn:n ≤ 20):∃(ns:Wp Int)(S':Sto),Bk [] (tNm 1) Ai (eOp (o2 wIx) [(Km [(eC (.int 0)),(eC (.int 1)),(AB AH [(eV 0),(eC (.int 4))]),(AB AH [(eV 0),(eC (.int 9))])]),(AB AH [(eV 0),(eC (.int 4))])]) (OX 0 n) [] [Gc (.ref p),none] S=Gc (ns.map D.int,S')/\Pn p S S'/\ns.length=n/\∀i ∈ ns,0 ≤ i/\i ≤ 8:=by
  obtain⟨ys,S',e,hI,l,r⟩:=Pu (gs:=[]) (t:=tNm 1) (f:=eOp (o2 wIx) [(Km [(eC (.int 0)),(eC (.int 1)),(AB AH [(eV 0),(eC (.int 4))]),(AB AH [(eV 0),(eC (.int 9))])]),(AB AH [(eV 0),(eC (.int 4))])]) (C:=[Gc (.ref p)]) (m:=1) (I:=Pn p S) (R:=λ_ y=>∃i:Int,y = .int i/\0 ≤ i/\i ≤ 8)
    (λ_ _=>AO) (ds:=OX 0 n) (acc:=[]) (os:=[none]) rfl (Pn.refl h) (by rw[Jj];simp;exact AI (by lia)) λd _ os S0 ho I0=>by
      obtain⟨o,rfl⟩:=J3 ho
      obtain⟨r1,S1,e1,a1,b1,p1⟩:=Ap I0.pen (n:=4) (by decide) (by decide)
      obtain⟨r2,S2,e2,a2,b2,p2⟩:=Ap p1.pen (n:=9) (by decide) (by decide)
      obtain⟨r3,S3,e3,a3,b3,p3⟩:=Ap p2.pen (n:=4) (by decide) (by decide)
      obtain⟨x,ex,hx⟩:=pick (xs:=[.int 0,.int 1,.int r1,.int r2]) (r:=r3) a3 (by simpa using b3)
      refine ⟨[Gc d], x, S3, rfl, by simp, by simp [e1, e2, e3, ex], ((I0.trans p1).trans p2).trans p3, ?_⟩
      simp only [ve, vo, wW] at hx
      rcases hx with rfl | rfl | rfl | rfl
      · exact ⟨0, rfl, by decide, by decide⟩
      · exact ⟨1, rfl, by decide, by decide⟩
      · exact ⟨r1, rfl, by lia, by lia⟩
      · exact ⟨r2, rfl, by lia, by lia⟩
  obtain⟨ns,rfl,hns⟩:=Sn (Lw r)
  exact ⟨ns, S', by simpa using e, hI, by simpa [Jj] using l, hns⟩
noncomputable def J0(ns:Wp Int):Wp Rat:=ns.map λ(n:Int)=>(n:Rat) / (ns.sum:Rat)
def Nd(h:∀n∈ns,0<=n/\n<=8)(hs:0<ns.sum):∀r∈J0 ns,Ok ns.sum.toNat ns.sum.toNat r:=by
 intro r hr
 obtain⟨n,hn,rfl⟩:=vq.mp hr
 have h1:=h n hn
 have h2:=(Qn h).2.2 n hn
 refine⟨n.toNat,?_,by lia⟩
 have e1:((ns.sum.toNat:Nat):Rat)=(ns.sum:Rat):=by
  have:((ns.sum.toNat:Nat):Int)=ns.sum:=by lia
  exact congrArg (λz:Int=>(z:Rat)) this
 have e2:((n.toNat:Nat):Rat)=(n:Rat):=by
  have:((n.toNat:Nat):Int)=n:=by lia
  exact congrArg (λz:Int=>(z:Rat)) this
 rw[e1,e2]
 have:(ns.sum:Rat)≠0:=by
  intro z
  have:=yj.mp z
  lia
 grind
theorem Xw:∀{ns:Wp Int},(ns.map λ(n:Int)=>(n:Rat) / s).sum=(ns.sum:Rat) / s
 | []=>by simp;grind
 |n::ns=>by
  rw[v5,wX,wX,Xw (ns:=ns)]
  push_cast
  grind
def Qv(hs:0<ns.sum):(J0 ns).sum=1:=by
 unfold J0
 rw[Xw]
 have:(ns.sum:Rat)≠0:=by
  intro z
  have:=yj.mp z
  lia
 grind
def VA(hq:S[q]?=Gc (.lst (ns.map D.int)))(hl:ns.length<=20)(hn:∀n∈ns,0<=n/\n<=8)(hs:0<ns.sum):Bk [(q,ns.map D.int)] (tNm 1) Ai (AB Bf [eV 1,eOp (o1 ao) [eV 0]]) (ns.map D.int) [] [Gc (.ref q),none] S=Gc ((J0 ns).map aD,S):=by
 obtain⟨s1,s2,s3⟩:=Qn hn
 have:=comp_map (gs:=[(q,ns.map D.int)]) (t:=tNm 1) (f:=AB Bf [eV 1,eOp (o1 ao) [eV 0]]) (C:=[Gc (.ref q)]) (m:=1) (g:=λd=>match d with| .int n=>aD ((n:Rat) / (ns.sum:Rat))|d=>d) (S:=S) (λg hg=>by rw[wN.mp hg];exact AQ hq) (ds:=ns.map D.int) (acc:=[]) (os:=[none]) rfl (by simp;exact AI (by lia)) λd hd os ho=>by
  obtain⟨o,rfl⟩:=J3 ho
  obtain⟨i,hi,rfl⟩:=vq.mp hd
  have m:=aQ (S:=S) (t:=i) hs (FL (by lia) (by lia))
  exact⟨[Gc (.int i)],rfl,by simp,by simp[A1 hq,HI,m]⟩
 have e2:(ns.map D.int).map (λd=>match d with| .int n=>aD ((n:Rat) / (ns.sum:Rat))|d=>d)=(J0 ns).map aD:=by
  unfold J0
  rw[wR,wR]
  rfl
 rw[e2]at this
 simpa using this
def UN(h:EF p S){n:Nat}(h1:1<=n)(h2:n<=4):∃rs S',Dw [.ref p,.int n] S=Gc (shD rs,S')/\Pn p S S'/\(rs.length=n/\rs.sum=1)/\∃G,0<G/\G<=32/\∀r∈rs,Ok G G r:=by
 obtain⟨ns,S1,e1,p1,l1,i1⟩:=VX (n:=n) h (by lia)
 obtain⟨s1,s2,s3⟩:=Qn i1
 have hq:(S1++[Cl.lst (ns.map D.int)])[S1.length]?=Gc (.lst (ns.map D.int)):=wK
 have pp:EF p (S1++[Cl.lst (ns.map D.int)]):=p1.pen.app _
 have hlt:=p1.pen.lt
 have r1:Lg (n:Int)=true:=Fp (by lia) (by lia)
 by_cases hz:ns.sum=0
 .obtain⟨r,S2,e2,a2,b2,p2⟩:=Ap pp (n:=n) (by lia) (by lia)
  have hq2:S2[S1.length]?=Gc (.lst (ns.map D.int)):=p2.get hq (by lia)
  have hn':∀x∈ns.set r.toNat 1,0<=x/\x<=8:=λx hx=>by
   rcases zA hx with hx|rfl
   .exact i1 x hx
   .exact⟨by decide,by decide⟩
  have hs':0<(ns.set r.toNat 1).sum:=by
   have:=(Qn hn').2.2 1 (List.mem_set (by lia) 1)
   lia
  have hq3:(S2.set S1.length (.lst ((ns.set r.toNat 1).map D.int)))[S1.length]?=Gc (.lst ((ns.set r.toNat 1).map D.int)):=vx (Af hq2)
  have e3:=VA hq3 (by simp;lia) hn' hs'
  have ix:ixN ns.length r=Gc r.toNat:=Uv a2 (by lia)
  refine⟨J0 (ns.set r.toNat 1),S2.set S1.length (.lst ((ns.set r.toNat 1).map D.int)),?_,⟨?_,?_⟩,⟨by simp[J0,l1],Qv hs'⟩,_,(show 0<(ns.set r.toNat 1).sum.toNat by lia),?_,Nd hn' hs'⟩
  .have sq3:=IG hq3
   rw[AAH]at e3 sq3 hq3
   simp[Dw,KP,r1,e1,A1 hq,HI,hz,e2,AQ hq2,ix,sq3,e3,shD]
  .have g:B5 [p] S (S1++[Cl.lst (ns.map D.int)]):=p1.same.trans .app
   refine⟨va (g.trans p2.same).len (by simp),λm hm hmp=>?_⟩
   rw[vj (by have:=p1.same.len;lia)]
   exact(g.trans p2.same).keep m hm hmp
  .obtain⟨ds,ed,hd⟩:=p2.pen
   exact⟨ds,by rw[vj (by lia)];exact ed,hd⟩
  .have:=(Qn hn').2.1
   rw[yR]at this
   lia
 .have hz':(ns.sum==0)=false:=by simpa using hz
  have e3:=VA hq (by lia) i1 (by lia)
  refine⟨J0 ns,S1++[Cl.lst (ns.map D.int)],?_,⟨p1.same.trans .app,pp⟩,⟨by simp[J0,l1],Qv (by lia)⟩,_,(show 0<ns.sum.toNat by lia),by lia,Nd i1 (by lia)⟩
  have sq3:=IG hq
  simp[Dw,KP,r1,e1,A1 hq,HI,hz',sq3,e3,shD]
def dn:(2:Nat)<F2:=FL (n:=2) (by decide) (by decide)
inductive Pcs(p j:Nat)(S:Sto):Prop
 |mk (n:Int) (S':Sto) (e:BE [.ref p] S=Gc (.int n,S')) (g:Pn p S S') (a:1<=n) (b:n<2^j)
def Om(h:EF p S):Pcs p 130 S:=by
 obtain⟨r1,S1,e1,a1,b1,p1⟩:=Ap h (n:=99) (by decide) (by decide)
 obtain⟨r2,S2,e2,a2,b2,p2⟩:=Ap p1.pen (n:=4) (by decide) (by decide)
 obtain⟨r3,S3,e3,a3,b3,p3⟩:=Ap p2.pen (n:=40) (by decide) (by decide)
 obtain⟨r4,S4,e4,a4,b4,p4⟩:=Ap p3.pen (n:=999) (by decide) (by decide)
 obtain⟨r5,S5,e5,a5,b5,p5⟩:=Ap p4.pen (n:=7) (by decide) (by decide)
 have pp:=(((p1.trans p2).trans p3).trans p4).trans p5
 have d2:=dn
 have go:∀g:Int,1<=g->g<2^130->∃n:Int,atI [D.int (1+r2),.int (1+r3),.int (1+r4),.int g] (r5 / 2)=Gc (.int n)/\1<=n/\n<2^130:=λg g1 g2=>by
  obtain⟨x,ex,hx⟩:=pick (xs:=[D.int (1+r2),.int (1+r3),.int (1+r4),.int g]) (r:=r5 / 2) (by lia) (by simp;lia)
  simp only[ve,vo,wW]at hx
  rcases hx with rfl|rfl|rfl|rfl
  .exact⟨_,ex,by lia,by lia⟩
  .exact⟨_,ex,by lia,by lia⟩
  .exact⟨_,ex,by lia,by lia⟩
  .exact⟨_,ex,g1,g2⟩
 first
  |(obtain⟨n,en,n1,n2⟩:=go (10^39+r1) (by lia) (by lia)
    exact⟨n,S5,by simp[BE,Ir,e1,e2,e3,e4,e5,d2]at en ⊢; simp[en],pp,n1,n2⟩)
  |(obtain⟨n,en,n1,n2⟩:=go (10^30+r1) (by lia) (by lia)
    exact⟨n,S5,by simp[BE,Ir,e1,e2,e3,e4,e5,d2]at en ⊢; simp[en],pp,n1,n2⟩)
def OJ(h:EF p S):Pcs p 131 S:=by
 obtain⟨n,S',a,b,c,d⟩:=Om h
 exact⟨n,S',a,b,c,ze d (by decide)⟩
def Il{r:Int}(h:0<=r):∃m:Nat,r=m:=⟨r.toNat,by lia⟩
def sf(t:Tr):Prop:=0<=t.h/\t.h<=9/\0<=t.l/\t.l<=9
def YJ(h:EF p S):∃t S',IC [.ref p] S=Gc (Tr.d t,S')/\Pn p S S'/\Hb t/\((t.ho.length=t.p/\t.ho.sum=1)/\sf t)/\∃G,0<G/\G<=32/\∀r∈t.ho,Ok G G r:=by
 obtain⟨r1,S1,e1,a1,b1,p1⟩:=Ap h (n:=4) (by decide) (by decide)
 obtain⟨r2,S2,e2,a2,b2,p2⟩:=Ap p1.pen (n:=5) (by decide) (by decide)
 obtain⟨r3,S3,e3,a3,b3,p3⟩:=Ap p2.pen (n:=3) (by decide) (by decide)
 obtain⟨r4,S4,e4,a4,b4,p4⟩:=Ap p3.pen (n:=20) (by decide) (by decide)
 obtain⟨r5,S5,e5,a5,b5,p5⟩:=Ap p4.pen (n:=2) (by decide) (by decide)
 obtain⟨m1,rfl⟩:=Il a1
 obtain⟨m2,rfl⟩:=Il a2
 obtain⟨b,eb,hb1,hb2⟩:∃b:Nat,atI [D.int (1+r3),.int (1+r4)] r5=Gc (.int b)/\1<=b/\b<=20:=by
  obtain⟨x,ex,hx⟩:=pick (xs:=[D.int (1+r3),.int (1+r4)]) (r:=r5) a5 (by simpa using b5)
  obtain⟨m3,rfl⟩:=Il a3
  obtain⟨m4,rfl⟩:=Il a4
  simp only[ve,vo,wW]at hx
  rcases hx with rfl|rfl
  .exact⟨1+m3,by rw[ex];simp,by lia,by lia⟩
  .exact⟨1+m4,by rw[ex];simp,by lia,by lia⟩
 obtain⟨rs,S6,e6,p6,l6,G,g0,g1,g2⟩:=UN p5.pen (n:=1+m1) (by lia) (by lia)
 obtain⟨r7,S7,e7,a7,b7,p7⟩:=Ap p6.pen (n:=10) (by decide) (by decide)
 obtain⟨r8,S8,e8,a8,b8,p8⟩:=Ap p7.pen (n:=10) (by decide) (by decide)
 rw[show((1+m1:Nat):Int)=1+(m1:Int) by lia]at e6
 refine⟨⟨1+m1,1+m2,b,rs,r7,r8⟩,S8,?_,((((((p1.trans p2).trans p3).trans p4).trans p5).trans p6).trans p7).trans p8,⟨by simp,by simp;lia,by simp,by simp;lia,hb1,hb2⟩,⟨l6,a7,by show r7<=9;lia,a8,by show r8<=9;lia⟩,G,g0,g1,g2⟩
 simp[IC,Nx,e1,e2,e3,e4,e5,eb,e6,e7,e8,Tr.d]
inductive Shr(p:Nat)(S:Sto):Prop
 |mk (x:Rat) (S':Sto) (e:GQ [.ref p] S=Gc (aD x,S')) (g:Pn p S S') (a:0<x.num) (b:x.num<=x.den) (c:x.den<=12)
def bS(h:EF p S):Shr p S:=by
 obtain⟨r1,S1,e1,a1,b1,p1⟩:=Ap h (n:=12) (by decide) (by decide)
 obtain⟨r2,S2,e2,a2,b2,p2⟩:=Ap p1.pen (n:=1+r1) (by lia) (by lia)
 have m:=aQ (S:=S2) (t:=1+r2) (b:=1+r1) (by lia) (FL (by lia) (by lia))
 obtain⟨m1,rfl⟩:=Il a1
 obtain⟨m2,rfl⟩:=Il a2
 have rp:=N6 (1+(m2:Int)) (1+m1) (by lia)
 have eb:(((1+(m1:Int):Int)):Rat)=(((1+m1:Nat)):Rat):=by
  have:(1+(m1:Int))=((1+m1:Nat):Int):=by lia
  rw[this];rfl
 have en:(1+(m2:Int)).natAbs=1+m2:=by lia
 have gp:0<ABO (1+m2) (1+m1):=Nat.gcd_pos_of_pos_left _ (by lia)
 obtain⟨q,hq⟩:=Nat.gcd_dvd_left (1+m2) (1+m1)
 obtain⟨q',hq'⟩:=Nat.gcd_dvd_right (1+m2) (1+m1)
 refine⟨((1+(m2:Int):Int):Rat) / ((1+(m1:Int):Int):Rat),S2,?_,p1.trans p2,?_,?_,?_⟩
 .simp[GQ,NG,e1,e2,m]
 .rw[eb,rp.1,en]
  generalize ABO (1+m2) (1+m1)=g at*
  have:(1+(m2:Int))=((g*q:Nat):Int):=by lia
  rw[this,ACi,AB1 _ (by lia)]
  have:q≠0:=λz=>by subst z;lia
  lia
 .rw[eb,rp.1,rp.2,en]
  generalize ABO (1+m2) (1+m1)=g at*
  have t1:(1+(m2:Int))=((g*q:Nat):Int):=by lia
  rw[t1,ACi,AB1 _ (by lia),hq',Nat.mul_div_cancel_left _ gp]
  have:q<=q':=by
   have:g*q<=g*q':=by lia
   exact Nat.le_of_mul_le_mul_left this gp
  lia
 .rw[eb,rp.2]
  exact va (Nat.div_le_self _ _) (by lia)
inductive Wts(p n:Nat)(S:Sto):Prop
 |mk (ws:Wp Int) (S':Sto) (e:D7 [.ref p,.int n] S=Gc (.tup (ws.map .int),S')) (g:Pn p S S') (a:ws.length=n) (b:∀w∈ws,1<=w/\w<=99)
def Xy (h:EF p S)(hn:n ≤ 6):Wts p n S:=by
  obtain⟨ys,S',e,hI,l,r⟩:=Pu (gs:=[]) (t:=tNm 1) (f:=(eOp (o2 BF) [(eC (.int 1)),(eOp (o2 wIx) [(Km [(AB AH [(eV 0),(eC (.int 3))]),(AB AH [(eV 0),(eC (.int 99))])]),(AB AH [(eV 0),(eC (.int 2))])])])) (C:=[Gc (.ref p)]) (m:=1) (I:=Pn p S) (R:=λ_ y=>∃i:Int,y = .int i/\1 ≤ i/\i ≤ 99)
    (λ_ _=>AO) (ds:=OX 0 n) (acc:=[]) (os:=[none]) rfl (Pn.refl h) (by rw[Jj];simp;exact AI (by lia)) λd _ os S0 ho I0=>by
      obtain⟨o,rfl⟩:=J3 ho
      obtain⟨r1,S1,e1,a1,b1,p1⟩:=Ap I0.pen (n:=3) (by decide) (by decide)
      obtain⟨r2,S2,e2,a2,b2,p2⟩:=Ap p1.pen (n:=99) (by decide) (by decide)
      obtain⟨r3,S3,e3,a3,b3,p3⟩:=Ap p2.pen (n:=2) (by decide) (by decide)
      obtain⟨x,ex,hx⟩:=pick (xs:=[.int r1,.int r2]) (r:=r3) a3 (by simpa using b3)
      simp only [ve, vo, wW] at hx
      rcases hx with rfl | rfl
      · exact ⟨[Gc d], .int (1 + r1), S3, rfl, by simp, by simp [e1, e2, e3, ex], ((I0.trans p1).trans p2).trans p3, _, rfl, by lia, by lia⟩
      · exact ⟨[Gc d], .int (1 + r2), S3, rfl, by simp, by simp [e1, e2, e3, ex], ((I0.trans p1).trans p2).trans p3, _, rfl, by lia, by lia⟩
  obtain⟨ns,rfl,hns⟩:=Sn (Lw r)
  have r1:Lg (n:Int)=true:=Fp (by lia) (by lia)
  have e':Bk [] (tNm 1) Ai (eOp (o2 BF) [(eC (.int 1)),(eOp (o2 wIx) [(Km [(AB AH [(eV 0),(eC (.int 3))]),(AB AH [(eV 0),(eC (.int 99))])]),(AB AH [(eV 0),(eC (.int 2))])])]) (OX 0 n) [] [Gc (.ref p),none] S=Gc (ns.map D.int,S'):=by simpa using e
  exact ⟨ns, S', by simp [D7, MQ, r1, e'], hI, by simpa [Jj] using l, hns⟩
def FT(t:Tr)(ls:Wp Ld):Prop:=(∀l∈ls,l.k<t.k/\1<=l.n/\l.n<2^131/\l.ow.length=t.p/\l.ow.sum=1)/\∃G:Nat,0<G/\G<=32^ls.length/\∀l∈ls,∀r∈l.ow,Ok G G r
def FT.snoc(h:FT t ls)(h1:l.k<t.k/\1<=l.n/\l.n<2^131/\l.ow.length=t.p/\l.ow.sum=1)(g0:0<g)(g1:g<=32)(g2:∀r∈l.ow,Ok g g r):FT t (ls++[l]):=by
 obtain⟨ha,G,G0,G1,G2⟩:=h
 refine⟨λx hx=>?_,G*g,yU G0 g0,?_,λx hx r hr=>?_⟩
 .rcases wF.mp hx with hx|hx
  .exact ha x hx
  .rw[wN.mp hx];exact h1
 .rw[wc,ACm,yK]
  exact y4 G1 g1
 .rcases wF.mp hx with hx|hx
  .exact(G2 x hx r hr).up (vf _)
  .rw[wN.mp hx]at hr
   have:=(g2 r hr).up (t:=G) (B':=G*g) (by rw[xk];exact vf _)
   rwa [xk g G]at this
def FT.nil:FT t []:=⟨λl hl=>(nomatch hl),1,by decide,by simp,λl hl=>(nomatch hl)⟩
def bp(h:EF p S)(ht:Hb t):∃ls S',IA [.ref p,t.d] S=Gc (.tup (ls.map Ld.d),S')/\Pn p S S'/\FT t ls/\ls.length<=4:=by
 obtain⟨t1,t2,t3,t4,t5,t6⟩:=ht
 have hlt:=h.lt
 have hq:(S++[Cl.lst []])[S.length]?=Gc (.lst []):=wK
 obtain⟨r1,S1,e1,a1,b1,p1⟩:=Ap (h.app [Cl.lst []]) (n:=5) (by decide) (by decide)
 obtain⟨r2,S2,e2,a2,b2,p2⟩:=Ap p1.pen (n:=3) (by decide) (by decide)
 obtain⟨n,en,hn⟩:∃n:Nat,atI [D.int 0,.int 1,.int r1] r2=Gc (.int n)/\n<=4:=by
  obtain⟨x,ex,hx⟩:=pick (xs:=[D.int 0,.int 1,.int r1]) (r:=r2) a2 (by simpa using b2)
  simp only[ve,vo,wW]at hx
  rcases hx with rfl|rfl|rfl
  .exact⟨0,ex,by decide⟩
  .exact⟨1,ex,by decide⟩
  .exact⟨r1.toNat,by rw[ex,wL a1],by lia⟩
 have q2:S2[S.length]?=Gc (.lst []):=(p1.trans p2).get hq (by lia)
 have rn:Lg (n:Int)=true:=Fp (by lia) (by lia)
 obtain⟨E',S',ef,ls,o,rfl,f1,f2,f3,f4,f5⟩:=Hx (gs:=[]) (t:=tNm 3) (b:=EA (Mq Ng (eV 2) [Bh [AB AH [eV 0,eOp (o2 wIx) [eV 1,eC (.int 1)]],AB BE [eV 0],AB Dw [eV 0,eOp (o2 wIx) [eV 1,eC (.int 0)]]]]))
  (I:=λds E S'=>∃(ls:Wp Ld) (o:vi D),E=[Gc (.ref p),Gc t.d,Gc (.ref S.length),o]/\S'[S.length]?=Gc (.lst (ls.map Ld.d))/\EF p S'/\B5 [p] S S'/\FT t ls/\ls.length+ds.length<=4)
  (λ_ _ _ _=>AO) (ds:=OX 0 n) (E:=[Gc (.ref p),Gc t.d,Gc (.ref S.length),none]) (S:=S2)
  ⟨[],none,rfl,q2,p2.pen,B5.app.trans (p1.trans p2).same,FT.nil,by simp[Jj];exact hn⟩ (by
    rintro d ds E S0 ⟨ls,o,rfl,i1,i2,i3,i4,i5⟩
    obtain⟨x1,T1,g1,c1,d1,k1⟩:=Ap i2 (n:=t.k) (by lia) (by lia)
    obtain⟨x2,T2,g2,k2,c2,d2⟩:=OJ k1.pen
    obtain⟨rs,T3,g3,k3,l3,G,G0,G1,G2⟩:=UN k2.pen (n:=t.p) t1 t2
    obtain⟨m1,rfl⟩:=Il c1
    have kk:=(k1.trans k2).trans k3
    have j1:T3[S.length]?=Gc (.lst (ls.map Ld.d)):=kk.get i1 (by lia)
    have hz:ls.length<sizeLine:=vd (show ls.length<5 by lia) (AI (by decide))
    refine⟨[Gc (.ref p),Gc t.d,Gc (.ref S.length),Gc d],[Gc (.ref p),Gc t.d,Gc (.ref S.length),Gc d],T3.set S.length (.lst ((ls++[Ld.mk m1 x2 rs]).map Ld.d)),by simp,?_,ls++[Ld.mk m1 x2 rs],Gc d,rfl,vx (Af j1),?_,?_,i4.snoc (l:=Ld.mk m1 x2 rs) ⟨show m1<t.k by lia,c2,d2,l3⟩ G0 G1 G2,by simp at i5 ⊢; lia⟩
    .have e3:atI [D.int t.p,.int t.k,.int t.b,shD t.ho,.int t.h,.int t.l] 1=Gc (.int t.k):=by simp
     simp[Tr.d,g1,g2,g3,AQ i1,AQ j1,hz,Ld.d]
    .obtain⟨ds',ed,hd⟩:=kk.pen
     exact⟨ds',by rw[vj (by lia)];exact ed,hd⟩
    .refine⟨va (i3.trans kk.same).len (by simp),λm hm hmp=>?_⟩
     rw[vj (by lia)]
     exact(i3.trans kk.same).keep m hm hmp)
 refine⟨ls,S',?_,⟨f3,f2⟩,f4,by simpa using f5⟩
 simp[IA,OQ,e1,e2,en,rn,ef,A1 f1]
noncomputable def CP(x:Ld):Cl:=.lst [.int x.k,.int x.n,shD x.ow]
structure SAt(S:Sto)(s l m:Nat)(as:Wp Nat)(st:Stt):Prop where
 root:S[s]?=Gc (.lst [.ref l,shD st.hold,.ref m])
 lo:S[l]?=Gc (.lst (as.map .ref))
 nu:S[m]?=Gc (.lst (st.nums.map .int))
 ld:∀(i a:Nat) (x:Ld),as[i]?=Gc a->st.AA[i]?=Gc x->S[a]?=Gc (CP x)
 len:as.length=st.AA.length
 nd:(s::l::m::as).Nodup
theorem cS:∀{ls:Wp Ld} {acc} {o} {S},acc.length+ls.length<=100->Bk [] (tNm 0) Ai (jz (o1 RB) [eV 0]) (ls.map Ld.d) acc [o] S=Gc (acc++(AAa S.length ls.length).map D.ref,S++ls.map CP)
 | [],acc,o,S,h=>by rw[xQ,EG AO];simp
 |x::ls,acc,o,S,h=>by
  rw[v5,Hy (E1:=[Gc x.d]) AO (vd (show acc.length<101 by simp at h;lia) (AI (by decide))) (by simp) GI]
  have:jz (o1 RB) [eV 0] [Gc x.d] S=Gc (.ref S.length,S++[CP x]):=by simp[Ld.d,CP]
  rw[this,An,cS (by simp at h ⊢; lia)]
  simp[List.range'_succ]
def getElem?_at{α:Type}{xs:Wp α}{x:α}(h:n=xs.length):(xs++[x])[n]?=Gc x:=by subst h;exact wK
def ZR{t:Tr}(hl:ls.length<=20):∃s l m as S',IK [.tup [t.d,.tup (ls.map Ld.d),x]] S=Gc (.ref s,S')/\SAt S' s l m as ⟨ls,t.ho,[]⟩/\B5 [] S S'/\(∀n∈s::l::m::as,S.length<=n):=by
 have e:=cS (ls:=ls) (acc:=[]) (o:=none) (S:=S) (by simp;lia)
 refine⟨S.length+ls.length+2,S.length+ls.length,S.length+ls.length+1,AAa S.length ls.length,S++ls.map CP++[.lst ((AAa S.length ls.length).map D.ref)]++[.lst []]++[.lst [.ref (S.length+ls.length),shD t.ho,.ref (S.length+ls.length+1)]],?_,⟨?_,?_,?_,?_,?_,?_⟩,?_,?_⟩
 .simp[IK,OF,Tr.d,e,shD]
  lia
 .exact getElem?_at (by simp;lia)
 .rw[vg (by simp),vg (by simp)]
  exact getElem?_at (by simp)
 .rw[vg (by simp;lia)]
  exact getElem?_at (by simp;lia)
 .intro i a y ha hy
  have hi:i<ls.length:=(vt.mp hy).1
  have:a=S.length+i:=by
   rw[List.getElem?_range' hi]at ha
   simp at ha;lia
  subst this
  rw[vg (by simp;lia),vg (by simp;lia),vg (by simp;lia),xB (by lia)]
  have hy':ls[i]?=Gc y:=hy
  simp[hy']
 .simp
 .rw[yl,yl,yl]
  refine⟨?_,?_,?_,List.nodup_range'⟩
  .simp only[ve,AAl];lia
  .simp only[ve,AAl];lia
  .simp only[AAl];lia
 .rw[zE,zE,zE]
  exact .app
 .intro n hn
  simp only[ve,AAl]at hn
  lia
section
variable{S:Sto}{p:Nat}
@[simp] def uf:sqD S (shD rs)=some (rs.map aD,[]):=rfl
@[simp] def ou:dr (S++[.lst r]) (.ref S.length)=.own r:=A1 List.getElem?_concat_length
@[simp] def iV:FK (S++[.lst r]) S.length=some r:=AQ List.getElem?_concat_length
def set_same(h:S[q]?=Gc c):S.set q c=S:=by
 apply zt
 intro i
 by_cases e:q=i
 .subst e;rw[vx (Af h),h]
 .rw[vj e]
theorem Tj{gs:Gd}{t:Tf}{b:Ex}{I:Sto->Prop}(hg:∀S,I S->gOk gs S)(hI:∀S c,I S->I (S.set q c)):∀{ds acc} {os} {S},os.length=m->I S->S[q]?=Gc (.lst acc)->acc.length+ds.length<=1000->(∀d∈ds,∀os S acc,os.length=m->I S->S[q]?=Gc (.lst acc)->acc.length<sizeLine->∃us us',t d (C++os) S=Gc (C++us)/\b (C++us) S=Gc (.nx,C++us',S.set q (.lst (acc++[h d])))/\us'.length=m)->∃os',os'.length=m/\Mu gs t b ds (C++os) S=Gc (.nx,C++os',S.set q (.lst (acc++ds.map h)))
 | [],acc,os,S,ho,hS,hq,hz,H=>⟨os,ho,by
     rw[H0 (hg S hS)]
     have:S.set q (.lst (acc++List.map h []))=S:=by
      rw[xQ,yJ]
      exact set_same hq
     rw[this]⟩
 |d::ds,acc,os,S,ho,hS,hq,hz,H=>by
  have hl:=Af hq
  obtain⟨us,us',e1,e2,hu⟩:=H d vp os S acc ho hS hq (vd (show acc.length<1001 by simp at hz;lia) (va (by decide) (show 1001<=sizeLine by decide)))
  obtain⟨os',ho',e3⟩:=Tj hg hI (ds:=ds) (acc:=acc++[h d]) (os:=us') (S:=S.set q (.lst (acc++[h d]))) hu (hI S _ hS) (vx hl) (by simp at hz ⊢; lia) λd' hd=>H d' (vh _ hd)
  refine⟨os',ho',?_⟩
  rw[Es (hg S hS),e1,An,e2,An,Lr,e3,List.set_set]
  simp
noncomputable def un:D->Rat
 | .tup [.int n,.int d]=>(n:Rat) / (d:Rat)
 |_=>0
def iK r:un (aD r)=r:=C5 r
noncomputable def TF(f:Rat->Rat->Rat):D->D
 | .tup [a,b]=>aD (f (un a) (un b))
 |d=>d
theorem Px:∀{ss os},(MO (ss.map aD) (os.map aD)).map (TF f)=(AAk f ss os).map aD
 | [],os=>by simp[MO]
 |s::ss,[]=>by simp[MO]
 |s::ss,o::os=>by
  have ih:=Px (f:=f) (ss:=ss) (os:=os)
  unfold MO at ih⊢
  simp only[v5,ABg,ACY]at ih⊢
  rw[ih]
  simp[TF,iK]
def Y1{ss os:Wp Rat}(h:d∈MO (ss.map aD) (os.map aD)):∃s∈ss,∃o∈os,d=.tup [aD s,aD o]:=by
 unfold MO at h
 obtain⟨⟨a,b⟩,h1,rfl⟩:=vq.mp h
 have h2:=zg h1
 obtain⟨s,hs,rfl⟩:=vq.mp h2.1
 obtain⟨o,ho,rfl⟩:=vq.mp h2.2
 exact⟨s,hs,o,ho,rfl⟩
theorem dF:aD 1=.tup [.int 1,.int 1]:=rfl
def XG(n:Int):aD (n:Rat)=.tup [.int n,.int 1]:=by
 unfold aD
 simp
def RF{n:Int}(h:n.natAbs<2^k)(hk:1<=k):Sz k (n:Rat):=by
 unfold Sz
 have:1<2^k:=ABh (by lia)
 simp[h,this]
def dQ(hk:1<=k):Sz k (1:Rat):=by
 have:1<2^k:=ABh (by lia)
 exact⟨by simpa using this,by simpa using this⟩
def T6{ss os:Wp Rat}(hs:∀r∈ss,Sz j r)(ho:∀r∈os,Sz j r)(hx:Sz i x)(hj:2*j+2*i<=7900)(hl:ss.length<=10):∃S',Ej [shD ss,aD x,shD os] S=Gc (shD (HK x os ss),S')/\B5 [] S S':=by
 have hq:(S++[Cl.lst []])[S.length]?=Gc (.lst []):=wK
 obtain⟨os',ho',e⟩:=Tj (gs:=[]) (t:=tTp [tNm 4,tNm 5]) (b:=EA (Mq Ng (eV 3) [AB CI [AB Aq [eV 4,AB D1 [Bh [eC (.int 1),eC (.int 1)],eV 1]],AB Aq [eV 5,eV 1]]])) (C:=[Gc (shD ss),Gc (aD x),Gc (shD os),Gc (.ref S.length)]) (m:=2) (q:=S.length) (h:=TF λs o=>s*(1-x)+o*x) (I:=λ_=>ABE) (λ_ _=>AO) (λ_ _ _=>trivial)
  (ds:=MO (ss.map aD) (os.map aD)) (acc:=[]) (os:=[none,none]) (S:=S++[Cl.lst []]) rfl trivial hq (by simp[NC];lia) (by
    intro d hd os0 S0 acc h0 _ hq0 hz
    obtain⟨o1,o2,rfl⟩:=fD h0
    obtain⟨s,hs',o,ho',rfl⟩:=Y1 hd
    have l1:=cV (S:=S0) (dQ (k:=1) (by decide)) hx (by lia)
    have s1:=(k9 (dQ (k:=1) (by decide)) hx)
    have l2:=LW (S:=S0) (hs s hs') s1 (by lia)
    have l3:=LW (S:=S0) (ho o ho') hx (by lia)
    have l4:=Ug (S:=S0) (O4 (hs s hs') s1) (O4 (ho o ho') hx) (by lia)
    rw[dF]at l1
    refine⟨[Gc (aD s),Gc (aD o)],[Gc (aD s),Gc (aD o)],by simp,?_,rfl⟩
    simp[l1,l2,l3,l4,AQ hq0,hz,TF,iK])
 rw[Px]at e
 refine⟨(S++[Cl.lst []]).set S.length (.lst ((HK x os ss).map aD)),?_,?_⟩
 .have e':Mu [] (tTp [tNm 4,tNm 5]) (EA (Mq Ng (eV 3) [AB CI [AB Aq [eV 4,AB D1 [Bh [eC (.int 1),eC (.int 1)],eV 1]],AB Aq [eV 5,eV 1]]])) (MO (ss.map aD) (os.map aD)) [Gc (shD ss),Gc (aD x),Gc (shD os),Gc (.ref S.length),none,none] (S++[Cl.lst []])=Gc (.nx,[Gc (shD ss),Gc (aD x),Gc (shD os),Gc (.ref S.length)]++os',(S++[Cl.lst []]).set S.length (.lst ((HK x os ss).map aD))):=by simpa[HK]using e
  simp[Ej,NS,e']
  rfl
 .refine⟨by simp,λn hn _=>?_⟩
  rw[vj (by lia),vg hn]
end
def getD_get{α:Type}{xs:Wp α}{d:α}(h:n<xs.length):xs[n]?=Gc (xs.getD n d):=by
 rw[v8,vk h]
 rfl
def getD_mem{α:Type}{xs:Wp α}{d:α}(h:n<xs.length):xs.getD n d∈xs:=wH (getD_get h)
def Xi{ss:Wp Rat}(h:n<ss.length):atI (ss.map aD) (n:Int)=Gc (aD (ss.getD n 0)):=DM (by rw[wJ,getD_get h];rfl)
def cn{ss:Wp Rat}(h:n<ss.length):ixN (ss.map aD).length (n:Int)=Gc n:=QD (by simpa using h)
def X0(hs:∀r∈ss,Sz j r)(hx:Sz i x)(hj:2*j+i<=7900)(hp:p<ss.length)(hq:q<ss.length)(hpq:p≠q):∃S',Fx [shD ss,(AN.Et p q x).d] S=Gc (shD (FU p q x ss),S')/\B5 [] S S':=by
 have sp:=hs _ (getD_mem (d:=0) hp)
 have sq:=hs _ (getD_mem (d:=0) hq)
 have l1:∀S,Aq [aD (ss.getD p 0),aD x] S=Gc (aD (ss.getD p 0*x),S):=λS=>LW sp hx (by lia)
 have s1:=O4 sp hx
 have l2:∀S,D1 [aD (ss.getD p 0),aD (ss.getD p 0*x)] S=Gc (aD (ss.getD p 0-ss.getD p 0*x),S):=λS=>cV sp s1 (by lia)
 have l3:∀S,CI [aD (ss.getD q 0),aD (ss.getD p 0*x)] S=Gc (aD (ss.getD q 0+ss.getD p 0*x),S):=λS=>Ug sq s1 (by lia)
 have a1:=Xi hp
 have i1:=cn hp
 have i2:ixN (((ss.map aD).set p (aD (ss.getD p 0-ss.getD p 0*x))).length) (q:Int)=Gc q:=QD (by simpa using hq)
 have a2:atI ((ss.map aD).set p (aD (ss.getD p 0-ss.getD p 0*x))) (q:Int)=Gc (aD (ss.getD q 0)):=DM (by
  rw[vj hpq,wJ,getD_get hq];rfl)
 refine⟨S++[.lst ((FU p q x ss).map aD)],?_,.app⟩
 simp only[yR,wY]at i1 i2
 have em:(FU p q x ss).map aD=((ss.map aD).set p (aD (ss.getD p 0-ss.getD p 0*x))).set q (aD (ss.getD q 0+ss.getD p 0*x)):=by rw[FU,AAH,AAH]
 unfold shD
 rw[em]
 generalize aD (ss.getD p 0-ss.getD p 0*x)=d1 at*
 generalize aD (ss.getD q 0+ss.getD p 0*x)=d2 at*
 generalize aD (ss.getD p 0*x)=d3 at*
 generalize aD (ss.getD p 0)=d4 at*
 generalize aD (ss.getD q 0)=d5 at*
 simp[Fx,O0,AN.d,a1,l1,l2,l3,i1,i2,a2]
def Wb(ha:S[a]?=Gc (CP x))(hb:S[b]?=Gc (CP y))(hs:∀r∈x.ow,Sz j r)(ho:∀r∈y.ow,Sz j r)(hx:x.n.natAbs<2^i)(hy:y.n.natAbs<2^i)(h0:0<x.n+y.n)(h1:1<=i)(hj:2*j+4*i<=7900)(hl:x.ow.length<=10):∃S',GY [.ref a,.ref b] S=Gc (shD (B8 x.n y.n x.ow y.ow),S')/\B5 [] S S':=by
 have la:=Af ha
 have lb:=Af hb
 have hq:(S++[Cl.lst []])[S.length]?=Gc (.lst []):=wK
 have ha':(S++[Cl.lst []])[a]?=Gc (CP x):=by rw[vg la];exact ha
 have hb':(S++[Cl.lst []])[b]?=Gc (CP y):=by rw[vg lb];exact hb
 obtain⟨os',ho',e⟩:=Tj (gs:=[]) (t:=tTp [tNm 3,tNm 4]) (b:=AM (A6 5 (AB CI [AB Aq [Bh [eOp (o2 wIx) [eV 0,eC (.int 1)],eC (.int 1)],eV 3],AB Aq [Bh [eOp (o2 wIx) [eV 1,eC (.int 1)],eC (.int 1)],eV 4]]))
  (EA (Mq Ng (eV 2) [AB Aq [eV 5,AB Bf [eC (.int 1),eOp (o2 BF) [eOp (o2 wIx) [eV 0,eC (.int 1)],eOp (o2 wIx) [eV 1,eC (.int 1)]]]]]))) (C:=[Gc (.ref a),Gc (.ref b),Gc (.ref S.length)]) (m:=3) (q:=S.length) (h:=TF λs o=>(s*x.n+o*y.n) / (x.n+y.n:Int)) (I:=λS'=>S'[a]?=Gc (CP x)/\S'[b]?=Gc (CP y)) (λ_ _=>AO) (λS' c h=>⟨by rw[vj (by lia)];exact h.1,by rw[vj (by lia)];exact h.2⟩)
  (ds:=MO (x.ow.map aD) (y.ow.map aD)) (acc:=[]) (os:=[none,none,none]) (S:=S++[Cl.lst []]) rfl ⟨ha',hb'⟩ hq (by simp[NC];lia) (by
    intro d hd os0 S0 acc h0' hI hq0 hz
    obtain⟨o1,o2,o3,rfl⟩:=rL h0'
    obtain⟨s,hs',o,ho',rfl⟩:=Y1 hd
    have d1:=A1 hI.1
    have d2:=A1 hI.2
    have z1:=RF hx h1
    have z2:=RF hy h1
    have l1:=LW (S:=S0) z1 (hs s hs') (by lia)
    have l2:=LW (S:=S0) z2 (ho o ho') (by lia)
    have s1:=O4 z1 (hs s hs')
    have s2:=O4 z2 (ho o ho')
    have l3:=Ug (S:=S0) s1 s2 (by lia)
    have b1:=Jd hx hy
    have l4:=aQ (S:=S0) (t:=1) h0 (Cp b1 (by lia))
    have s4:Sz (i+1) (((1:Int):Rat) / ((x.n+y.n:Int):Rat)):=NW h0 (show(1:Int).natAbs<2^(i+1)from ABh (by lia)) b1
    have l5:=LW (S:=S0) (lQ s1 s2) s4 (by lia)
    rw[XG]at l1 l2
    refine⟨[Gc (aD s),Gc (aD o),o3],[Gc (aD s),Gc (aD o),Gc (aD (x.n*s+y.n*o))],by simp,?_,rfl⟩
    have ev:(((x.n:Rat)*s+(y.n:Rat)*o)*(((1:Int):Rat) / ((x.n+y.n:Int):Rat)))=(s*x.n+o*y.n) / (x.n+y.n:Int):=by
     push_cast
     grind
    rw[ev]at l5
    have lf:(TF λs o=>(s*x.n+o*y.n) / (x.n+y.n:Int)) (.tup [aD s,aD o])=aD ((s*x.n+o*y.n) / (x.n+y.n:Int)):=by simp only[TF,iK]
    rw[lf]
    generalize aD ((s*x.n+o*y.n) / (x.n+y.n:Int))=e5 at*
    generalize aD (((1:Int):Rat) / ((x.n+y.n:Int):Rat))=e4 at*
    generalize aD (x.n*s+y.n*o)=e3 at*
    simp[d1,d2,CP,l1,l2,l3,l4,l5,AQ hq0,hz])
 rw[Px]at e
 refine⟨(S++[Cl.lst []]).set S.length (.lst ((B8 x.n y.n x.ow y.ow).map aD)),?_,?_⟩
 .have e':=e
  simp only[wg,v7]at e'
  have d1:=A1 ha'
  have d2:=A1 hb'
  change Mu _ _ _ _ _ _=Gc (_,_,List.set _ _ (Cl.lst (List.map aD (B8 x.n y.n x.ow y.ow))))at e'
  generalize B8 x.n y.n x.ow y.ow=rs at*
  simp[GY,MR,d1,d2,e',shD]
 .refine⟨by simp,λn hn _=>?_⟩
  rw[vj (by lia),vg hn]
section
variable{S:Sto}{p:Nat}
theorem BH{α:Type}{gs:Gd}{t:Tf}{f:Ev}{C:En}{m:Nat}{e g:α->D}{S:Sto}(hg:gOk gs S):∀{xs:Wp α} {acc:Wp D} {os:En},os.length=m->acc.length+xs.length<=sizeLine->(∀x∈xs,∀os,os.length=m->∃us,us.length=m/\t (e x) (C++os) S=Gc (C++us)/\f (C++us) S=Gc (g x,S))->Bk gs t Ai f (xs.map e) acc (C++os) S=Gc (acc++xs.map g,S)
 | [],acc,os,ho,hz,h=>by rw[xQ,EG hg];simp
 |x::xs,acc,os,ho,hz,h=>by
  obtain⟨us,hu,e1,e2⟩:=h x vp os ho
  rw[v5,Hy hg (by simp at hz;lia) e1 GI,e2,An]
  rw[BH hg hu (by simp at hz ⊢; lia) λx' hx=>h x' (vh _ hx)]
  simp
theorem EC{α:Type}{gs:Gd}{t:Tf}{c f:Ev}{C:En}{m:Nat}{e g:α->D}{b:α->xD}{S:Sto}(hg:gOk gs S):∀{xs:Wp α} {acc:Wp D} {os:En},os.length=m->acc.length+xs.length<=sizeLine->(∀x∈xs,∀os,os.length=m->∃us,us.length=m/\t (e x) (C++os) S=Gc (C++us)/\c (C++us) S=Gc (.bl (b x),S)/\f (C++us) S=Gc (g x,S))->Bk gs t c f (xs.map e) acc (C++os) S=Gc (acc++(xs.filter b).map g,S)
 | [],acc,os,ho,hz,h=>by rw[xQ,EG hg];simp
 |x::xs,acc,os,ho,hz,h=>by
  obtain⟨us,hu,e1,e2,e3⟩:=h x vp os ho
  cases hb:b x with
  |true=>
   rw[hb]at e2
   rw[v5,Hy hg (by simp at hz;lia) e1 e2,e3,An,EC hg hu (by simp at hz ⊢; lia) λd' hd=>h d' (vh _ hd)]
   simp[hb]
  |false=>
   rw[hb]at e2
   rw[v5,Kb hg (by simp at hz;lia) e1 e2,EC hg hu (by simp at hz ⊢; lia) λd' hd=>h d' (vh _ hd)]
   simp[hb]
def ak{as:Wp Nat}{ls:Wp Ld}(h:as.length=ls.length):as.map D.ref=(as.zip ls).map λz=>D.ref z.1:=by
 have:as=(as.zip ls).map Prod.fst:=(List.map_fst_zip (by lia)).symm
 conv=>lhs;rw[this]
 rw[wR];rfl
def gD{β:Type}{as:Wp Nat}{ls:Wp Ld}(h:as.length=ls.length)(g:Ld->β):ls.map g=(as.zip ls).map λz=>g z.2:=by
 have:ls=(as.zip ls).map Prod.snd:=(List.map_snd_zip (by lia)).symm
 conv=>lhs;rw[this]
 rw[wR];rfl
section
variable{s l m:Nat}{as:Wp Nat}{st:Stt}
def SAt.uh(h:SAt S s l m as st){z:Nat×Ld}(hz:z∈as.zip st.AA):S[z.1]?=Gc (CP z.2):=by
 obtain⟨i,hi⟩:=y8.mp hz
 have:=ABj.mp hi
 exact h.ld i z.1 z.2 this.1 this.2
def SAt.at(h:SAt S s l m as st){i:Nat}(hi:i<st.AA.length):∃a,as[i]?=Gc a/\S[a]?=Gc (CP (AK st.AA i))/\atI (as.map D.ref) (i:Int)=Gc (.ref a):=by
 have h1:i<as.length:=by rw[h.len];exact hi
 refine⟨as[i],vk h1,h.ld i _ _ (vk h1) (Fe hi),DM (by rw[wJ,vk h1];rfl)⟩
def SAt.guard(h:SAt S s l m as st):gOk [(l,as.map D.ref)] S:=by
 intro g hg
 simp only[ve,vo,wW]at hg
 subst hg
 exact AQ h.lo
end
theorem Yf{M:Int}(hM:0<=M):∀{xs:Wp Int},(∀x∈xs,0<=x/\x<=M)->0<=xs.sum/\xs.sum<=xs.length*M
 | [],_=>by simp
 |x::xs,h=>by
  have h1:=h x vp
  have h2:=Yf hM λy hy=>h y (vh _ hy)
  simp only[wX,xT]
  refine⟨by lia,?_⟩
  have:((xs.length+1:Nat):Int)*M=xs.length*M+M:=by push_cast;grind
  lia
theorem Oy:∀{xs:Wp Int} {y:Int},(∀x∈xs,0<=x)->y∈xs->y<=xs.sum
 |x::xs,y,h,hy=>by
  have h1:=h x vp
  have h2:0<=xs.sum:=by
   clear hy
   induction xs with
   |nil=>simp
   |cons z zs ih=>
    have:=h z (by simp)
    have:=ih λw hw=>h w (by simp at hw ⊢; rcases hw with hw|hw<;>simp[hw])
    simp only[wX];lia
  simp only[wX]
  rcases ve.mp hy with e|e
  .lia
  .have:=Oy (λz hz=>h z (vh _ hz)) e
   lia
section
variable{t:Tr}{k:Nat}{st:Stt}{ws:Wp Int}{n:Int}{l:Nat}
def NQ{i:Nat}(hw:∀w∈ws,1<=w/\w<=99)(hi:i<ws.length):1<=ws.getD i 0/\ws.getD i 0<=99:=hw _ (getD_mem hi)
def Ui{i:Nat}(hi:i<ws.length):atI (ws.map D.int) (i:Int)=Gc (.int (ws.getD i 0)):=DM (by rw[wJ,getD_get hi];rfl)
def Pd(hi:ws.length=k+1):atI (ws.map D.int) (-1:Int)=Gc (.int (ws.getD k 0)):=by
 have ix:ixN (ws.map D.int).length (-1)=Gc k:=by
  rw[wY,hi]
  unfold ixN
  simp
  lia
 unfold atI
 rw[ix]
 show(ws.map D.int)[k]?=_
 rw[wJ,getD_get (d:=(0:Int)) (by lia)]
 rfl
def Jg(ht:Hb t)(h:Ft t k st)(hk:k<=20)(hl:ws.length=t.k+1)(hw:∀w∈ws,1<=w/\w<=99):0<C0 t st.AA ws/\C0 t st.AA ws<2^(145+k):=by
 obtain⟨t1,t2,t3,t4,t5,t6⟩:=ht
 have hP:(0:Int)<=2^(131+k):=zd (Int.pow_pos (by decide))
 have hs:=Yf (M:=2^(131+k)*99) (by lia) (xs:=st.AA.map λl=>l.n*ws.getD l.k 0) (by
  intro x hx
  obtain⟨y,hy,rfl⟩:=vq.mp hx
  have h1:=h.pcs y hy
  have h2:=NQ hw (i:=y.k) (by have:=h.kind y hy;lia)
  refine⟨AC3 h1.1 (by lia),Int.mul_le_mul (by lia) h2.2 (by lia) hP⟩)
 have hb:=NQ hw (i:=t.k) (by lia)
 have hlen:=h.len
 rw[wY]at hs
 have h3:(st.AA.length:Int)*(2^(131+k)*99)<=24*(2^(131+k)*99):=AAx (by lia) (by lia)
 have h4:(1:Int)<=t.b*ws.getD t.k 0:=by
  have:0<(t.b:Int)*ws.getD t.k 0:=xg (by lia) (by lia)
  lia
 have h5:t.b*ws.getD t.k 0<=20*99:=Int.mul_le_mul (by lia) hb.2 (by lia) (by decide)
 have h6:(2:Int)^(145+k)=2^(131+k)*16384:=by rw[show 145+k=(131+k)+14 by lia,Int.pow_add];rfl
 have h7:(1:Int)<=2^(131+k):=by have:(0:Int)<2^(131+k):=Int.pow_pos (by decide);lia
 have h7':(2:Int)^11<=2^(131+k):=by
  have:(2^11:Nat)<=2^(131+k):=wQ (by decide) (by lia)
  exact_mod_cast this
 unfold C0
 rw[h6]
 generalize (2:Int)^(131+k)=P at*
 exact⟨Int.add_pos_of_nonneg_of_pos hs.1 (y7 (by decide) h4),xJ (Int.add_le_add (Int.le_trans hs.2 h3) h5) (by clear h3 hs h4 h5 h6;lia)⟩
def Yc(ht:Hb t)(h:Ft t k st)(hl:ws.length=t.k+1)(hw:∀w∈ws,1<=w/\w<=99)(hi:l<st.AA.length)(h1:1<=n)(h2:n<=(AK st.AA l).n):0<n*ws.getD (AK st.AA l).k 0/\n*ws.getD (AK st.AA l).k 0<C0 t st.AA ws:=by
 obtain⟨t1,t2,t3,t4,t5,t6⟩:=ht
 have hw1:=NQ hw (i:=(AK st.AA l).k) (by have:=h.kind _ (AS hi);lia)
 have hb:=NQ hw (i:=t.k) (by lia)
 have h4:(1:Int)<=t.b*ws.getD t.k 0:=by
  have:0<(t.b:Int)*ws.getD t.k 0:=xg (by lia) (by lia)
  lia
 have h5:=Oy (xs:=st.AA.map λl=>l.n*ws.getD l.k 0) (y:=(AK st.AA l).n*ws.getD (AK st.AA l).k 0) (by
  intro x hx
  obtain⟨y,hy,rfl⟩:=vq.mp hx
  have h1:=h.pcs y hy
  have h2:=NQ hw (i:=y.k) (by have:=h.kind y hy;lia)
  exact AC3 h1.1 (by lia)) (vq.mpr ⟨_,AS hi,rfl⟩)
 have h6:n*ws.getD (AK st.AA l).k 0<=(AK st.AA l).n*ws.getD (AK st.AA l).k 0:=AAx h2 (by lia)
 refine⟨xg (by lia) (by lia),?_⟩
 exact xJ (Int.le_trans h6 h5) (Int.lt_add_of_pos_right _ (y7 Int.zero_lt_one h4))
def Mw(hi:l<st.AA.length):Ka t st.AA l n ws=((n*ws.getD (AK st.AA l).k 0:Int):Rat) / (C0 t st.AA ws:Rat):=by
 unfold Ka
 rw[Fe hi]
 rfl
def Fz{x:Int}{j:Nat}(h0:0<=x)(h1:x<2^j):x.natAbs<2^j:=by
 have:((x.natAbs:Nat):Int)<((2^j:Nat):Int):=by
  rw[AC4 h0];push_cast;exact h1
 exact_mod_cast this
def WN(ht:Hb t)(h:Ft t k st)(hk:k<=20)(hl:ws.length=t.k+1)(hw:∀w∈ws,1<=w/\w<=99)(hi:l<st.AA.length)(h1:1<=n)(h2:n<=(AK st.AA l).n):Sz (145+k) (Ka t st.AA l n ws):=by
 have a:=Jg ht h hk hl hw
 have b:=Yc ht h hl hw hi h1 h2
 rw[Mw hi]
 exact NW a.1 (Fz (by lia) (by lia)) (Fz (by lia) a.2)
def eY{s r m:Nat}{as:Wp Nat}(hS:SAt S s r m as st)(ht:Hb t)(h:Ft t k st)(hk:k<=20)(hl:ws.length=t.k+1)(hw:∀w∈ws,1<=w/\w<=99)(hi:l<st.AA.length)(h1:1<=n)(h2:n<=(AK st.AA l).n):Jb [t.d,.ref r,(AN.thr l n ws).d] S=Gc (aD (Ka t st.AA l n ws),S):=by
 have a:=Jg ht h hk hl hw
 obtain⟨x,x1,x2,x3⟩:=hS.at hi
 have hlen:=h.len
 have e:=BH (gs:=[(r,as.map D.ref)]) (t:=tTp [tNm 1,tNm 2,tNm 3]) (f:=eOp (o2 Bq) [eV 2,eOp (o2 wIx) [eV 0,eV 1]]) (C:=[Gc (.tup (ws.map D.int))]) (m:=3) (e:=λz:Nat×Ld=>D.ref z.1) (g:=λz=>D.int (z.2.n*ws.getD z.2.k 0)) hS.guard (xs:=as.zip st.AA) (acc:=[]) (os:=[none,none,none]) rfl (va (show _<=24 by simp;lia) (AI (by decide))) (by
  intro z hz os ho
  obtain⟨q1,q2,q3,rfl⟩:=rL ho
  have c1:=hS.uh hz
  have hm:z.2∈st.AA:=(zg (a:=z.1) (b:=z.2) hz).2
  have hk:=h.kind _ hm
  have w1:=Ui (ws:=ws) (i:=z.2.k) (by lia)
  have w2:=NQ hw (i:=z.2.k) (by lia)
  have m1:DO z.2.n (ws.getD z.2.k 0)=true:=mulR (by lia) (by lia)
  generalize ws.getD z.2.k 0=wz at*
  refine⟨[Gc (.int z.2.k),Gc (.int z.2.n),Gc (shD z.2.ow)],rfl,?_,?_⟩
  .simp[AQ c1,CP]
  .simp[w1,m1])
 rw[<-ak hS.len,<-gD hS.len (λx=>D.int (x.n*ws.getD x.k 0))]at e
 have e':=e
 simp only[wg,v7]at e'
 rw[Mw hi]
 have es:Mg (st.AA.map λx=>D.int (x.n*ws.getD x.k 0))=Gc (st.AA.map λx=>x.n*ws.getD x.k 0):=by
  have:=HI (st.AA.map λx=>x.n*ws.getD x.k 0)
  rwa [wR]at this
 have w1:=Ui (ws:=ws) (i:=(AK st.AA l).k) (by have:=h.kind _ (AS hi);lia)
 have w3:=NQ hw (i:=(AK st.AA l).k) (by have:=h.kind _ (AS hi);lia)
 have w2:=Pd hl
 have w4:=NQ hw (i:=t.k) (by lia)
 have m1:DO n (ws.getD (AK st.AA l).k 0)=true:=mulR (by lia) (by lia)
 have m2:DO (t.b:Int) (ws.getD t.k 0)=true:=mulR (by lia) (by lia)
 have l1:=aQ (S:=S) (t:=n*ws.getD (AK st.AA l).k 0) a.1 (Cp (Fz (by lia) a.2) (by lia))
 have e2:C0 t st.AA ws=(st.AA.map λx=>x.n*ws.getD x.k 0).sum+t.b*ws.getD t.k 0:=rfl
 rw[e2]at l1⊢
 generalize aD (((n*ws.getD (AK st.AA l).k 0:Int):Rat) / (((st.AA.map λx=>x.n*ws.getD x.k 0).sum+t.b*ws.getD t.k 0:Int):Rat))=R at*
 generalize (st.AA.map λx=>x.n*ws.getD x.k 0)=es' at*
 generalize (st.AA.map λx=>D.int (x.n*ws.getD x.k 0))=es2 at*
 generalize ws.getD (AK st.AA l).k 0=wa at*
 generalize ws.getD t.k 0=wb at*
 have dx:=A1 x2
 have dl:=A1 hS.lo
 simp[Jb,PN,AN.d,Tr.d,IG hS.lo,e',es,w2,m2,dl,x3,dx,CP,w1,m1,l1]
def Qt{G B:Nat}(ht:Hb t)(h:Ft t k st)(hk:k<=20)(hl:ws.length=t.k+1)(hw:∀w∈ws,1<=w/\w<=99)(hi:l<st.AA.length)(h1:1<=n)(h2:n<=(AK st.AA l).n){os ss:Wp Rat}(ho:∀r∈os,Ok G B r)(hs:∀r∈ss,Ok G B r):∀r∈HK (Ka t st.AA l n ws) os ss,Ok (G*(C0 t st.AA ws).toNat) (B*(C0 t st.AA ws).toNat) r:=by
 have a:=Jg ht h hk hl hw
 have b:=Yc ht h hl hw hi h1 h2
 intro r hr
 unfold HK at hr
 rw[y8]at hr
 obtain⟨i,hi'⟩:=hr
 rw[zW]at hi'
 obtain⟨x,y,hx,hy,rfl⟩:=hi'
 rw[Mw hi]
 generalize n*ws.getD (AK st.AA l).k 0=c at*
 generalize C0 t st.AA ws=W at*
 have:=Ok.mix (a:=(W-c).toNat) (b:=c.toNat) (t:=W.toNat) (hs x (wH hx)) (ho y (wH hy)) (by rw[<-Int.toNat_add (Int.sub_nonneg_of_le (zd b.2)) (zd b.1),Int.sub_add_cancel]) (Int.pos_iff_toNat_pos.mp a.1)
 have e1:(((W-c).toNat:Nat):Rat)=(W:Rat)-(c:Rat):=by
  have:(((W-c).toNat:Nat):Int)=W-c:=wL (by lia)
  have:((((W-c).toNat:Nat):Int):Rat)=((W-c:Int):Rat):=by rw[this]
  push_cast at this
  exact this
 have e2:((c.toNat:Nat):Rat)=(c:Rat):=by
  have:((c.toNat:Nat):Int)=c:=wL (by lia)
  have:(((c.toNat:Nat):Int):Rat)=(c:Rat):=by rw[this]
  exact this
 have e3:((W.toNat:Nat):Rat)=(W:Rat):=by
  have:((W.toNat:Nat):Int)=W:=wL (by lia)
  have:(((W.toNat:Nat):Int):Rat)=(W:Rat):=by rw[this]
  exact this
 rw[e1,e2,e3]at this
 have ne:(W:Rat)≠0:=by
  intro z
  have:=yj.mp z
  lia
 have ev:(x*((W:Rat)-(c:Rat))+y*(c:Rat)) / (W:Rat)=x*(1-(c:Rat) / (W:Rat))+y*((c:Rat) / (W:Rat)):=by grind
 rw[ev]at this
 exact this
end
end
def fS(h:x8 x=true)(g:x8 y=true):KI (.str x) (.str y)=true:=by
 unfold KI
 show(x8 x && x8 y && _)=true
 rw[h,g]
 rfl
def iF(c:Char):c.toNat<1114112:=by
 have h:c.toNat.isValidChar:=c.valid
 rcases h with h|h
 .exact yN h (by decide)
 .exact h.2
def Tx:x8 (vY x)=true:=by
 unfold x8 vY
 simp
 intro c hc
 rw[cpsOfBytes_string]at hc
 obtain⟨ch,_,rfl⟩:=vq.mp hc
 exact iF ch
theorem SI:∀{a b:Wp Char},a.map Char.toNat=b.map Char.toNat->a=b
 | [],[],_=>rfl
 |x::a,y::b,h=>by
  rw[v5,v5]at h
  injection h with h1 h2
  rw[Char.toNat_inj.mp h1,SI h2]
 | [],_::_,h=>nomatch h
 |_::_,[],h=>nomatch h
def gA(h:vY x=vY y):x=y:=by
 rw[ACZ,ACZ]at h
 injection h with h
 exact String.toList_inj.mp (SI (by simpa using h))
@[simp] def vV(x y:String):KI (.str (Str.ofString x)) (.str (Str.ofString y))=true:=fS Tx Tx
@[simp] def vR(x y:String):deq (.str (Str.ofString x)) (.str (Str.ofString y))=decide (x=y):=by
  show(vY x==vY y)=_
  rw[AAU,AAV,xE]
  exact⟨gA,λz=>by rw[z]⟩
@[simp] def Zt:wIn false (.val (.str "bring")) (.val (.tup [.str "spoil",.str "throw"]))=some (.val (.bl false)):=rfl
@[simp] def se:wIn false (.val (.str "pool")) (.val EB)=some (.val (.bl true)):=rfl
@[simp] def gk:wIn false (.val (.str "swap")) (.val (.tup [.str "swap",.str "trade"]))=some (.val (.bl true)):=rfl
@[simp] def rY:wIn false (.val (.str "swap")) (.val EB)=some (.val (.bl true)):=rfl
@[simp] def c8:wIn false (.val (.str "trade")) (.val (.tup [.str "swap",.str "trade"]))=some (.val (.bl true)):=rfl
@[simp] def oW:wIn false (.val (.str "trade")) (.val EB)=some (.val (.bl true)):=rfl
@[simp] def dU:wIn false (.val (.str "spoil")) (.val (.tup [.str "swap",.str "trade"]))=some (.val (.bl false)):=rfl
@[simp] def aW:wIn false (.val (.str "spoil")) (.val (.tup [.str "spoil",.str "throw"]))=some (.val (.bl true)):=rfl
@[simp] def qN:wIn false (.val (.str "spoil")) (.val EB)=some (.val (.bl false)):=rfl
@[simp] def cX:wIn false (.val (.str "throw")) (.val (.tup [.str "swap",.str "trade"]))=some (.val (.bl false)):=rfl
@[simp] def bN:wIn false (.val (.str "throw")) (.val (.tup [.str "spoil",.str "throw"]))=some (.val (.bl true)):=rfl
@[simp] def qj:wIn false (.val (.str "throw")) (.val EB)=some (.val (.bl false)):=rfl
@[simp] def fH:wIn false (.val (.str "sell")) (.val (.tup [.str "swap",.str "trade"]))=some (.val (.bl false)):=rfl
@[simp] def cY:wIn false (.val (.str "sell")) (.val (.tup [.str "spoil",.str "throw"]))=some (.val (.bl false)):=rfl
@[simp] def rP:wIn false (.val (.str "sell")) (.val EB)=some (.val (.bl false)):=rfl
@[simp] def kY:dr S EB=.val EB:=rfl
section
variable{a b c d e f:D}
@[simp] def mh:MU [a,b,c,d,e] (some (-4)) none=[b,c,d,e]:=rfl
@[simp] def oF:MU [a,b,c,d,e,f] (some (-4)) none=[c,d,e,f]:=rfl
@[simp] def qU:MU [a,b,c,d] (some 1) none=[b,c,d]:=rfl
@[simp] def nT:MU [a,b,c,d,e] (some 1) (some 2)=[b]:=rfl
@[simp] def oI:MU [a,b,c,d,e,f] (some 1) (some 2)=[b]:=rfl
@[simp] def oN:mY S ds [.tup zs]=if ds.length+zs.length<=sizeLine then some (.non,ds++zs)else none:=rfl
end
theorem SAt.same(h:SAt S s l m as st)(g:B5 A S S')(hA:∀n∈A,n∉s::l::m::as):SAt S' s l m as st where
 root:=g.get h.root λz=>hA _ z (by simp)
 lo:=g.get h.lo λz=>hA _ z (by simp)
 nu:=g.get h.nu λz=>hA _ z (by simp)
 ld:=λi a x ha hx=>g.get (h.ld i a x ha hx) λz=>hA _ z (by simp[wH ha])
 len:=h.len
 nd:=h.nd
def SAt.Wj(h:SAt S s l m as st)(g:B5 [] S S'):SAt S' s l m as st:=h.same g λ_ z=>(nomatch z)
def SAt.ne(h:SAt S s l m as st):s≠l/\s≠m/\l≠m/\s∉as/\l∉as/\m∉as/\as.Nodup:=by
 have:=h.nd
 simp only[yl,ve,ACv]at this
 obtain⟨⟨a,b,c⟩,⟨d,e⟩,f,g⟩:=this
 exact⟨a,b,d,c,e,f,g⟩
def SAt.TJ(h:SAt S s l m as st)(ha:as[i]?=Gc a):SAt (S.set a (CP y)) s l m as {st with AA:=st.AA.set i y}:=by
 obtain⟨n1,n2,n3,n4,n5,n6,n7⟩:=h.ne
 have ma:=wH ha
 have q1:a≠s:=λe=>n4 (e▸ma)
 have q2:a≠l:=λe=>n5 (e▸ma)
 have q3:a≠m:=λe=>n6 (e▸ma)
 have hi:i<as.length:=(vt.mp ha).1
 have hi':i<st.AA.length:=by rw[<-h.len];exact hi
 refine⟨by rw[vj q1];exact h.root,by rw[vj q2];exact h.lo,by rw[vj q3];exact h.nu,?_,by simp[h.len],h.nd⟩
 intro j b x hb hx
 by_cases e:i=j
 .subst e
  rw[ha]at hb
  cases hb
  have hx':(st.AA.set i y)[i]?=Gc x:=hx
  rw[vx hi']at hx'
  cases hx'
  have hl:a<S.length:=Af (h.ld i a _ ha (vk hi'))
  exact vx hl
 .have hx':(st.AA.set i y)[j]?=Gc x:=hx
  rw[vj e]at hx'
  have:a≠b:=by
   intro z
   subst z
   exact e ((ABs hi n7).mp (ha.trans hb.symm))
  rw[vj this]
  exact h.ld j b x hb hx'
def SAt.lts(h:SAt S s l m as st):∀n∈s::l::m::as,n<S.length:=by
 intro n hn
 simp only[ve]at hn
 rcases hn with rfl|rfl|rfl|hn
 .exact Af h.root
 .exact Af h.lo
 .exact Af h.nu
 .obtain⟨i,hi⟩:=y8.mp hn
  have:i<st.AA.length:=by rw[<-h.len];exact(vt.mp hi).1
  exact Af (h.ld i n _ hi (vk this))
def SAt.app(h:SAt S s l m as st) y:SAt ((S++[CP y]).set l (.lst (as.map D.ref++[.ref S.length]))) s l m (as++[S.length]) {st with AA:=st.AA++[y]}:=by
 obtain⟨n1,n2,n3,n4,n5,n6,n7⟩:=h.ne
 have lt:=h.lts
 have ls:=lt s (by simp);have ll:=lt l (by simp);have lm:=lt m (by simp)
 have la:∀a∈as,a<S.length:=λa ha=>lt a (by simp[ha])
 refine⟨?_,?_,?_,?_,by simp[h.len],?_⟩
 .rw[vj (xv n1),vg ls];exact h.root
 .rw[vx (by simp;lia)];simp
 .rw[vj n3,vg lm];exact h.nu
 .intro i a x ha hx
  by_cases e:i<as.length
  .rw[vg e]at ha
   have hx':(st.AA++[y])[i]?=Gc x:=hx
   rw[vg (by rw[<-h.len];exact e)]at hx'
   have ma:=wH ha
   rw[vj (show l≠a by rintro rfl;exact n5 ma),vg (la a ma)]
   exact h.ld i a x ha hx'
  .have hx':(st.AA++[y])[i]?=Gc x:=hx
   have:i=as.length:=by
    have:=(vt.mp ha).1
    simp at this;lia
   subst this
   rw[wK]at ha
   cases ha
   rw[h.len,wK]at hx'
   cases hx'
   rw[vj (by lia),wK]
 .have:(s::l::m::(as++[S.length]))=(s::l::m::as)++[S.length]:=by simp
  rw[this,ABt]
  refine⟨h.nd,by simp,?_⟩
  intro a ha b hb e
  simp only[ve,vo,wW]at hb
  have:=lt a ha
  lia
def SAt.hold(h:SAt S s l m as st) rs:SAt (S.set s (.lst [.ref l,shD rs,.ref m])) s l m as {st with hold:=rs}:=by
 obtain⟨n1,n2,n3,n4,n5,n6,n7⟩:=h.ne
 refine⟨vx (h.lts s (by simp)),by rw[vj n1];exact h.lo,by rw[vj n2];exact h.nu,?_,h.len,h.nd⟩
 intro i a x ha hx
 rw[vj (show s≠a by rintro rfl;exact n4 (wH ha))]
 exact h.ld i a x ha hx
def SAt.nums(h:SAt S s l m as st) us:SAt (S.set m (.lst (us.map D.int))) s l m as {st with nums:=us}:=by
 obtain⟨n1,n2,n3,n4,n5,n6,n7⟩:=h.ne
 refine⟨by rw[vj (xv n2)];exact h.root,by rw[vj (xv n3)];exact h.lo,vx (h.lts m (by simp)),?_,h.len,h.nd⟩
 intro i a x ha hx
 rw[vj (show m≠a by rintro rfl;exact n6 (wH ha))]
 exact h.ld i a x ha hx
def RD{C:En}(h:SAt S s l m as st)(hi:C.length=i8)(hb:∀S' a x,x∈st.AA->S'[a]?=Gc (CP x)->∃S2,body (C++[Gc (.ref a)]) S'=Gc (.nx,C++[Gc (.ref a)],S2.set a (CP (f x)))/\B5 [] S' S2):∃o S',Mu [(l,as.map D.ref)] (tNm i8) body (as.map D.ref) (C++[o0]) S=Gc (.nx,C++[o],S')/\SAt S' s l m as {st with AA:=st.AA.map f}/\B5 as S S':=by
 obtain⟨E',S',e,i,o,i1,i2,rfl,i3,i4⟩:=Hx (gs:=[(l,as.map D.ref)]) (t:=tNm i8) (b:=body)
  (I:=λds E S'=>∃(i:Nat) (o:vi D),ds=(as.drop i).map D.ref/\i<=as.length/\E=C++[o]/\SAt S' s l m as {st with AA:=(st.AA.take i).map f++st.AA.drop i}/\B5 as S S')
  (λds E S' hI=>by obtain⟨i,o,_,_,_,h1,_⟩:=hI;exact h1.guard) (ds:=as.map D.ref) (E:=C++[o0]) (S:=S)
  ⟨0,o0,by simp,yB _,rfl,by simpa using h,.refl⟩ (by
    rintro d ds E S1 ⟨i,o,i1,i2,rfl,i3,i4⟩
    have hlt:i<as.length:=by
     rcases ACa i as.length with w|w
     .exact w
     .rw[yO w]at i1;cases i1
    rw[xi hlt,v5]at i1
    injection i1 with e1 e2
    subst e1 e2
    have hl2:i<st.AA.length:=by rw[<-h.len];exact hlt
    have ha:=vk hlt
    have hx:((st.AA.take i).map f++st.AA.drop i)[i]?=Gc st.AA[i]:=by
     rw[xB (by simp;lia)]
     simp[ACe (ye hl2)]
    obtain⟨S2,e3,g3⟩:=hb S1 as[i] st.AA[i] (AAG hl2) (i3.ld i _ _ ha hx)
    have k:=(i3.Wj g3).TJ (y:=f st.AA[i]) ha
    refine⟨C++[Gc (.ref as[i])],C++[Gc (.ref as[i])],S2.set as[i] (CP (f st.AA[i])),?_,e3,i+1,Gc (.ref as[i]),rfl,hlt,rfl,?_,?_⟩
    .rw[hV]
     congr 1
     subst hi
     rw[ACo _ _ (vf _)]
     simp
    .have:((st.AA.take i).map f++st.AA.drop i).set i (f st.AA[i])=(st.AA.take (i+1)).map f++st.AA.drop (i+1):=by
      rw[ACo _ _ (by simp;lia)]
      have e0:i-((st.AA.take i).map f).length=0:=by simp;lia
      rw[e0,xi hl2,ADb,List.take_succ_eq_append_getElem hl2,yT]
      simp
     rw[<-this]
     exact k
    .exact(i4.trans (g3.mono λ_ z=>(nomatch z))).trans (.set (AAG hlt)))
 refine⟨o,S',e,?_,i4⟩
 have hz:i=as.length:=by
  have:=congrArg zy i1
  simp at this
  lia
 have:(st.AA.take i).map f++st.AA.drop i=st.AA.map f:=by
  rw[hz,h.len];simp
 rw[this]at i3
 exact i3
section
variable{S S':Sto}{s l m:Nat}{as:Wp Nat}{st:Stt}{t:Tr}{k:Nat}
def gF{i:Nat}{n:Int}{j:Nat}(hi:i<st.AA.length)(h:∀x∈st.AA,∀r∈x.ow,Sz j r):∀x∈less st.AA i n,∀r∈x.ow,Sz j r:=by
 intro x hx
 rcases Kr hx hi with h1|h1
 .exact h x h1
 .rw[h1];exact h (AK st.AA i) (AS hi)
def XX{i:Nat}{n:Int}{j:Nat}(hi:i<st.AA.length)(h:∀x∈st.AA,x.ow.length=j):∀x∈less st.AA i n,x.ow.length=j:=by
 intro x hx
 rcases Kr hx hi with h1|h1
 .exact h x h1
 .rw[h1];exact h (AK st.AA i) (AS hi)
def aP(hS:SAt S s l m as st)(ht:Hb t)(h:Ft t k st)(hk:k<=16){i:Nat}{n:Int}{ws:Wp Int}(hc:Can t st (.thr i n ws)):∃S',Fw [t.d,.ref s,(AN.thr i n ws).d] S=Gc (.non,S')/\SAt S' s l m as (step t st (.thr i n ws))/\B5 (s::l::m::as) S S':=by
 obtain⟨hi,h1,h2,hl,hw⟩:=hc
 have cO:=eY hS ht h (by lia) hl hw hi h1 h2
 have cz:=WN ht h (by lia) hl hw hi h1 h2
 have sz:=h.sz
 obtain⟨a,a1,a2,a3⟩:=hS.at hi
 have hS1:=hS.TJ (y:=⟨(AK st.AA i).k,(AK st.AA i).n-n,(AK st.AA i).ow⟩) a1
 have o1:=sz.1 _ (AS hi)
 have tp:=ht.2.1
 have hdef:step t st (.thr i n ws)={st with AA:=(less st.AA i n).map λx=>{x with ow:=HK (Ka t st.AA i n ws) (AK st.AA i).ow x.ow},hold:=HK (Ka t st.AA i n ws) (AK st.AA i).ow st.hold}:=rfl
 rw[hdef]
 generalize hX:Ka t st.AA i n ws=X at*
 obtain⟨o,S2,f1,f2,f3⟩:=RD (f:=λx=>{x with ow:=HK X (AK st.AA i).ow x.ow}) (body:=PJ (AB Ej [eOp (o2 wIx) [eV 8,eC (.int 2)],eV 6,eV 7]) (eV 8) (eC (.int 2))) (C:=[Gc t.d,Gc (.ref s),Gc (AN.thr i n ws).d,Gc (.ref l),Gc (shD st.hold),Gc (.ref m),Gc (aD X),Gc (shD (AK st.AA i).ow)]) (i8:=8) (o0:=none) hS1 rfl (by
  intro S' b x hx hb
  obtain⟨S2,e2,g2⟩:=T6 (S:=S') (x:=X) (ss:=x.ow) (os:=(AK st.AA i).ow) (j:=30+170*k) (i:=145+k) (gF (n:=n) hi sz.1 x hx) o1 cz (by lia) (by rw[XX (n:=n) hi h.own x hx];lia)
  have hb2:=g2.get hb (by simp)
  refine⟨S2,?_,g2⟩
  simp[A1 hb,CP,e2,AQ hb2])
 obtain⟨S3,e3,g3⟩:=T6 (S:=S2) (x:=X) (ss:=st.hold) (os:=(AK st.AA i).ow) (j:=30+170*k) (i:=145+k) sz.2 o1 cz (by lia) (by rw[h.hold];lia)
 have f4:=(f2.Wj g3)
 have rt:=f4.root
 refine⟨S3.set s (.lst [.ref l,shD (HK X (AK st.AA i).ow st.hold),.ref m]),?_,f4.hold _,?_⟩
 .have f1':=f1
  simp only[wg,v7]at f1'
  have rt':FK S3 s=Gc [.ref l,shD st.hold,.ref m]:=AQ rt
  have r0:=AQ hS.root
  have lo:=A1 hS.lo
  have xx:=A1 a2
  have c2:=AQ a2
  have sq1:=IG hS1.lo
  simp only[CP]at f1' sq1 c2 xx
  simp only[AN.d]at f1' cO⊢
  simp[Fw,La,r0,cO,lo,a3,xx,c2,sq1,f1',e3,rt']
 .have q1:B5 (s::l::m::as) S (S.set a (CP ⟨(AK st.AA i).k,(AK st.AA i).n-n,(AK st.AA i).ow⟩)):=.set (by simp[wH a1])
  exact((q1.trans (f3.mono λn hn=>by simp[hn])).trans (g3.mono λ_ z=>(nomatch z))).trans (.set (by simp))
def We(hS:SAt S s l m as st)(ht:Hb t)(h:Ft t k st)(hk:k<=16){p q:Nat}{x:Rat}(hc:Can t st (.Et p q x)):∃S',Fw [t.d,.ref s,(AN.Et p q x).d] S=Gc (.non,S')/\SAt S' s l m as (step t st (.Et p q x))/\B5 (s::l::m::as) S S':=by
 obtain⟨hpq,hp,hq,x1,x2,x3⟩:=hc
 have sz:=h.sz
 have hx:Sz 4 x:=by
  refine⟨?_,by lia⟩
  show x.num.natAbs<16
  lia
 have hdef:step t st (.Et p q x)={st with AA:=st.AA.map λy=>{y with ow:=FU p q x y.ow},hold:=FU p q x st.hold}:=rfl
 rw[hdef]
 obtain⟨o,S2,f1,f2,f3⟩:=RD (f:=λy=>{y with ow:=FU p q x y.ow}) (body:=PJ (AB Fx [eOp (o2 wIx) [eV 8,eC (.int 2)],eV 2]) (eV 8) (eC (.int 2))) (C:=[Gc t.d,Gc (.ref s),Gc (AN.Et p q x).d,Gc (.ref l),Gc (shD st.hold),Gc (.ref m),none,none]) (i8:=8) (o0:=none) hS rfl (by
  intro S' b y hy hb
  obtain⟨S2,e2,g2⟩:=X0 (S:=S') (p:=p) (q:=q) (x:=x) (ss:=y.ow) (j:=30+170*k) (i:=4) (sz.1 y hy) hx (by lia) (by rw[h.own y hy];exact hp) (by rw[h.own y hy];exact hq) hpq
  have hb2:=g2.get hb (by simp)
  refine⟨S2,?_,g2⟩
  simp[A1 hb,CP,e2,AQ hb2])
 obtain⟨S3,e3,g3⟩:=X0 (S:=S2) (p:=p) (q:=q) (x:=x) (ss:=st.hold) (j:=30+170*k) (i:=4) sz.2 hx (by lia) (by rw[h.hold];exact hp) (by rw[h.hold];exact hq) hpq
 have f4:=(f2.Wj g3)
 have rt:=f4.root
 refine⟨S3.set s (.lst [.ref l,shD (FU p q x st.hold),.ref m]),?_,f4.hold _,?_⟩
 .have f1':=f1
  simp only[wg,v7]at f1'
  have rt':FK S3 s=Gc [.ref l,shD st.hold,.ref m]:=AQ rt
  have r0:=AQ hS.root
  have sq1:=IG hS.lo
  simp only[AN.d]at f1' e3⊢
  simp[Fw,La,r0,sq1,f1',e3,rt']
 .exact((f3.mono λn hn=>by simp[hn]).trans (g3.mono λ_ z=>(nomatch z))).trans (.set (by simp))
end
section
variable{S S':Sto}{s l m:Nat}{as:Wp Nat}{st:Stt}{t:Tr}{k:Nat}
theorem Tt{ls:Wp Ld}{l:Nat}{n:Int}:less ls l n=ls.set l ⟨(AK ls l).k,(AK ls l).n-n,(AK ls l).ow⟩:=rfl
def U0{P p:Nat}{cond:Int}{C:En}{dd:D}{f:Ev}(hP:P<=50)(hf:∀(i:Nat),f [Gc dd,Gc (.int i)] S=Gc (aD (if i=p then 1 else 0),S)):Bk [] (tNm 1) Ai f (OX 0 P) [] [Gc dd,none] S=Gc ((Sw P p).map aD,S):=by
 have:=BH (gs:=[]) (t:=tNm 1) (f:=f) (C:=[Gc dd]) (m:=1) (e:=λi:Nat=>D.int (0+(i:Int))) (g:=λi=>aD (if i=p then 1 else 0)) (S:=S) AO (xs:=xI P) (acc:=[]) (os:=[none]) rfl (va (show _<=50 by simp;lia) (AI (by decide))) (by
  intro i _ os ho
  obtain⟨o,rfl⟩:=J3 ho
  refine⟨[Gc (.int i)],rfl,by simp,hf i⟩)
 simp only[wg,v7]at this
 rw[Sw,wR]
 exact this
inductive DoB(t:Tr)(S:Sto)(s l m:Nat)(as:Wp Nat)(st:Stt)(d:AN):Prop
 |mk (S':Sto) (as':Wp Nat) (e:EW [t.d,.ref s,d.d] S=Gc (.non,S')) (h:SAt S' s l m as' (step t st d)) (g:B5 (s::l::m::as) S S') (f:∀n∈as',n∈as\/S.length<=n)
def av(hS:SAt S s l m as st)(ht:Hb t)(h:Ft t k st)(hk:k<=16){p kd:Nat}{n:Int}(hc:Can t st (.DX p kd n)):DoB t S s l m as st (.DX p kd n):=by
 have tp:=ht.2.1
 have e:=U0 (S:=S) (P:=t.p) (p:=p) (cond:=0) (C:=[]) (dd:=(AN.DX p kd n).d) (f:=Bh [eOp (o1 eZ) [eOp (o2 wEq) [eV 1,eOp (o2 wIx) [eV 0,eC (.int 1)]]],eC (.int 1)]) (by lia) (by
  intro i
  by_cases hi:i=p
  .subst hi;simp[AN.d];rfl
  .have:((i:Int)==(p:Int))=false:=by simp;lia
   simp[AN.d,this,hi];rfl)
 have rn:Lg (t.p:Int)=true:=Fp (by lia) (by lia)
 have hz:as.length<sizeLine:=vd (show as.length<50 by rw[hS.len];have:=h.len;lia) (AI (by decide))
 refine⟨_,_,?_,hS.app ⟨kd,n,Sw t.p p⟩,?_,?_⟩
 .have r0:=AQ hS.root
  have c0:=AQ hS.lo
  have c1:FK (S++[CP ⟨kd,n,Sw t.p p⟩]) l=Gc (as.map D.ref):=AQ (by rw[vg (Af hS.lo)];exact hS.lo)
  simp only[CP]at c1⊢
  simp only[AN.d]at e⊢
  simp[EW,Ge,r0,Tr.d,rn,e,c0,shD]at c1⊢
  simp[c1,hz]
 .exact B5.app.trans (.set (by simp))
 .intro n hn
  rcases wF.mp hn with w|w
  .exact .inl w
  .simp at w;exact .inr (by lia)
def aM(hS:SAt S s l m as st)(ht:Hb t)(h:Ft t k st)(hk:k<=16){i:Nat}{n:Int}(hc:Can t st (.Dq i n)):DoB t S s l m as st (.Dq i n):=by
 obtain⟨hi,h1,h2⟩:=hc
 obtain⟨a,a1,a2,a3⟩:=hS.at hi
 refine⟨_,as,?_,hS.TJ (y:=⟨(AK st.AA i).k,(AK st.AA i).n-n,(AK st.AA i).ow⟩) a1,.set (by simp[wH a1]),λn hn=>.inl hn⟩
 have r0:=AQ hS.root
 have lo:=A1 hS.lo
 have xx:=A1 a2
 have c2:=AQ a2
 simp only[CP]at c2 xx⊢
 simp[EW,Ge,AN.d,r0,lo,a3,xx,c2]
def kK(hS:SAt S s l m as st)(ht:Hb t)(h:Ft t k st)(hk:k<=16){i:Nat}{n:Int}{ws:Wp Int}(hc:Can t st (.thr i n ws)):DoB t S s l m as st (.thr i n ws):=by
 obtain⟨S',e,g1,g2⟩:=aP hS ht h hk hc
 refine⟨S',as,?_,g1,g2,λn hn=>.inl hn⟩
 have r0:=AQ hS.root
 simp only[AN.d]at e⊢
 simp[EW,Ge,r0,e]
def gI(hS:SAt S s l m as st)(ht:Hb t)(h:Ft t k st)(hk:k<=16){p q:Nat}{x:Rat}(hc:Can t st (.Et p q x)):DoB t S s l m as st (.Et p q x):=by
 obtain⟨S',e,g1,g2⟩:=We hS ht h hk hc
 refine⟨S',as,?_,g1,g2,λn hn=>.inl hn⟩
 have r0:=AQ hS.root
 simp only[AN.d]at e⊢
 simp[EW,Ge,r0,e]
def fL(hS:SAt S s l m as st)(ht:Hb t)(h:Ft t k st)(hk:k<=16){i kd:Nat}{g n:Int}(hc:Can t st (.swap i g kd n)):DoB t S s l m as st (.swap i g kd n):=by
 obtain⟨hi,h1,h2,h3,h4,h5,h6⟩:=hc
 obtain⟨a,a1,a2,a3⟩:=hS.at hi
 have hS1:=hS.TJ (y:=⟨(AK st.AA i).k,(AK st.AA i).n-g,(AK st.AA i).ow⟩) a1
 have hS2:=hS1.app ⟨kd,n,(AK st.AA i).ow⟩
 have hz:as.length<sizeLine:=vd (show as.length<50 by rw[hS.len];have:=h.len;lia) (AI (by decide))
 have hz2:st.nums.length<=sizeLine:=va (show _<=20 by have:=h.nm;lia) (AI (by decide))
 refine⟨_,_,?_,hS2,?_,?_⟩
 .have r0:=AQ hS.root
  have lo:=A1 hS.lo
  have xx:=A1 a2
  have c2:=AQ a2
  have lo1:=A1 hS1.lo
  have co1:=AQ hS1.lo
  have x1:=A1 (vx (a:=CP ⟨(AK st.AA i).k,(AK st.AA i).n-g,(AK st.AA i).ow⟩) (Af a2))
  have c4:FK ((S.set a (CP ⟨(AK st.AA i).k,(AK st.AA i).n-g,(AK st.AA i).ow⟩))++[CP ⟨kd,n,(AK st.AA i).ow⟩]) l=Gc (as.map D.ref):=AQ (by rw[vg (Af hS1.lo)];exact hS1.lo)
  have nu:=hS2.nu
  have c5:=AQ nu
  have st5:∀{T:Sto},T[m]?=Gc (.lst (st.nums.map D.int))->T.set m (.lst (st.nums.map D.int))=T:=λh=>set_same h
  have st6:=st5 nu
  simp only[CP]at c2 xx lo1 co1 x1 c4 c5 st6⊢
  have hz':(as.map D.ref).length<sizeLine:=by simpa using hz
  generalize (as.map D.ref)=refs at*
  simp[EW,Ge,AN.d,r0,lo,a3,xx,c2,lo1,x1,co1]at c4 c5 st6⊢
  simp[c4,hz',c5,hz2,st6]
 .exact((B5.set (by simp[wH a1])).trans .app).trans (.set (by simp))
 .intro n hn
  rcases wF.mp hn with w|w
  .exact .inl w
  .simp at w;exact .inr (by lia)
def az(hS:SAt S s l m as st)(ht:Hb t)(h:Ft t k st)(hk:k<=16){i kd:Nat}{u g n:Int}(hc:Can t st (.Cm u i g kd n)):DoB t S s l m as st (.Cm u i g kd n):=by
 obtain⟨hi,h1,h2,h3,h4,h5,h6,h7,h8⟩:=hc
 obtain⟨a,a1,a2,a3⟩:=hS.at hi
 have hS1:=hS.TJ (y:=⟨(AK st.AA i).k,(AK st.AA i).n-g,(AK st.AA i).ow⟩) a1
 have hS2:=hS1.app ⟨kd,n,(AK st.AA i).ow⟩
 have hz:as.length<sizeLine:=vd (show as.length<50 by rw[hS.len];have:=h.len;lia) (AI (by decide))
 have hz2:st.nums.length+1<=sizeLine:=va (show _<=20 by have:=h.nm;lia) (AI (by decide))
 refine⟨_,_,?_,hS2.nums (st.nums++[u]),?_,?_⟩
 .have r0:=AQ hS.root
  have lo:=A1 hS.lo
  have xx:=A1 a2
  have c2:=AQ a2
  have lo1:=A1 hS1.lo
  have co1:=AQ hS1.lo
  have x1:=A1 (vx (a:=CP ⟨(AK st.AA i).k,(AK st.AA i).n-g,(AK st.AA i).ow⟩) (Af a2))
  have c4:FK ((S.set a (CP ⟨(AK st.AA i).k,(AK st.AA i).n-g,(AK st.AA i).ow⟩))++[CP ⟨kd,n,(AK st.AA i).ow⟩]) l=Gc (as.map D.ref):=AQ (by rw[vg (Af hS1.lo)];exact hS1.lo)
  have nu:=hS2.nu
  have c5:=AQ nu
  simp only[CP]at c2 xx lo1 co1 x1 c4 c5⊢
  have hz':(as.map D.ref).length<sizeLine:=by simpa using hz
  generalize (as.map D.ref)=refs at*
  simp[EW,Ge,AN.d,r0,lo,a3,xx,c2,lo1,x1,co1]at c4 c5⊢
  simp[c4,hz',c5,hz2]
 .exact(((B5.set (by simp[wH a1])).trans .app).trans (.set (by simp))).trans (.set (by simp))
 .intro n hn
  rcases wF.mp hn with w|w
  .exact .inl w
  .simp at w;exact .inr (by lia)
def eJ(hS:SAt S s l m as st)(ht:Hb t)(h:Ft t k st)(hk:k<=16){i j:Nat}(hc:Can t st (.Ig i j)):DoB t S s l m as st (.Ig i j):=by
 obtain⟨hij,hi,hj,h1,h2,h3⟩:=hc
 obtain⟨a,a1,a2,a3⟩:=hS.at hi
 obtain⟨b,b1,b2,b3⟩:=hS.at hj
 have sz:=h.sz
 have pi:=h.pcs _ (AS hi)
 have pj:=h.pcs _ (AS hj)
 obtain⟨S1,e1,g1⟩:=Wb (S:=S) (x:=AK st.AA i) (y:=AK st.AA j) (j:=30+170*k) (i:=131+k) a2 b2 (sz.1 _ (AS hi)) (sz.1 _ (AS hj)) (Fz pi.1 pi.2) (Fz pj.1 pj.2) (by lia) (by lia) (by lia) (by rw[h.own _ (AS hi)];have:=ht.2.1;lia)
 have hS1:=hS.Wj g1
 have hab:a≠b:=by
  rintro rfl
  exact hij ((ABs (vt.mp a1).1 hS.ne.2.2.2.2.2.2).mp (a1.trans b1.symm))
 have hS2:=hS1.app ⟨(AK st.AA i).k,(AK st.AA i).n+(AK st.AA j).n,B8 (AK st.AA i).n (AK st.AA j).n (AK st.AA i).ow (AK st.AA j).ow⟩
 have ai:i<as.length:=(vt.mp a1).1
 have bj:j<as.length:=(vt.mp b1).1
 have a1':(as++[S1.length])[i]?=Gc a:=by rw[vg ai];exact a1
 have b1':(as++[S1.length])[j]?=Gc b:=by rw[vg bj];exact b1
 have hS3:=hS2.TJ (y:=⟨(AK st.AA i).k,0,(AK st.AA i).ow⟩) a1'
 have hS4:=hS3.TJ (y:=⟨(AK st.AA j).k,0,(AK st.AA j).ow⟩) b1'
 have hz:as.length<sizeLine:=vd (show as.length<50 by rw[hS.len];have:=h.len;lia) (AI (by decide))
 have est:step t st (.Ig i j)={st with AA:=((st.AA++[Ld.mk (AK st.AA i).k ((AK st.AA i).n+(AK st.AA j).n) (B8 (AK st.AA i).n (AK st.AA j).n (AK st.AA i).ow (AK st.AA j).ow)]).set i ⟨(AK st.AA i).k,0,(AK st.AA i).ow⟩).set j ⟨(AK st.AA j).k,0,(AK st.AA j).ow⟩}:=by
  have e0:AK (less st.AA i (AK st.AA i).n) j=AK st.AA j:=by
   unfold AK less
   rw[v8,vj hij,<-v8]
  have e1:less st.AA i (AK st.AA i).n=st.AA.set i ⟨(AK st.AA i).k,0,(AK st.AA i).ow⟩:=by
   unfold less
   rw[ACL]
  have e2:less (less st.AA i (AK st.AA i).n) j (AK st.AA j).n=(st.AA.set i ⟨(AK st.AA i).k,0,(AK st.AA i).ow⟩).set j ⟨(AK st.AA j).k,0,(AK st.AA j).ow⟩:=by
   rw[Tt (ls:=less st.AA i (AK st.AA i).n),e0,ACL,e1]
  show{st with AA:=less (less st.AA i (AK st.AA i).n) j (AK st.AA j).n++_}=_
  rw[e2,AC5 _ _ hi,AC5 _ _ (by simpa using hj)]
 refine⟨_,_,?_,est▸hS4,?_,?_⟩
 .have r0:=AQ hS.root
  have lo:=A1 hS.lo
  have c0:=AQ hS.lo
  have xa:=A1 a2
  have xb:=A1 b2
  have c1:=AQ hS1.lo
  have c4:FK (S1++[CP ⟨(AK st.AA i).k,(AK st.AA i).n+(AK st.AA j).n,B8 (AK st.AA i).n (AK st.AA j).n (AK st.AA i).ow (AK st.AA j).ow⟩]) l=Gc (as.map D.ref):=AQ (by rw[vg (Af hS1.lo)];exact hS1.lo)
  have c5:=AQ (hS2.ld i a (AK st.AA i) a1' (by show(st.AA++_)[i]?=_;rw[vg hi];exact Fe hi))
  have c6:=AQ (hS3.ld j b (AK st.AA j) b1' (by show((st.AA++_).set i _)[j]?=_;rw[vj hij,vg hj];exact Fe hj))
  simp only[CP]at xa xb c4 c5 c6⊢
  have hz':(as.map D.ref).length<sizeLine:=by simpa using hz
  generalize (as.map D.ref)=refs at*
  generalize B8 (AK st.AA i).n (AK st.AA j).n (AK st.AA i).ow (AK st.AA j).ow=pr at*
  simp[EW,Ge,AN.d,r0,lo,a3,b3,xa,xb,c0,e1]at c4 c5 c6⊢
  simp[c4,hz',c5,c6]
 .exact(((g1.mono λ_ z=>(nomatch z)).trans .app).trans (.set (by simp))).trans ((B5.set (by simp[wH a1])).trans (.set (by simp[wH b1])))
 .intro n hn
  rcases wF.mp hn with w|w
  .exact .inl w
  .simp at w;subst w;exact .inr g1.len
def pE(hS:SAt S s l m as st)(ht:Hb t)(h:Ft t k st)(hk:k<=16){d:AN}(hc:Can t st d):DoB t S s l m as st d:=by
 cases d with
 |DX=>exact av hS ht h hk hc
 |Ig=>exact eJ hS ht h hk hc
 |swap=>exact fL hS ht h hk hc
 |Cm=>exact az hS ht h hk hc
 |Dq=>exact aM hS ht h hk hc
 |thr=>exact kK hS ht h hk hc
 |Et=>exact gI hS ht h hk hc
end
section
variable{st:Stt}{t:Tr}{k:Nat}
def Bn{a b:Nat}(h:a<=b):2^a<=2^b:=wQ (by decide) h
def N7{a b:Nat}(h:a<=b):(2:Int)^a<=2^b:=by
 have:=Bn h
 exact_mod_cast this
def GA{c:Int}(h:0<=c):((c.toNat:Nat):Rat)=(c:Rat):=by
 have:((c.toNat:Nat):Int)=c:=wL h
 have:(((c.toNat:Nat):Int):Rat)=(c:Rat):=by rw[this]
 exact this
def PB{B T k j:Nat}(hB:B<2^(30+170*k))(hT:T<2^j)(hj:j<=170):B*T<2^(30+170*(k+1)):=by
 have:=Bg hB hT
 exact vd this (Bn (by lia))
def cI{G B P p:Nat}(h:G<=B):∀r∈Sw P p,Ok G B r:=by
 intro r hr
 obtain⟨i,_,rfl⟩:=vq.mp hr
 split
 .exact Ok.one h
 .exact Ok.zero
def RN{G B:Nat}{n m:Int}{ss os:Wp Rat}(hn:0<n)(hm:0<m)(hs:∀r∈ss,Ok G B r)(ho:∀r∈os,Ok G B r):∀r∈B8 n m ss os,Ok (G*(n+m).toNat) (B*(n+m).toNat) r:=by
 intro r hr
 unfold B8 at hr
 rw[y8]at hr
 obtain⟨i,hi'⟩:=hr
 rw[zW]at hi'
 obtain⟨x,y,hx,hy,rfl⟩:=hi'
 have:=Ok.mix (a:=n.toNat) (b:=m.toNat) (t:=(n+m).toNat) (hs x (wH hx)) (ho y (wH hy)) (by lia) (by lia)
 rwa [GA (by lia),GA (by lia),GA (by lia)]at this
def QT{G B p q:Nat}{x:Rat}{ss:Wp Rat}(hp:p<ss.length)(hq:q<ss.length)(x1:0<x.num)(x2:x.num<=x.den)(hs:∀r∈ss,Ok G B r):∀r∈FU p q x ss,Ok (G*x.den) (2*B*x.den) r:=by
 have dp:=x.den_pos
 have hsp:=hs _ (getD_mem (d:=0) hp)
 have hsq:=hs _ (getD_mem (d:=0) hq)
 have xs:=C5 x
 have ex:(x.num:Rat)=((x.num.toNat:Nat):Rat):=(GA (by lia)).symm
 have nz:=IY x
 intro r hr
 unfold FU at hr
 rcases zA hr with hr|hr
 .rcases zA hr with hr|hr
  .exact(hs r hr).up (by rw[xY];lia)
  .rw[hr]
   obtain⟨z,e,hz⟩:=Ok.mix (a:=x.den-x.num.toNat) (b:=x.num.toNat) (t:=x.den) hsp (Ok.zero (G:=G) (B:=B)) (by lia) dp
   refine⟨z,?_,va hz (by rw[xY];lia)⟩
   rw[<-e]
   have e2:((x.den-x.num.toNat:Nat):Rat)=(x.den:Rat)-(x.num:Rat):=by
    have:(((x.den-x.num.toNat:Nat):Int):Rat)=((x.den-x.num:Int):Rat):=by
     congr 1;rw[Int.natCast_sub (Int.toNat_le.mpr x2),wL (zd x1)]
    push_cast at this
    exact this
   rw[e2]
   generalize ss.getD p 0=sp at*
   congr 1
   grind
 .rw[hr]
  obtain⟨z,e1,hz⟩:=hsp
  obtain⟨y,e2,hy⟩:=hsq
  refine⟨y*x.den+z*x.num.toNat,?_,?_⟩
  .generalize ss.getD p 0=sp at*
   generalize ss.getD q 0=sq at*
   push_cast
   rw[<-ex,<-e1,<-e2]
   grind
  .have h1:y*x.den<=B*x.den:=wC _ hy
   have h2:z*x.num.toNat<=B*x.den:=y4 hz (by lia)
   rw[xY];lia
def Ct{f:Rat->Rat->Rat}{a b:Wp Rat}{n:Nat}(h:a.length=n)(g:b.length=n):(AAk f a b).length=n:=by rw[List.length_zipWith,h,g];lia
def Dk{P:Ld->Prop}{i:Nat}{n:Int}(hi:i<st.AA.length)(h:∀x∈st.AA,P x)(g:P ⟨(AK st.AA i).k,(AK st.AA i).n-n,(AK st.AA i).ow⟩):∀x∈less st.AA i n,P x:=by
 intro x hx
 rcases Kr hx hi with h1|h1
 .exact h x h1
 .rw[h1];exact g
def JU{P:Ld->Prop}{ls:Wp Ld}{y:Ld}(h:∀x∈ls,P x)(g:P y):∀x∈ls++[y],P x:=by
 intro x hx
 rcases wF.mp hx with w|w
 .exact h x w
 .simp at w;rw[w];exact g
structure LOk(t:Tr)(k G B:Nat)(x:Ld):Prop where
 kd:x.k<t.k
 n0:0<=x.n
 n1:x.n<2^(131+k)
 own:x.ow.length=t.p
 ok:∀r∈x.ow,Ok G B r
def LOk.up{G B T B':Nat}{x:Ld}(h:LOk t k G B x)(hT:B*T<=B'):LOk t (k+1) (G*T) B' x:=⟨h.kd,h.n0,y7 h.n1 (N7 (by lia)),h.own,λr hr=>(h.ok r hr).up hT⟩
def LOk.up1{G B:Nat}{x:Ld}(h:LOk t k G B x):LOk t (k+1) G B x:=⟨h.kd,h.n0,y7 h.n1 (N7 (by lia)),h.own,h.ok⟩
def LOk.less{G B:Nat}{x:Ld}{n:Int}(h:LOk t k G B x)(h0:0<=n)(h1:n<=x.n):LOk t k G B ⟨x.k,x.n-n,x.ow⟩:=⟨h.kd,show 0<=x.n-n by lia,show x.n-n<_ by have:=h.n1;lia,h.own,h.ok⟩
structure SIG(t:Tr)(k G B:Nat)(st:Stt):Prop where
 of::
 len:st.AA.length<=4+k
 lok:∀x∈st.AA,LOk t k G B x
 hold:st.hold.length=t.p
 nm:st.nums.length<=k
 g0:0<G
 gb:G<=B
 bb:B<2^(30+170*k)
 hok:∀r∈st.hold,Ok G B r
def SIG.inv{G B:Nat}(h:SIG t k G B st):Ft t k st:=⟨h.len,λx hx=>(h.lok x hx).kd,λx hx=>⟨(h.lok x hx).n0,(h.lok x hx).n1⟩,λx hx=>(h.lok x hx).own,h.hold,h.nm,G,B,h.g0,h.gb,h.bb,λx hx=>(h.lok x hx).ok,h.hok⟩
def Ft.sig(h:Ft t k st):∃G B,SIG t k G B st:=by
 obtain⟨G,B,g0,g1,g2,hl,hh⟩:=h.gb
 exact⟨G,B,h.len,λx hx=>⟨h.kind x hx,(h.pcs x hx).1,(h.pcs x hx).2,h.own x hx,hl x hx⟩,h.hold,h.nm,g0,g1,g2,hh⟩
def Ft.of{G B:Nat}(h1:st.AA.length<=4+k)(h2:∀x∈st.AA,LOk t k G B x)(h3:st.hold.length=t.p)(h4:st.nums.length<=k)(g0:0<G)(g1:G<=B)(g2:B<2^(30+170*k))(h5:∀r∈st.hold,Ok G B r):Ft t k st:=⟨h1,λx hx=>(h2 x hx).kd,λx hx=>⟨(h2 x hx).n0,(h2 x hx).n1⟩,λx hx=>(h2 x hx).own,h3,h4,G,B,g0,g1,g2,λx hx=>(h2 x hx).ok,h5⟩
def Ze{n:Int}(h:n<2^131):n<2^(131+k):=y7 h (N7 (by lia))
def U6{G B:Nat}(ht:Hb t)(hs:SIG t k G B st)(hk:k<=16){d:AN}(hc:Can t st d):∃T G' B',G'=G*T/\0<T/\B*T<=B'/\B'<=B*2^161/\SIG t (k+1) G' B' (step t st d):=by
 obtain⟨_,L,_,_,g0,g1,g2,hh⟩:=id hs
 have h:=hs.inv
 have g2':B<2^(30+170*(k+1)):=vd g2 (Bn (by lia))
 have hlen:=h.len
 have hnm:=h.nm
 cases d with
 |DX p kd n=>
  obtain⟨h1,h2,h3,h4⟩:=hc
  refine⟨1,G,B,(xF _).symm,by decide,by rw[xF];exact vf _,xV _ (by decide),?_⟩
  refine SIG.of (by simp[step];lia) (JU (λx hx=>(L x hx).up1) ⟨h2,by show 0<=n;lia,Ze h4,by simp[Sw],cI g1⟩) h.hold (xG hnm) g0 g1 g2' hh
 |Ig i j=>
  obtain⟨hij,hi,hj,h1,h2,h3⟩:=hc
  have li:=L _ (AS hi)
  have lj:=L _ (AS hj)
  have tl:((AK st.AA i).n+(AK st.AA j).n).toNat<2^(132+k):=by
   have a:=li.n1;have b:=lj.n1
   have e:(2:Int)^(132+k)=2^(131+k)*2:=by rw[show 132+k=(131+k)+1 by lia,ACb]
   have:(((AK st.AA i).n+(AK st.AA j).n).toNat:Int)<((2^(132+k):Nat):Int):=by
    rw[wL (by lia)]
    push_cast
    rw[e];lia
   exact_mod_cast this
  have t0:0<((AK st.AA i).n+(AK st.AA j).n).toNat:=by lia
  refine⟨((AK st.AA i).n+(AK st.AA j).n).toNat,G*((AK st.AA i).n+(AK st.AA j).n).toNat,B*((AK st.AA i).n+(AK st.AA j).n).toNat,rfl,t0,vf _,xt _ (ye (vd tl (Bn (by lia)))),?_⟩
  refine SIG.of (by simp[step,Bp];lia) (JU ?_ ⟨li.kd,by show 0<=(AK st.AA i).n+(AK st.AA j).n;lia,?_,?_,RN h1 h2 li.ok lj.ok⟩) h.hold (xG hnm) (yU g0 t0) (wC _ g1) (PB g2 tl (by lia)) (λr hr=>(hh r hr).up (vf _))
  .have e0:AK (less st.AA i (AK st.AA i).n) j=AK st.AA j:=by
    unfold AK less
    rw[v8,vj hij,<-v8]
   have A:=Dk (P:=LOk t (k+1) (G*((AK st.AA i).n+(AK st.AA j).n).toNat) (B*((AK st.AA i).n+(AK st.AA j).n).toNat)) (n:=(AK st.AA i).n) hi (λx hx=>(L x hx).up (vf _)) ((li.up (vf _)).less (by lia) (AC6 _))
   have A2:=Dk (st:={st with AA:=less st.AA i (AK st.AA i).n}) (i:=j) (n:=(AK st.AA j).n) (by simpa[Bp]using hj) A (by
    show LOk _ _ _ _ ⟨(AK (less st.AA i (AK st.AA i).n) j).k,(AK (less st.AA i (AK st.AA i).n) j).n-_,(AK (less st.AA i (AK st.AA i).n) j).ow⟩
    rw[e0]
    exact(lj.up (vf _)).less (by lia) (AC6 _))
   exact A2
  .show(AK st.AA i).n+(AK st.AA j).n<2^(131+(k+1))
   have a:=li.n1;have b:=lj.n1
   rw[show 131+(k+1)=(131+k)+1 by lia,ACb];lia
  .exact Ct li.own lj.own
 |swap i g kd n=>
  obtain⟨hi,h1,h2,h3,h4,h5,h6⟩:=hc
  have li:=L _ (AS hi)
  refine⟨1,G,B,(xF _).symm,by decide,by rw[xF];exact vf _,xV _ (by decide),?_⟩
  refine SIG.of (by simp[step,Bp];lia) (JU (Dk hi (λx hx=>(L x hx).up1) (li.up1.less (by lia) h2)) ⟨h3,by show 0<=n;lia,Ze h6,li.own,li.ok⟩) h.hold (xG hnm) g0 g1 g2' hh
 |Cm u i g kd n=>
  obtain⟨hi,h1,h2,h3,h4,h5,h6,h7⟩:=hc
  have li:=L _ (AS hi)
  refine⟨1,G,B,(xF _).symm,by decide,by rw[xF];exact vf _,xV _ (by decide),?_⟩
  refine SIG.of (by simp[step,Bp];lia) (JU (Dk hi (λx hx=>(L x hx).up1) (li.up1.less (by lia) h2)) ⟨h3,by show 0<=n;lia,Ze h6,li.own,li.ok⟩) h.hold (by simp[step];lia) g0 g1 g2' hh
 |Dq i n=>
  obtain⟨hi,h1,h2⟩:=hc
  have li:=L _ (AS hi)
  refine⟨1,G,B,(xF _).symm,by decide,by rw[xF];exact vf _,xV _ (by decide),?_⟩
  refine SIG.of (by simp[step,Bp];lia) (Dk hi (λx hx=>(L x hx).up1) (li.up1.less (by lia) h2)) h.hold (xG hnm) g0 g1 g2' hh
 |thr i n ws=>
  obtain⟨hi,h1,h2,h3,h4⟩:=hc
  have li:=L _ (AS hi)
  have W:=Jg ht h (by lia) h3 h4
  have wl:(C0 t st.AA ws).toNat<2^(145+k):=by
   have:((C0 t st.AA ws).toNat:Int)<((2^(145+k):Nat):Int):=by
    rw[wL (by lia)];push_cast;exact W.2
   exact_mod_cast this
  have bo:=λ{ss:Wp Rat} (hs:∀r∈ss,Ok G B r)=>Qt ht h (by lia) h3 h4 hi h1 h2 li.ok hs
  refine⟨(C0 t st.AA ws).toNat,G*(C0 t st.AA ws).toNat,B*(C0 t st.AA ws).toNat,rfl,by lia,vf _,xt _ (ye (vd wl (Bn (by lia)))),?_⟩
  refine SIG.of (by simp[step,Bp];lia) ?_ (Ct h.hold li.own) (xG hnm) (yU g0 (by lia)) (wC _ g1) (PB g2 wl (by lia)) (bo hh)
  intro x hx
  obtain⟨y,hy,rfl⟩:=vq.mp hx
  have ly:=Dk (P:=LOk t k G B) hi L (li.less (n:=n) (by lia) h2) y hy
  exact⟨ly.kd,ly.n0,ly.up1.n1,Ct ly.own li.own,bo ly.ok⟩
 |Et p q x=>
  obtain⟨h1,h2,h3,h4,h5,h6⟩:=hc
  have dp:=x.den_pos
  refine⟨x.den,G*x.den,2*B*x.den,rfl,dp,wC _ (by lia),by
   rw[show 2*B*x.den=B*(2*x.den) by rw[<-xY,xk 2 B]]
   exact xt _ (va (show 2*x.den<=24 by lia) (by decide)),?_⟩
  refine SIG.of (by simp[step];lia) ?_ (by simp[step,FU,h.hold]) (xG hnm) (yU g0 dp) (wC _ (by lia)) ?_ (QT (by rw[h.hold];exact h2) (by rw[h.hold];exact h3) h4 h5 hh)
  .intro y hy
   obtain⟨z,hz,rfl⟩:=vq.mp hy
   have lz:=L z hz
   exact⟨lz.kd,lz.n0,lz.up1.n1,by simp[FU,lz.own],QT (by rw[lz.own];exact h2) (by rw[lz.own];exact h3) h4 h5 lz.ok⟩
  .have:=PB (B:=B) (T:=2*x.den) (j:=5) g2 (by lia) (by lia)
   rw[show 2*B*x.den=B*(2*x.den) by rw[<-xY,xk 2 B]]
   exact this
def Pk(ht:Hb t)(h:Ft t k st)(hk:k<=16){d:AN}(hc:Can t st d):Ft t (k+1) (step t st d):=by
 obtain⟨G,B,hs⟩:=h.sig
 obtain⟨_,_,_,_,_,_,_,z⟩:=U6 ht hs hk hc
 exact z.inv
end
theorem Hm{α:Type}{f:α->D}:∀{xs:Wp α},(∀x∈xs,(f x).lay=true)->D.Qf (xs.map f)=true
 | [],_=>rfl
 |x::xs,h=>by
  show((f x).lay && D.Qf (xs.map f))=true
  rw[h x vp,Hm λy hy=>h y (vh _ hy)]
  rfl
def bL(h:D.Qf ds=true):KI (.lst ds) (.lst [])=true:=by
 unfold KI
 show(D.Qf ds && true && _)=true
 rw[h]
 simp only[Bool.true_and,xE]
 exact va (AAs _ _) (by decide)
noncomputable def HH(is:Wp Nat):Wp D:=is.map λ(i:Nat)=>D.int i
def OE:KI (.lst (HH is)) (.lst [])=true:=bL (Hm λ_ _=>rfl)
theorem Zy:deq (.lst (d::ds)) (.lst [])=false:=rfl
theorem iL:deq (.lst []) (.lst [])=true:=rfl
def Pt:deq (.lst (HH is)) (.lst [])=is.isEmpty:=by
 cases is with
 |nil=>exact iL
 |cons i is=>exact Zy
def R5:QY 0 ds=(xI ds.length).map λ(i:Nat)=>D.tup [.int i,ds.getD i .non]:=by
 apply zt
 intro i
 rw[NA,wJ]
 by_cases h:i<ds.length
 .rw[vk h,ADK h]
  simp[vk h]
 .rw[yY (by lia),yY (by simp;lia)]
  rfl
def LQ:(HH is).length=is.length:=by simp[HH]
def Nl(h0:0<=r)(h1:r<is.length):∃i∈is,atI (HH is) r=Gc (.int (i:Nat)):=by
 have h2:r.toNat<is.length:=by lia
 refine⟨is[r.toNat],AAG h2,?_⟩
 have:=cQ (xs:=HH is) h0 (by rw[LQ];exact h1)
 rw[this]
 simp[HH]
def YZ{x K:Int}(h0:0<=x)(h1:x<2*K):x % K=if x<K then x else x-K:=by
 split
 .exact Int.emod_eq_of_lt h0 (by assumption)
 .have:x % K=(x-K) % K:=by rw[Int.sub_emod_right]
  rw[this]
  exact Int.emod_eq_of_lt (by lia) (by lia)
noncomputable def CQ(st:Stt):Wp Nat:=(xI st.AA.length).filter λi=>decide (0<(AK st.AA i).n)
def eE(hS:SAt S s l m as st)(hl:st.AA.length<=50):Bk [(l,as.map D.ref)] (tTp [tNm 0,tNm 1]) (eOp (o2 wGt) [eOp (o2 wIx) [eV 1,eC (.int 1)],eC (.int 0)]) (eV 0) (QY 0 (as.map D.ref)) [] [none,none] S=Gc (HH (CQ st),S):=by
 have:=EC (gs:=[(l,as.map D.ref)]) (t:=tTp [tNm 0,tNm 1]) (c:=eOp (o2 wGt) [eOp (o2 wIx) [eV 1,eC (.int 1)],eC (.int 0)]) (f:=eV 0) (C:=[]) (m:=2) (e:=λi:Nat=>D.tup [.int i,(as.map D.ref).getD i .non]) (g:=λi:Nat=>D.int i) (b:=λi=>decide (0<(AK st.AA i).n)) (S:=S) hS.guard (xs:=xI st.AA.length) (acc:=[]) (os:=[none,none]) rfl (va (show _<=50 by simp;lia) (AI (by decide))) (by
  intro i hi os ho
  obtain⟨o1,o2,rfl⟩:=fD ho
  obtain⟨a,a1,a2,a3⟩:=hS.at (zu.mp hi)
  have e:(as.map D.ref).getD i .non=.ref a:=by simp[a1]
  rw[e]
  refine⟨[Gc (.int i),Gc (.ref a)],rfl,by simp,?_,by simp⟩
  simp[A1 a2,CP])
 rw[R5,wY,hS.len]
 exact this
def My(h:i∈CQ st):i<st.AA.length/\0<(AK st.AA i).n:=by
 unfold CQ at h
 rw[AAQ]at h
 exact⟨zu.mp h.1,by simpa using h.2⟩
noncomputable def Fb(st:Stt)(j:Nat):Wp Nat:=(CQ st).filter λi=> !(i==j) && ((AK st.AA i).k==(AK st.AA j).k)
def P4:(CQ st).length<=st.AA.length:=by
 unfold CQ
 exact va (AAq _ _) (by simp)
def ZT{a b:Nat}:((a:Int)==(b:Int))=(a==b):=by
 by_cases h:a=b
 .subst h;simp
 .have:((a:Int)==(b:Int))=false:=by simp;lia
  rw[this];simp[h]
def gY(hS:SAt S s l m as st)(hl:st.AA.length<=50)(hj:j∈CQ st):Bk [] (tNm 2) (Fi (eOp (o2 wNe) [eV 2,eV 1]) (eOp (o2 wEq) [eOp (o2 wIx) [eOp (o2 wIx) [eV 0,eV 2],eC (.int 0)],eOp (o2 wIx) [eOp (o2 wIx) [eV 0,eV 1],eC (.int 0)]])) (eV 2) (HH (CQ st)) [] [Gc (.ref l),Gc (.int j),none] S=Gc (HH (Fb st j),S):=by
 have fl:=P4 (st:=st)
 exact EC (gs:=[]) (t:=tNm 2) (f:=eV 2) (C:=[Gc (.ref l),Gc (.int j)]) (m:=1) (e:=λi:Nat=>D.int i) (g:=λi:Nat=>D.int i) (b:=λi=> !(i==j) && ((AK st.AA i).k==(AK st.AA j).k)) (S:=S) AO (xs:=CQ st) (acc:=[]) (os:=[none]) rfl (va (show _<=50 by simp;lia) (AI (by decide))) (by
  intro i hi os ho
  obtain⟨o1,rfl⟩:=J3 ho
  obtain⟨a,a1,a2,a3⟩:=hS.at (My hi).1
  obtain⟨b,b1,b2,b3⟩:=hS.at (My hj).1
  refine⟨[Gc (.int i)],rfl,by simp,?_,by simp⟩
  by_cases e:i=j
  .subst e
   simp
  .have e':((i:Int)==(j:Int))=false:=by simp;lia
   have e2:(i==j)=false:=by simp[e]
   simp[e',e2,A1 hS.lo,a3,b3,A1 a2,A1 b2,CP,ZT])
def bQ(h:i∈Fb st j):i∈CQ st/\i≠j/\(AK st.AA i).k=(AK st.AA j).k:=by
 unfold Fb at h
 rw[AAQ]at h
 simp at h
 exact⟨h.1,h.2.1,h.2.2⟩
noncomputable def GG(st:Stt):Wp Nat:=(xI 10).filter λi=> !(st.nums.any λu=>u==(i:Int))
def U7{us:Wp Int}:inD (.int i) (us.map D.int)=us.any λu=>u==i:=by
 unfold inD
 rw[List.any_map]
 rfl
@[simp] def pA:wIn b w (.own r)=if(Ip (fz w) && r.all Ip)=true then some (.val (.bl (if b then !inD (fz w) r else inD (fz w) r)))else none:=rfl
@[simp] def qi:wIn b w (.val (.lst r))=if(Ip (fz w) && r.all Ip)=true then some (.val (.bl (if b then !inD (fz w) r else inD (fz w) r)))else none:=rfl
def RH{us:Wp Int}:(us.map D.int).all Ip=true:=by
 rw[List.all_map,AAy]
 intro x _;rfl
@[simp] def sx:Ip (.int i)=true:=rfl
def dz(hS:SAt S s l m as st):Bk [] (tNm 1) (eOp (o2 (wIn true)) [eV 1,eV 0]) (eV 1) (OX 0 10) [] [Gc (.ref m),none] S=Gc (HH (GG st),S):=by
 exact EC (gs:=[]) (t:=tNm 1) (f:=eV 1) (C:=[Gc (.ref m)]) (m:=1) (e:=λi:Nat=>D.int (0+(i:Int))) (g:=λi:Nat=>D.int i) (b:=λi=> !(st.nums.any λu=>u==(i:Int))) (S:=S) AO (xs:=xI 10) (acc:=[]) (os:=[none]) rfl (va (show _<=50 by simp) (AI (by decide))) (by
  intro i hi os ho
  obtain⟨o1,rfl⟩:=J3 ho
  refine⟨[Gc (.int i)],rfl,by simp,?_,by simp⟩
  have nu:=A1 hS.nu
  have fi:=RH (us:=st.nums)
  have ii:=U7 (us:=st.nums) (i:=(i:Int))
  generalize st.nums.map D.int=ud at*
  generalize (st.nums.any λu=>u==(i:Int))=bb at*
  simp[nu,fi,ii])
def bW(h:i∈GG st):(i:Int)∉st.nums/\i<=9:=by
 unfold GG at h
 rw[AAQ]at h
 have h1:=zu.mp h.1
 refine⟨?_,by lia⟩
 intro z
 have h2:=h.2
 have:(st.nums.any λu=>u==(i:Int))=true:=List.any_eq_true.mpr ⟨_,z,by simp⟩
 rw[this]at h2
 cases h2
def ay:(GG st).length<=10:=by
 unfold GG
 exact va (AAq _ _) (by simp)
def aJ:(Fb st j).length<=st.AA.length:=by
 unfold Fb
 exact va (AAq _ _) P4
section
variable{S:Sto}{p s l m:Nat}{as:Wp Nat}{st:Stt}{t:Tr}{k:Nat}
def WV:=AM (xIf (Fi (eOp (o2 wEq) [eV 7,eC (.int 7)]) (eOp (o2 wNe) [eV 12,Km []])) (AU (Bh [eC (.str "trade"),eOp (o2 wIx) [eV 12,AB AH [eV 0,eOp (o1 FI) [eV 12]]],eV 8,eV 9,eV 11,AB BE [eV 0]])) BX) (AU (Bh [eC (.str "swap"),eV 8,eV 9,eV 11,AB BE [eV 0]]))
def Yg:=AM (xIf (eOp (o2 wEq) [eV 7,eC (.int 8)]) (AU (Bh [eC (.str "spoil"),eV 8,eV 9])) BX) (AM (xIf (Fi (eOp (o2 wEq) [eV 7,eC (.int 9)]) (eOp (o2 wGt) [eOp (o2 wIx) [eV 1,eC (.int 0)],eC (.int 1)])) (AM (A6 13 (AB AH [eV 0,eOp (o2 wIx) [eV 1,eC (.int 0)]])) (AU (Bh [eC (.str "sell"),eV 13,eOp (o2 SO) [eOp (o2 BF) [eOp (o2 BF) [eV 13,eC (.int 1)],AB AH [eV 0,eOp (o2 Ra) [eOp (o2 wIx) [eV 1,eC (.int 0)],eC (.int 1)]]],eOp (o2 wIx) [eV 1,eC (.int 0)]],AB GQ [eV 0]]))) BX) (AU (Bh [eC (.str "throw"),eV 8,eV 9,AB D7 [eV 0,eOp (o2 BF) [eOp (o2 wIx) [eV 1,eC (.int 1)],eC (.int 1)]]])))
def Ro:Ex:=(AM (xIf (Fi (eOp (o2 wLt) [eV 7,eC (.int 8)]) (eOp (o2 wGt) [eOp (o2 wIx) [eV 1,eC (.int 1)],eC (.int 1)])) (AM (A6 11 (eOp (o2 SO) [eOp (o2 BF) [eOp (o2 BF) [eOp (o2 wIx) [eOp (o2 wIx) [eV 3,eV 8],eC (.int 0)],eC (.int 1)],AB AH [eV 0,eOp (o2 Ra) [eOp (o2 wIx) [eV 1,eC (.int 1)],eC (.int 1)]]],eOp (o2 wIx) [eV 1,eC (.int 1)]])) (AM (A6 12 (As [5] 1 (Ts [eC (.int 10)]) (tNm 1) (eOp (o2 (wIn true)) [eV 1,eV 0]) (eV 1)))
    WV)) BX) Yg)
def Xk:=xIf (eOp (o2 wLt) [eV 7,eC (.int 5)]) (AM (A6 10 (As [3,8] 1 (C7 (eV 6)) (tNm 2) (Fi (eOp (o2 wNe) [eV 2,eV 1]) (eOp (o2 wEq) [eOp (o2 wIx) [eOp (o2 wIx) [eV 0,eV 2],eC (.int 0)],eOp (o2 wIx) [eOp (o2 wIx) [eV 0,eV 1],eC (.int 0)]])) (eV 2))) (xIf (eOp (o2 wNe) [eV 10,Km []]) (AU (Bh [eC (.str "pool"),eV 8,eOp (o2 wIx) [eV 10,AB AH [eV 0,eOp (o1 FI) [eV 10]]]])) BX)) BX
def Sm:AN->Prop
 | .Cm _ _ g _ n=>g<=2000/\n<2^130
 |_=>ABE
def Zh:=AM (xIf (eOr (eOp (o2 wLt) [eV 7,eC (.int 2)]) (eOp (o2 wEq) [eV 6,Km []])) (AU (Bh [eC (.str "bring"),AB AH [eV 0,eOp (o2 wIx) [eV 1,eC (.int 0)]],AB AH [eV 0,eOp (o2 wIx) [eV 1,eC (.int 1)]],AB BE [eV 0]])) BX) (AM (A6 8 (eOp (o2 wIx) [eV 6,AB AH [eV 0,eOp (o1 FI) [eV 6]]])) (AM (A6 9 (eOp (o2 BF) [eC (.int 1),AB AH [eV 0,eOp (o2 iT) [eOp (o2 wIx) [eOp (o2 wIx) [eV 3,eV 8],eC (.int 1)],eC (.int 2000)]]])) (AM Xk Ro)))
theorem af:PD=(AM (Ki (tTp [tNm 3,tNm 4,tNm 5]) (eV 2)) (AM (A6 6 (As [] 2 (iA (eV 3)) (tTp [tNm 0,tNm 1]) (eOp (o2 wGt) [eOp (o2 wIx) [eV 1,eC (.int 1)],eC (.int 0)]) (eV 0))) (AM (A6 7 (AB AH [eV 0,eC (.int 12)])) Zh))):=rfl
def Zl(hp:EF p S)(hS:SAt S s l m as st)(hps:p∉s::l::m::as)(ht:Hb t)(h:Ft t k st)(hk:k<=16):∃d S',Ee [.ref p,t.d,.ref s] S=Gc (AN.d d,S')/\Pn p S S'/\Can t st d/\Sm d:=by
 obtain⟨t1,t2,t3,t4,t5,t6⟩:=ht
 have hlen:=h.len
 have st':∀{S':Sto},Pn p S S'->SAt S' s l m as st:=λg=>hS.same g.same (by simpa using hps)
 have r0:=AQ hS.root
 have cf:=eE hS (by lia)
 have fl:=P4 (st:=st)
 have sq:=IG hS.lo
 obtain⟨way,S1,e1,a1,b1,p1⟩:=Ap hp (n:=12) (by decide) (by decide)
 have okF:=OE (is:=CQ st)
 have dqF:=Pt (is:=CQ st)
 have pr0:Ee [.ref p,t.d,.ref s] S=(Zh [Gc (.ref p),Gc t.d,Gc (.ref s),Gc (.ref l),Gc (shD st.hold),Gc (.ref m),Gc (.lst (HH (CQ st))),Gc (.int way),none,none,none,none,none,none] S1).map λr=>(flD r.1,r.2.2):=by
  simp[Ee,af,r0,sq,cf,e1]
 by_cases hb:way<2\/(CQ st).isEmpty=true
 .obtain⟨x2,S2,e2,a2,b2,p2⟩:=Ap p1.pen (n:=t.p) (by lia) (by lia)
  obtain⟨x3,S3,e3,a3,b3,p3⟩:=Ap p2.pen (n:=t.k) (by lia) (by lia)
  obtain⟨x4,S4,e4,p4,a4,b4⟩:=OJ p3.pen
  obtain⟨x2,rfl⟩:=Il a2
  obtain⟨x3,rfl⟩:=Il a3
  refine⟨.DX x2 x3 x4,S4,?_,((p1.trans p2).trans p3).trans p4,⟨by lia,by lia,a4,b4⟩,trivial⟩
  rw[pr0]
  have ho:∀(x y:Ex),xIf (eOr (eOp (o2 wLt) [eV 7,eC (.int 2)]) (eOp (o2 wEq) [eV 6,Km []])) x y [Gc (.ref p),Gc t.d,Gc (.ref s),Gc (.ref l),Gc (shD st.hold),Gc (.ref m),Gc (.lst (HH (CQ st))),Gc (.int way),none,none,none,none,none,none] S1=x [Gc (.ref p),Gc t.d,Gc (.ref s),Gc (.ref l),Gc (shD st.hold),Gc (.ref m),Gc (.lst (HH (CQ st))),Gc (.int way),none,none,none,none,none,none] S1:=by
   intro x y
   by_cases hw:way<2
   .simp[hw]
   .simp[hw,okF,dqF,hb.resolve_left hw]
  simp[Zh,-YB,ho]
  simp[Tr.d,e2,e3,e4,AN.d]
 .have hw2:¬way<2:=λz=>hb (.inl z)
  have hf:(CQ st).isEmpty=false:=by
   cases z:(CQ st).isEmpty with
   |true=>exact absurd (.inr z) hb
   |false=>rfl
  have hfl:0<(CQ st).length:=by
   cases z:CQ st with
   |nil=>rw[z]at hf;cases hf
   |cons a b=>simp
  obtain⟨rl,S2,e2,a2,b2,p2⟩:=Ap p1.pen (n:=(CQ st).length) (by lia) (by lia)
  obtain⟨i,mi,ei⟩:=Nl a2 b2
  have fi:=My mi
  have hS1:=st' p1
  have hS2:=st' (p1.trans p2)
  obtain⟨a,x1,x2,x3⟩:=hS2.at fi.1
  have n1:=fi.2
  obtain⟨rs,S3,e3,a3,b3,p3⟩:=Ap p2.pen (n:=if 2000<(AK st.AA i).n then 2000 else(AK st.AA i).n) (by split<;>lia) (by split<;>lia)
  have hsome:1<=1+rs/\1+rs<=(AK st.AA i).n:=by split at b3<;>lia
  have p23:=(p1.trans p2).trans p3
  have hS3:=st' p23
  have lo2:=A1 hS2.lo
  have lo3:=A1 hS3.lo
  have x2':=A1 x2
  have x4:S3[a]?=Gc (CP (AK st.AA i)):=hS3.ld i a _ x1 (Fe fi.1)
  have x4':=A1 x4
  have kd:=h.kind _ (AS fi.1)
  have nl:=LQ (is:=CQ st)
  have cs:=gY hS3 (by lia) mi
  have okS:=OE (is:=Fb st i)
  have dqS:=Pt (is:=Fb st i)
  have sl:=aJ (st:=st) (j:=i)
  have nls:=LQ (is:=Fb st i)
  have pre:Ee [.ref p,t.d,.ref s] S=((Xk [Gc (.ref p),Gc t.d,Gc (.ref s),Gc (.ref l),Gc (shD st.hold),Gc (.ref m),Gc (.lst (HH (CQ st))),Gc (.int way),Gc (.int i),Gc (.int (1+rs)),none,none,none,none] S3).bind (iU Ro)).map λr=>(flD r.1,r.2.2):=by
   rw[pr0]
   simp[Zh,hw2,okF,dqF,hf,nl,e2,ei,lo2,x3,x2',e3]
  have tail:∀o10,(way<5->(Fb st i).isEmpty=true)->∃d S',(Ro [Gc (.ref p),Gc t.d,Gc (.ref s),Gc (.ref l),Gc (shD st.hold),Gc (.ref m),Gc (.lst (HH (CQ st))),Gc (.int way),Gc (.int i),Gc (.int (1+rs)),o10,none,none,none] S3).map (λr=>(flD r.1,r.2.2))=Gc (AN.d d,S')/\Pn p S S'/\Can t st d/\Sm d:=by
   intro o10 _
   generalize hE:([Gc (.ref p),Gc t.d,Gc (.ref s),Gc (.ref l),Gc (shD st.hold),Gc (.ref m),Gc (.lst (HH (CQ st))),Gc (.int way),Gc (.int i),Gc (.int (1+rs)),o10,none,none,none]:En)=E
   clear pre cs okS dqS
   by_cases hsw:way<8/\1<t.k
   .obtain⟨hw8,hk1⟩:=hsw
    have hk1':(1:Int)<t.k:=by lia
    obtain⟨rk,S4,e4,a4,b4,p4⟩:=Ap p3.pen (n:=(t.k:Int)-1) (by lia) (by lia)
    have hS4:=st' (p23.trans p4)
    have hmod:=YZ (x:=((AK st.AA i).k:Int)+1+rk) (K:=t.k) (by lia) (by lia)
    obtain⟨kd2,ekd⟩:∃q:Nat,((AK st.AA i).k+1+rk) % (t.k:Int)=(q:Int):=⟨_,(wL (ym _ (by lia))).symm⟩
    have hkd:kd2<t.k/\kd2≠(AK st.AA i).k:=by
     rw[ekd]at hmod
     split at hmod<;>lia
    have kp:0<t.k:=by lia
    have cl:=dz hS4
    have okL:=OE (is:=GG st)
    have dqL:=Pt (is:=GG st)
    have ll:=ay (st:=st)
    have nll:=LQ (is:=GG st)
    have rt:Lg 10=true:=Fp (by decide) (by decide)
    have mid:Ro E S3=(WV [Gc (.ref p),Gc t.d,Gc (.ref s),Gc (.ref l),Gc (shD st.hold),Gc (.ref m),Gc (.lst (HH (CQ st))),Gc (.int way),Gc (.int i),Gc (.int (1+rs)),o10,Gc (.int kd2),Gc (.lst (HH (GG st))),none] S4).bind (iU Yg):=by
     subst hE
     simp[Ro,Tr.d,x3,hw8,hk1',lo3,x4',e4,kp,ekd,rt,cl]
    rw[mid]
    clear mid hE
    by_cases htr:way=7/\(GG st).isEmpty=false
    .obtain⟨hw7,hle⟩:=htr
     have hll:0<(GG st).length:=by
      cases z:GG st with
      |nil=>rw[z]at hle;cases hle
      |cons a b=>simp
     obtain⟨ru,S5,e5,a5,b5,p5⟩:=Ap p4.pen (n:=(GG st).length) (by lia) (by lia)
     obtain⟨u,mu,eu⟩:=Nl a5 b5
     obtain⟨x6,S6,e6,p6,a6,b6⟩:=Om p5.pen
     have fu:=bW mu
     refine⟨.Cm u i (1+rs) kd2 x6,S6,?_,((p23.trans p4).trans p5).trans p6,⟨fi.1,hsome.1,hsome.2,hkd.1,hkd.2,a6,ze b6 (by decide),fu.1,by lia,by lia⟩,by split at b3<;>lia,b6⟩
     subst hw7
     simp[WV,okL,dqL,hle,nll,e5,eu,e6,AN.d]
    .obtain⟨x6,S6,e6,p6,a6,b6⟩:=OJ p4.pen
     refine⟨.swap i (1+rs) kd2 x6,S6,?_,(p23.trans p4).trans p6,⟨fi.1,hsome.1,hsome.2,hkd.1,hkd.2,a6,b6⟩,trivial⟩
     by_cases h7:way=7
     .subst h7
      have hle:(GG st).isEmpty=true:=by
       cases z:(GG st).isEmpty with
       |true=>rfl
       |false=>exact absurd ⟨rfl,z⟩ htr
      simp[WV,okL,dqL,hle,e6,AN.d]
     .have h7':(way==7)=false:=by simpa using h7
      simp[WV,h7',e6,AN.d]
   .have sw:Ro E S3=Yg E S3:=by
     subst hE
     by_cases w8:way<8
     .have hk1:¬(1:Int)<t.k:=by lia
      simp[Ro,Tr.d,w8,hk1]
     .simp[Ro,w8]
    rw[sw]
    clear sw
    by_cases h8:way=8
    .subst h8
     refine⟨.Dq i (1+rs),S3,?_,p23,⟨fi.1,hsome.1,hsome.2⟩,trivial⟩
     subst hE
     rfl
    .have h8':(way==8)=false:=by simpa using h8
     by_cases h9:way=9/\1<t.p
     .obtain⟨h9,hP⟩:=h9
      subst h9
      have hP':(1:Int)<t.p:=by lia
      obtain⟨rp,S4,e4,a4,b4,p4⟩:=Ap p3.pen (n:=t.p) (by lia) (by lia)
      obtain⟨rq,S5,e5,a5,b5,p5⟩:=Ap p4.pen (n:=(t.p:Int)-1) (by lia) (by lia)
      obtain⟨sh,S6,e6,p6,a6,b6,c6⟩:=bS p5.pen
      have hmod:=YZ (x:=rp+1+rq) (K:=t.p) (by lia) (by lia)
      obtain⟨q,eq⟩:∃q:Nat,(rp+1+rq) % (t.p:Int)=(q:Int):=⟨_,(wL (ym _ (by lia))).symm⟩
      obtain⟨rp,rfl⟩:=Il a4
      have hq:q<t.p/\q≠rp:=by
       rw[eq]at hmod
       split at hmod<;>lia
      have pp:0<t.p:=by lia
      refine⟨.Et rp q sh,S6,?_,((p23.trans p4).trans p5).trans p6,⟨λz=>hq.2 z.symm,by lia,hq.1,a6,b6,c6⟩,trivial⟩
      subst hE
      simp[Yg,Tr.d,hP',e4,e5,pp,eq,e6,AN.d]
     .have s9:∀(x y:Ex) (T:Sto),xIf (Fi (eOp (o2 wEq) [eV 7,eC (.int 9)]) (eOp (o2 wGt) [eOp (o2 wIx) [eV 1,eC (.int 0)],eC (.int 1)])) x y E T=y E T:=by
       intro x y T
       subst hE
       by_cases z:way=9
       .have hP:¬(1:Int)<t.p:=by have:¬1<t.p:=λw=>h9 ⟨z,w⟩;lia
        subst z
        simp[Tr.d,hP]
       .have z':(way==9)=false:=by simpa using z
        simp[z']
      obtain⟨ws,S4,e4,p4,a4,b4⟩:=Xy p3.pen (n:=t.k+1) (by lia)
      have e4':D7 [.ref p,.int ((t.k:Int)+1)] S3=Gc (.tup (ws.map .int),S4):=e4
      refine⟨.thr i (1+rs) ws,S4,?_,p23.trans p4,⟨fi.1,hsome.1,hsome.2,a4,b4⟩,trivial⟩
      have s8:∀(x y:Ex) (T:Sto),xIf (eOp (o2 wEq) [eV 7,eC (.int 8)]) x y E T=y E T:=by
       intro x y T
       subst hE
       simp[h8']
      simp[Yg,-YB,s8,s9]
      subst hE
      simp[Tr.d,e4',AN.d]
  by_cases hpool:way<5/\(Fb st i).isEmpty=false
  .obtain⟨hw5,hse⟩:=hpool
   have hsl:0<(Fb st i).length:=by
    cases z:Fb st i with
    |nil=>rw[z]at hse;cases hse
    |cons a b=>simp
   obtain⟨rj,S4,e4,a4,b4,p4⟩:=Ap p3.pen (n:=(Fb st i).length) (by lia) (by lia)
   obtain⟨j,mj,ej⟩:=Nl a4 b4
   have fj:=bQ mj
   have fj':=My fj.1
   refine⟨.Ig i j,S4,?_,p23.trans p4,⟨λz=>fj.2.1 z.symm,fi.1,fj'.1,n1,fj'.2,fj.2.2.symm⟩,trivial⟩
   rw[pre]
   simp[Xk,hw5,cs,okS,dqS,hse,nls,e4,ej,AN.d]
  .by_cases w5:way<5
   .have hse:(Fb st i).isEmpty=true:=by
     cases z:(Fb st i).isEmpty with
     |true=>rfl
     |false=>exact absurd ⟨w5,z⟩ hpool
    obtain⟨d,S',e,pn,hc⟩:=tail (Gc (.lst (HH (Fb st i)))) (λ_=>hse)
    refine⟨d,S',?_,pn,hc⟩
    rw[pre,<-e]
    simp[Xk,w5,cs,okS,dqS,hse]
   .obtain⟨d,S',e,pn,hc⟩:=tail none (λz=>absurd z w5)
    refine⟨d,S',?_,pn,hc⟩
    rw[pre,<-e]
    simp[Xk,w5]
end
noncomputable def runs(t:Tr)(st:Stt)(ds:Wp AN):Stt:=ds.foldl (step t) st
def LP(t:Tr):Stt->Wp AN->Prop
 |_,[]=>ABE
 |st,d::ds=>Can t st d/\LP t (step t st d) ds
theorem O2{t:Tr}{d:AN}:∀{ds:Wp AN} {st:Stt},LP t st ds->Can t (runs t st ds) d->LP t st (ds++[d])
 | [],st,_,h=>⟨h,trivial⟩
 |x::ds,st,h,g=>⟨h.1,O2 h.2 g⟩
def M8{t:Tr}{ds:Wp AN}{st:Stt}{i:Nat}{d:AN}(h:LP t st ds)(g:ds[i]?=Gc d):Can t (runs t st (ds.take i)) d:=by
 induction ds generalizing st i with
 |nil=>simp at g
 |cons x ds ih=>
  cases i with
  |zero=>simp at g;subst g;exact h.1
  |succ i=>simp at g;exact ih h.2 g
def Q4{t:Tr}{st:Stt}{ds:Wp AN}{d:AN}:runs t st (ds++[d])=step t (runs t st ds) d:=by simp[runs]
def OT{t:Tr}{st:Stt}{ds:Wp AN}{i:Nat}{d:AN}(h:ds[i]?=Gc d):runs t st (ds.take (i+1))=step t (runs t st (ds.take i)) d:=by
 rw[List.take_succ,h]
 exact Q4
theorem Pc{t:Tr}(ht:Hb t):∀{ds:Wp AN} {st:Stt} {k:Nat},Ft t k st->LP t st ds->k+ds.length<=17->Ft t (k+ds.length) (runs t st ds)
 | [],st,k,h,_,_=>h
 |d::ds,st,k,h,g,hl=>by
  have:=Pc ht (ds:=ds) (Pk ht h (by simp at hl;lia) g.1) g.2 (by simp at hl;lia)
  rw[show k+(d::ds).length=k+1+ds.length by simp;lia]
  exact this
theorem Uw{t:Tr}(ht:Hb t):∀{ds:Wp AN} {st:Stt} {k G B:Nat},SIG t k G B st->LP t st ds->k+ds.length<=17->∃T G' B',G'=G*T/\0<T/\B*T<=B'/\B'<=B*2^(161*ds.length)/\SIG t (k+ds.length) G' B' (runs t st ds)
 | [],st,k,G,B,h,_,_=>⟨1,G,B,(xF _).symm,by decide,by rw[xF];exact vf _,by simp,h⟩
 |d::ds,st,k,G,B,h,g,hl=>by
  obtain⟨T,G1,B1,rfl,t0,tb,ub,h1⟩:=U6 ht h (by simp at hl;lia) g.1
  obtain⟨T2,G2,B2,rfl,t2,tb2,ub2,h2⟩:=Uw ht (ds:=ds) h1 g.2 (by simp at hl;lia)
  refine⟨T*T2,_,B2,xY ..,yU t0 t2,va ?_ tb2,?_,?_⟩
  .rw[<-xY]
   exact wC _ tb
  .refine va ub2 (va (wC _ ub) ?_)
   rw[xY,<-zV]
   exact xt _ (wQ (by decide) (by simp;lia))
  .rw[show k+(d::ds).length=k+1+ds.length by simp;lia]
   exact h2
theorem JX{t:Tr}:∀{ds:Wp AN} {st:Stt} {i:Nat},LP t st ds->LP t st (ds.take i)
 | [],st,i,h=>by simp;exact trivial
 |d::ds,st,0,h=>trivial
 |d::ds,st,i+1,h=>⟨h.1,JX h.2⟩
noncomputable def st0(t:Tr)(ls:Wp Ld):Stt:=⟨ls,t.ho,[]⟩
structure CA(t:Tr)(ls:Wp Ld)(ds:Wp AN):Prop where
 tr:Hb t
 lev:∃k,k+ds.length<=16/\Ft t k (st0 t ls)
 four:ls.length<=4
 pc0:∀l∈ls,0<=l.n/\l.n<2^131
 good:LP t (st0 t ls) ds
def Ft.mono{t:Tr}{j k:Nat}{s:Stt}(h:Ft t j s)(hk:j<=k):Ft t k s:=by
 obtain⟨G,B,g0,gb,b,h1,h2⟩:=h.gb
 exact⟨by have:=h.len;lia,h.kind,λl hl=>⟨(h.pcs l hl).1,y7 (h.pcs l hl).2 (by exact_mod_cast wQ (by decide:0<2) (by lia:131+j<=131+k))⟩,h.own,h.hold,va h.nm hk,G,B,g0,gb,vd b (wQ (by decide) (by lia)),h1,h2⟩
def CA.len{t:Tr}{ls:Wp Ld}{ds:Wp AN}(h:CA t ls ds):ds.length<=16:=by
 obtain⟨k,hk,_⟩:=h.lev
 lia
def CA.at{t:Tr}{ls:Wp Ld}{ds:Wp AN}(h:CA t ls ds)(i:Nat):Ft t 16 (runs t (st0 t ls) (ds.take i)):=by
 obtain⟨k,hk,z⟩:=h.lev
 exact(Pc h.tr z (JX h.good) (by simp;lia)).mono (by simp;lia)
noncomputable def Aa(t:Tr)(ls:Wp Ld)(ds:Wp AN):D:=.tup [t.d,.tup (ls.map Ld.d),.tup (ds.map AN.d)]
def SH{t:Tr}{ls:Wp Ld}(h:FT t ls)(hl:ls.length<=4)(h1:t.ho.length=t.p){g:Nat}(g0:0<g)(g1:g<=32)(g2:∀r∈t.ho,Ok g g r):Ft t 0 (st0 t ls):=by
 obtain⟨ha,G,G0,G1,G2⟩:=h
 have hG:G<=32^4:=va G1 (wQ (by decide) hl)
 have hB:G*g<2^30:=by
  have:=y4 hG g1
  lia
 refine Ft.of (G:=G*g) (B:=G*g) (by simpa[st0]using hl) ?_ h1 (vf _) (yU G0 g0) (vf _) hB ?_
 .intro x hx
  have:=ha x hx
  exact⟨this.1,by lia,Ze this.2.2.1,this.2.2.2.1,λr hr=>(G2 x hx r hr).up (vf _)⟩
 .intro r hr
  have:=(g2 r hr).up (t:=G) (B':=G*g) (by rw[xk];exact vf _)
  rwa [xk g G]at this
noncomputable def G5:AN->xD
 | .thr .. =>true
 |_=>false
section
variable{S:Sto}{p:Nat}
def Ul(d:AN)(E:En)(h:E=[Gc d.d]):eOp (o2 wEq) [eOp (o2 wIx) [eV 0,eC (.int 0)],eC (.str "throw")] E S=Gc (.bl (G5 d),S):=by
 subst h
 cases d<;>simp[AN.d,G5]
def uY{q:Nat}{ds:Wp AN}(hq:S[q]?=Gc (.lst (ds.map AN.d)))(hl:ds.length<=50):Bk [(q,ds.map AN.d)] (tNm 0) (eOp (o2 wEq) [eOp (o2 wIx) [eV 0,eC (.int 0)],eC (.str "throw")]) (eV 0) (ds.map AN.d) [] [none] S=Gc ((ds.filter G5).map AN.d,S):=
 EC (gs:=[(q,ds.map AN.d)]) (t:=tNm 0) (f:=eV 0) (C:=[]) (m:=1) (e:=AN.d) (g:=AN.d) (b:=G5) (S:=S) (λg hg=>by rw[wN.mp hg];exact AQ hq) (xs:=ds) (acc:=[]) (os:=[none]) rfl (va (show _<=50 by simp;lia) (AI (by decide))) (by
  intro d _ os ho
  obtain⟨o1,rfl⟩:=J3 ho
  exact⟨[Gc d.d],rfl,by simp,Ul d _ rfl,by simp⟩)
end
section
variable{S:Sto}{s l m:Nat}{as:Wp Nat}{st:Stt}
theorem Nv{rs:Wp Rat}:D.tup (rs.map aD)=shD rs:=rfl
end
def Td(h:n<=m):HT.sIx m d (Gc (n:Int))=n:=by
 unfold HT.sIx
 have:¬((n:Int)<0):=by lia
 simp[this]
 lia
def Mr{ds:Wp α}(h:n<=ds.length):MU ds none (Gc (n:Int))=ds.take n:=by
 unfold MU
 rw[Td h]
 simp[HT.sIx]
def UH{ds:Wp α}(h:n<=ds.length):MU ds (Gc (n:Int)) none=ds.drop n:=by
 unfold MU
 rw[Td h]
 simp[HT.sIx]
 exact yp (by simp)
noncomputable def hD(x:Ld):D:=.tup [.int x.k,.int x.n]
noncomputable def A4(ls:Wp Ld):D:=.lst (ls.map hD)
noncomputable def MD(ls:Wp Ld):D:=.lst (ls.map λx=>shD x.ow)
section
variable{ls:Wp Ld}{i j:Nat}{n:Int}
@[simp] def qZ:dr S (A4 ls)=.val (A4 ls):=rfl
@[simp] def sI:dr S (MD ls)=.val (MD ls):=rfl
@[simp] def md:asS (.val (A4 ls))=some (ls.map hD):=rfl
@[simp] def mx:asS (.val (MD ls))=some (ls.map λx=>shD x.ow):=rfl
def JS(hi:i<ls.length):atI (ls.map hD) (i:Int)=Gc (hD (AK ls i)):=DM (by rw[wJ,Fe hi];rfl)
def NK(hi:i<ls.length):atI (ls.map λx=>shD x.ow) (i:Int)=Gc (shD (AK ls i).ow):=DM (by rw[wJ,Fe hi];rfl)
@[simp] def tm:dr S (hD x)=.val (.tup [.int x.k,.int x.n]):=rfl
@[simp] def rO:tTp ts (hD x) E S=tMs ts [.int x.k,.int x.n] E S:=rfl
def aA:wSl lo hi (.val (A4 ls))=Gc (.own (MU (ls.map hD) lo hi)):=rfl
def Fv(hi:i<ls.length)(hl:ls.length<=60):BS [A4 ls,.int i,.int n] S=Gc (A4 (less ls i n),S):=by
 have c1:=Mr (ds:=ls.map hD) (n:=i) (by simp;lia)
 have c2:MU (ls.map hD) (Gc ((i:Int)+1)) none=(ls.map hD).drop (i+1):=by
  have:=UH (ds:=ls.map hD) (n:=i+1) (by simp;lia)
  simpa using this
 have ef:A4 (less ls i n)=.lst ((ls.map hD).take i++[.tup [.int (AK ls i).k,.int ((AK ls i).n-n)]]++(ls.map hD).drop (i+1)):=by
  rw[Tt,A4,AAH,List.set_eq_take_append_cons_drop,wU (by simpa using hi)]
  simp[hD]
 have z1:(List.take i (ls.map hD)).length+1<=sizeLine:=va (show _<=100 by simp;lia) (AI (by decide))
 have z2:(List.take i (ls.map hD)++[D.tup [.int (AK ls i).k,.int ((AK ls i).n-n)]]).length+(List.drop (i+1) (ls.map hD)).length<=sizeLine:=va (show _<=100 by simp;rw[ACe (ye hi)];exact va (Nat.le_of_eq (Nat.add_sub_cancel' hi)) (va hl (by decide))) (AI (by decide))
 rw[ef]
 have ah:=JS hi
 have ws:=λ{lo hi:vi Int}=>aA (ls:=ls) (lo:=lo) (hi:=hi)
 generalize List.take i (ls.map hD)=A at*
 generalize List.drop (i+1) (ls.map hD)=B at*
 simp only[wc,xT,AAS]at z2
 simp[BS,IQ,ah,ws,c1,c2,z1,z2]
end
section
variable{S:Sto}{st:Stt}{t:Tr}{k:Nat}
@[simp] def FJ{ls:List Ld}{r:List D}:BF (.val (A4 ls)) (.val (.lst r))=if(ls.map hD).length+r.length<=sizeLine then some (.own (ls.map hD++r))else none:=rfl
def Mv{ls:Wp Ld}{y:Ld}:D.lst (ls.map hD++[.tup [.int y.k,.int y.n]])=A4 (ls++[y]):=by simp[A4,hD]
def ON(h:Ft t k st)(hk:k<=17){d:AN}(hc:Can t st d):Ad [A4 st.AA,d.d] S=Gc (A4 (step t st d).AA,S):=by
 have hlen:=h.len
 have hz:(st.AA.map hD).length+1<=sizeLine:=va (show _<=100 by simp;lia) (AI (by decide))
 have hz2:∀{i:Nat} {n:Int},((less st.AA i n).map hD).length+1<=sizeLine:=λ{i n}=>va (show _<=100 by simp[Bp];lia) (AI (by decide))
 cases d with
 |DX p kd n=>
  have e:=Mv (ls:=st.AA) (y:=⟨kd,n,Sw t.p p⟩)
  show _=Gc (A4 (st.AA++[⟨kd,n,Sw t.p p⟩]),S)
  rw[<-e]
  have wA:=FJ (ls:=st.AA) (r:=[.tup [.int kd,.int n]])
  rw[wU (by simpa using hz)]at wA
  simp[Ad,BP,AN.d,-FJ,wA]
 |Ig i j=>
  obtain⟨hij,hi,hj,h1,h2,h3⟩:=hc
  have e0:AK (less st.AA i (AK st.AA i).n) j=AK st.AA j:=by
   unfold AK less
   rw[v8,vj hij,<-v8]
  have w1:=Fv (S:=S) (n:=(AK st.AA i).n) hi (by lia)
  have w2:=Fv (S:=S) (ls:=less st.AA i (AK st.AA i).n) (i:=j) (n:=(AK st.AA j).n) (by rw[Bp];exact hj) (by rw[Bp];lia)
  have z3:((less (less st.AA i (AK st.AA i).n) j (AK st.AA j).n).map hD).length+1<=sizeLine:=va (show _<=100 by simp[Bp];lia) (AI (by decide))
  have e:=Mv (ls:=less (less st.AA i (AK st.AA i).n) j (AK st.AA j).n) (y:=⟨(AK st.AA i).k,(AK st.AA i).n+(AK st.AA j).n,B8 (AK st.AA i).n (AK st.AA j).n (AK st.AA i).ow (AK st.AA j).ow⟩)
  show _=Gc (A4 (less (less st.AA i (AK st.AA i).n) j (AK st.AA j).n++[_]),S)
  rw[<-e]
  have a1:=JS hi
  have a2:=JS hj
  have wA:=FJ (ls:=less (less st.AA i (AK st.AA i).n) j (AK st.AA j).n) (r:=[.tup [.int (AK st.AA i).k,.int ((AK st.AA i).n+(AK st.AA j).n)]])
  rw[wU (by simpa using z3)]at wA
  generalize (less (less st.AA i (AK st.AA i).n) j (AK st.AA j).n).map hD=A at*
  simp[Ad,BP,AN.d,a1,a2,w1,w2,-FJ,wA]
 |swap i g kd n=>
  obtain⟨hi,h1,h2,h3,h4,h5,h6⟩:=hc
  have w1:=Fv (S:=S) (n:=g) hi (by lia)
  have e:=Mv (ls:=less st.AA i g) (y:=⟨kd,n,(AK st.AA i).ow⟩)
  show _=Gc (A4 (less st.AA i g++[⟨kd,n,(AK st.AA i).ow⟩]),S)
  rw[<-e]
  have wA:=FJ (ls:=less st.AA i g) (r:=[.tup [.int kd,.int n]])
  rw[wU (by simpa using hz2)]at wA
  simp[Ad,BP,AN.d,w1,-FJ,wA]
 |Cm u i g kd n=>
  obtain⟨hi,h1,h2,h3,h4,h5,h6,h7⟩:=hc
  have w1:=Fv (S:=S) (n:=g) hi (by lia)
  have e:=Mv (ls:=less st.AA i g) (y:=⟨kd,n,(AK st.AA i).ow⟩)
  show _=Gc (A4 (less st.AA i g++[⟨kd,n,(AK st.AA i).ow⟩]),S)
  rw[<-e]
  have wA:=FJ (ls:=less st.AA i g) (r:=[.tup [.int kd,.int n]])
  rw[wU (by simpa using hz2)]at wA
  simp[Ad,BP,AN.d,w1,-FJ,wA]
 |Dq i n=>
  obtain⟨hi,h1,h2⟩:=hc
  have w1:=Fv (S:=S) (n:=n) hi (by lia)
  show _=Gc (A4 (less st.AA i n),S)
  simp[Ad,BP,AN.d,w1]
 |thr i n ws=>
  obtain⟨hi,h1,h2,h3,h4⟩:=hc
  have w1:=Fv (S:=S) (n:=n) hi (by lia)
  have e:A4 (step t st (.thr i n ws)).AA=A4 (less st.AA i n):=by
   show D.lst (((less st.AA i n).map _).map hD)=_
   rw[wR];rfl
  rw[e]
  simp[Ad,BP,AN.d,w1]
 |Et p q x=>
  have e:A4 (step t st (.Et p q x)).AA=A4 st.AA:=by
   show D.lst ((st.AA.map _).map hD)=_
   rw[wR];rfl
  rw[e]
  simp[Ad,BP,AN.d]
noncomputable def IM:AN->vi Int
 | .Cm u .. =>Gc u
 |_=>none
def YS{ls:Wp Ld}:∀{ds:Wp AN},(runs t (st0 t ls) ds).nums=ds.filterMap IM:=by
 intro ds
 have:∀(ds:Wp AN) (st:Stt),(runs t st ds).nums=st.nums++ds.filterMap IM:=by
  intro ds
  induction ds with
  |nil=>intro st;simp[runs]
  |cons d ds ih=>
   intro st
   show(runs t (step t st d) ds).nums=_
   rw[ih]
   cases d<;>simp[step,IM,wm]
 rw[this];rfl
theorem MS:∀{ds:Wp AN} {acc:Wp D} {o:vi D},acc.length+ds.length<=100->Bk [] (tNm 0) (eOp (o2 wEq) [eOp (o2 wIx) [eV 0,eC (.int 0)],eC (.str "trade")]) (eOp (o2 wIx) [eV 0,eC (.int 1)]) (ds.map AN.d) acc [o] S=Gc (acc++(ds.filterMap IM).map D.int,S)
 | [],acc,o,h=>by rw[xQ,EG AO];simp
 |d::ds,acc,o,h=>by
  have hz:acc.length<sizeLine:=vd (show acc.length<101 by simp at h;lia) (AI (by decide))
  have ht:tNm 0 d.d [o] S=Gc [Gc d.d]:=by simp
  rw[v5]
  cases d with
  |Cm u i g kd n=>
   rw[Hy AO hz ht (S1:=S) (by simp[AN.d])]
   have:eOp (o2 wIx) [eV 0,eC (.int 1)] [Gc (AN.Cm u i g kd n).d] S=Gc (.int u,S):=by simp[AN.d]
   rw[this,An,MS (by simp at h ⊢; lia)]
   simp[IM,wm]
  |DX=>rw[Kb AO hz ht (S1:=S) (by simp[AN.d]),MS (by simp at h ⊢; lia)];simp[IM,wm]
  |Ig=>rw[Kb AO hz ht (S1:=S) (by simp[AN.d]),MS (by simp at h ⊢; lia)];simp[IM,wm]
  |swap=>rw[Kb AO hz ht (S1:=S) (by simp[AN.d]),MS (by simp at h ⊢; lia)];simp[IM,wm]
  |Dq=>rw[Kb AO hz ht (S1:=S) (by simp[AN.d]),MS (by simp at h ⊢; lia)];simp[IM,wm]
  |thr=>rw[Kb AO hz ht (S1:=S) (by simp[AN.d]),MS (by simp at h ⊢; lia)];simp[IM,wm]
  |Et=>rw[Kb AO hz ht (S1:=S) (by simp[AN.d]),MS (by simp at h ⊢; lia)];simp[IM,wm]
end
section
variable{S:Sto}{st:Stt}{t:Tr}{k:Nat}
def aU{ss os:Wp Rat}:MO (ss.map aD) (os.map aD)=(ss.zip os).map λz=>D.tup [aD z.1,aD z.2]:=by
 unfold MO
 rw[List.zip_map,wR]
 rfl
noncomputable def SN(w m:Int)(ss os:Wp Rat):Wp Rat:=AAk (λs o=>(s*w+o*m) / (w+m)) ss os
def ET{w m:Int}{ss os:Wp Rat}{j n:Nat}(hs:∀r∈ss,Sz j r)(ho:∀r∈os,Sz j r)(hw:w.natAbs<2^n)(hm:m.natAbs<2^n)(h:0<w+m)(hj:2*j+n+1<=7990)(hl:ss.length<=50):BV [shD ss,.int w,shD os,.int m] S=Gc (shD (SN w m ss os),S):=by
 have e:=BH (gs:=[]) (t:=tTp [tNm 2,tNm 3]) (f:=AB Iv [eV 2,eV 0,eV 3,eV 1]) (C:=[Gc (.int w),Gc (.int m)]) (m:=2) (e:=λz:Rat×Rat=>D.tup [aD z.1,aD z.2]) (g:=λz=>aD ((z.1*w+z.2*m) / (w+m))) (S:=S) AO (xs:=ss.zip os) (acc:=[]) (os:=[none,none]) rfl (va (show _<=50 by simp;lia) (AI (by decide))) (by
  intro z hz os' ho'
  obtain⟨q1,q2,rfl⟩:=fD ho'
  have hm2:=zg (a:=z.1) (b:=z.2) hz
  have l:=kD (S:=S) (hs _ hm2.1) (ho _ hm2.2) hw hm h (by lia)
  refine⟨[Gc (aD z.1),Gc (aD z.2)],rfl,by simp,?_⟩
  simp[l])
 rw[<-aU]at e
 have em:(ss.zip os).map (λz=>aD ((z.1*w+z.2*m) / (w+m)))=(SN w m ss os).map aD:=by
  unfold SN
  rw[<-List.map_uncurry_zip_eq_zipWith,wR]
  rfl
 rw[em]at e
 simp only[wg,v7]at e
 simp[BV,IS,e,Nv]
def QQ{P p:Nat}(hP:P<=50):Ew [.int P,.int p] S=Gc (shD (Sw P p),S):=by
 have e:=U0 (S:=S) (P:=P) (p:=p) (cond:=0) (C:=[]) (dd:=.int p) (f:=eIf (eOp (o2 wEq) [eV 1,eV 0]) (eC Po) (eC GV)) hP (by
  intro i
  by_cases hi:i=p
  .subst hi;simp;rfl
  .have:((i:Int)==(p:Int))=false:=by simp;lia
   simp[this,hi];rfl)
 have rn:Lg (P:Int)=true:=Fp (by lia) (by lia)
 simp[Ew,Jz,rn,e,Nv]
def OA{n m:Int}{ss os:Wp Rat}:SN n m ss os=B8 n m ss os:=by
 unfold SN B8
 congr 1
 funext s o
 push_cast
 rfl
def Sk{n m:Int}{ss os:Wp Rat}:B8 n m ss os=B8 m n os ss:=by
 unfold B8
 rw[List.zipWith_comm]
 congr 1
 funext o s
 push_cast
 grind
@[simp] def Y4{a b:Int}:Oh [a,b]=if a<=b then [a,b]else [b,a]:=by
  unfold Oh
  simp[List.mergeSort,ADc,List.merge]
@[simp] def fM{a b:Int}:QH (.val (.lst [.int a,.int b]))=some (.own ((if a<=b then [a,b]else [b,a]).map D.int)):=by
  have:QH (.val (.lst [.int a,.int b]))=Gc (.own ((Oh [a,b]).map D.int)):=rfl
  rw[this,Y4]
@[simp] def nI{a b c d e:D}:atI [a,b,c,d,e] (-4)=some b:=rfl
@[simp] def mq{a b c d e f:D}:atI [a,b,c,d,e,f] (-4)=some c:=rfl
def Xa{i j:Nat}(ht:Hb t)(h:Ft t k st)(hk:k<=17)(hc:Can t st (.Ig i j)):A9 [A4 st.AA,MD st.AA,(AN.Ig i j).d] S=Gc (shD (B8 (AK st.AA i).n (AK st.AA j).n (AK st.AA i).ow (AK st.AA j).ow),S):=by
 obtain⟨hij,hi,hj,h1,h2,h3⟩:=hc
 have sz:=h.sz
 have pi:=h.pcs _ (AS hi)
 have pj:=h.pcs _ (AS hj)
 have ti:=h.own _ (AS hi)
 have tj:=h.own _ (AS hj)
 have zi:=sz.1 _ (AS hi)
 have zj:=sz.1 _ (AS hj)
 have hp:t.p<=10:=by have:=ht.2.1;lia
 .by_cases hle:i<=j
  .have hle':(i:Int)<=j:=by lia
   have e:=ET (S:=S) (j:=30+170*k) (n:=131+k) zi zj (Fz pi.1 pi.2) (Fz pj.1 pj.2) (by lia) (by lia) (by lia)
   rw[OA]at e
   have a1:=JS hi
   have a2:=JS hj
   have b1:=NK hi
   have b2:=NK hj
   have mf:Bx [(AN.Ig i j).d] S=Gc (.lst [.int i,.int j],S):=by
    simp[Bx,EH,AN.d,hle,hle']
   simp only[AN.d]at mf⊢
   simp[A9,Co,mf,a1,a2,b1,b2,e]
  .have hle':¬(i:Int)<=j:=by lia
   have e:=ET (S:=S) (j:=30+170*k) (n:=131+k) zj zi (Fz pj.1 pj.2) (Fz pi.1 pi.2) (by lia) (by lia) (by lia)
   rw[OA,Sk]at e
   have a1:=JS hi
   have a2:=JS hj
   have b1:=NK hi
   have b2:=NK hj
   have mf:Bx [(AN.Ig i j).d] S=Gc (.lst [.int j,.int i],S):=by
    simp[Bx,EH,AN.d,hle,hle']
   simp only[AN.d]at mf⊢
   simp[A9,Co,mf,a1,a2,b1,b2,e]
def X5{i kd:Nat}{g n:Int}(hi:i<st.AA.length):A9 [A4 st.AA,MD st.AA,(AN.swap i g kd n).d] S=Gc (shD (AK st.AA i).ow,S):=by
 have b1:=NK hi
 simp[A9,Co,Bx,EH,AN.d,b1]
def VI{i kd:Nat}{u g n:Int}(hi:i<st.AA.length):A9 [A4 st.AA,MD st.AA,(AN.Cm u i g kd n).d] S=Gc (shD (AK st.AA i).ow,S):=by
 have b1:=NK hi
 simp[A9,Co,Bx,EH,AN.d,b1]
def Za{ws:Wp Int}(h:Ft t k st)(hk:k<=17)(hl:ws.length=t.k+1)(hw:∀w∈ws,1<=w/\w<=99):Dg [t.d,A4 st.AA,.tup (ws.map D.int)] S=Gc (.int (C0 t st.AA ws),S):=by
 have hlen:=h.len
 have e:=BH (gs:=[]) (t:=tTp [tNm 1,tNm 2]) (f:=eOp (o2 Bq) [eV 2,eOp (o2 wIx) [eV 0,eV 1]]) (C:=[Gc (.tup (ws.map D.int))]) (m:=2) (e:=hD) (g:=λx=>D.int (x.n*ws.getD x.k 0)) (S:=S) AO (xs:=st.AA) (acc:=[]) (os:=[none,none]) rfl (va (show _<=50 by simp;lia) (AI (by decide))) (by
  intro x hx os ho
  obtain⟨q1,q2,rfl⟩:=fD ho
  have hkk:=h.kind _ hx
  have w1:=Ui (ws:=ws) (i:=x.k) (by lia)
  have w2:=NQ hw (i:=x.k) (by lia)
  have m1:DO x.n (ws.getD x.k 0)=true:=mulR (by lia) (by lia)
  generalize ws.getD x.k 0=wz at*
  refine⟨[Gc (.int x.k),Gc (.int x.n)],rfl,by simp,?_⟩
  simp[w1,m1])
 simp only[wg,v7]at e
 have es:Mg (st.AA.map λx=>D.int (x.n*ws.getD x.k 0))=Gc (st.AA.map λx=>x.n*ws.getD x.k 0):=by
  have:=HI (st.AA.map λx=>x.n*ws.getD x.k 0)
  rwa [wR]at this
 have w2:=Pd hl
 have w4:=NQ hw (i:=t.k) (by lia)
 have m2:DO (t.b:Int) (ws.getD t.k 0)=true:=mulR (by lia) (by lia)
 have e2:C0 t st.AA ws=(st.AA.map λx=>x.n*ws.getD x.k 0).sum+t.b*ws.getD t.k 0:=rfl
 rw[e2]
 have sq:sqD S (A4 st.AA)=Gc (st.AA.map hD,[]):=rfl
 generalize (st.AA.map λx=>x.n*ws.getD x.k 0)=es' at*
 generalize (st.AA.map λx=>D.int (x.n*ws.getD x.k 0))=es2 at*
 generalize ws.getD t.k 0=wb at*
 simp[Dg,Ib,Tr.d,sq,e,es,w2,m2]
def eg{i:Nat}{n:Int}{ws:Wp Int}(ht:Hb t)(h:Ft t k st)(hk:k<=17)(hc:Can t st (.thr i n ws)):EJ [t.d,A4 st.AA,(AN.thr i n ws).d] S=Gc (aD (Ka t st.AA i n ws),S):=by
 obtain⟨hi,h1,h2,hl,hw⟩:=hc
 have a:=Jg ht h (by lia) hl hw
 have w1:=Ui (ws:=ws) (i:=(AK st.AA i).k) (by have:=h.kind _ (AS hi);lia)
 have w3:=NQ hw (i:=(AK st.AA i).k) (by have:=h.kind _ (AS hi);lia)
 have m1:DO n (ws.getD (AK st.AA i).k 0)=true:=mulR (by lia) (by lia)
 have l1:=Yp (S:=S) (t:=n*ws.getD (AK st.AA i).k 0) a.1 (Cp (Fz (by lia) a.2) (by lia))
 have wo:=Za (S:=S) h hk hl hw
 have ah:=JS hi
 rw[Mw hi]
 generalize aD (((n*ws.getD (AK st.AA i).k 0:Int):Rat) / (C0 t st.AA ws:Rat))=R at*
 generalize ws.getD (AK st.AA i).k 0=wa at*
 simp[EJ,Im,AN.d,ah,w1,m1,wo,l1]
def Yd{X:Rat}{ss os:Wp Rat}:SN ((X.den:Int)-X.num) X.num ss os=HK X os ss:=by
 unfold SN HK
 congr 1
 funext s o
 have h1:=C5 X
 have h2:=IY X
 push_cast
 have e:((X.den:Rat)-(X.num:Rat)+(X.num:Rat))=(X.den:Rat):=by grind
 rw[e]
 grind
def Xp{i:Nat}{n:Int}{ws:Wp Int}{ss:Wp Rat}(ht:Hb t)(h:Ft t k st)(hk:k<=17)(hc:Can t st (.thr i n ws))(hs:∀r∈ss,Sz (30+170*k) r)(hl:ss.length<=50):C6 [t.d,A4 st.AA,MD st.AA,(AN.thr i n ws).d,shD ss] S=Gc (shD (HK (Ka t st.AA i n ws) (AK st.AA i).ow ss),S):=by
 have pt:=eg (S:=S) ht h hk hc
 obtain⟨hi,h1,h2,hl',hw⟩:=hc
 have cz:=WN ht h (by lia) hl' hw hi h1 h2
 have b1:=NK hi
 generalize Ka t st.AA i n ws=X at*
 have d0:=den_pos X
 have c2:=cz.2
 have e:=ET (S:=S) (w:=(X.den:Int)-X.num) (m:=X.num) (j:=30+170*k) (n:=146+k) hs (h.sz.1 _ (AS hi)) (by
  rw[show 146+k=(145+k)+1 by lia,yK,Nat.mul_two]
  exact wO (Int.natAbs_sub_le _ _) (Nat.add_lt_add c2 cz.1)) (hJ cz.1 (by lia)) (by lia) (by lia) hl
 rw[Yd]at e
 generalize HK X (AK st.AA i).ow ss=rs at*
 simp only[aD,AN.d]at pt⊢
 simp[C6,HA,pt,b1,e]
def YA{p q:Nat}{x:Rat}{ss:Wp Rat}{j i:Nat}(hs:∀r∈ss,Sz j r)(hx:Sz i x)(hj:2*j+i<=7900)(hp:p<ss.length)(hq:q<ss.length)(hpq:p≠q):∃S',EV [(AN.Et p q x).d,shD ss] S=Gc (shD (FU p q x ss),S')/\B5 [] S S':=by
 have sp:=hs _ (getD_mem (d:=0) hp)
 have sq:=hs _ (getD_mem (d:=0) hq)
 have l1:∀S,Cc [aD (ss.getD p 0),aD x] S=Gc (aD (ss.getD p 0*x),S):=λS=>Yb sp hx (by lia)
 have s1:=O4 sp hx
 have l2:∀S,Ea [aD (ss.getD p 0),aD (ss.getD p 0*x)] S=Gc (aD (ss.getD p 0-ss.getD p 0*x),S):=λS=>jm sp s1 (by lia)
 have l3:∀S,Gi [aD (ss.getD q 0),aD (ss.getD p 0*x)] S=Gc (aD (ss.getD q 0+ss.getD p 0*x),S):=λS=>eP sq s1 (by lia)
 have a1:=Xi hp
 have a2:=Xi hq
 have i1:=cn hp
 have i2:ixN (((ss.map aD).set p (aD (ss.getD p 0-ss.getD p 0*x))).length) (q:Int)=Gc q:=QD (by simpa using hq)
 refine⟨S++[.lst ((FU p q x ss).map aD)],?_,.app⟩
 simp only[yR,wY]at i1 i2
 have em:(FU p q x ss).map aD=((ss.map aD).set p (aD (ss.getD p 0-ss.getD p 0*x))).set q (aD (ss.getD q 0+ss.getD p 0*x)):=by rw[FU,AAH,AAH]
 unfold shD
 rw[em]
 generalize aD (ss.getD p 0-ss.getD p 0*x)=d1 at*
 generalize aD (ss.getD q 0+ss.getD p 0*x)=d2 at*
 generalize aD (ss.getD p 0*x)=d3 at*
 generalize aD (ss.getD p 0)=d4 at*
 generalize aD (ss.getD q 0)=d5 at*
 simp[EV,Io,AN.d,a1,a2,l1,l2,l3,i1,i2]
end
def Wf(t:Tr):AN->Prop
 | .DX p k n=>p<t.p/\k<t.k/\1<=n/\n<2^131
 | .Ig a b=>a≠b
 | .swap _ g k n=>1<=g/\k<t.k/\1<=n/\n<2^131
 | .Cm u _ g k n=>1<=g/\k<t.k/\1<=n/\n<2^131/\0<=u/\u<=9
 | .Dq _ n=>1<=n
 | .thr _ n ws=>1<=n/\ws.length=t.k+1/\∀w∈ws,1<=w/\w<=99
 | .Et p q x=>p≠q/\p<t.p/\q<t.p/\0<x.num/\x.num<=x.den/\x.den<=12
noncomputable def thB(st:Stt)(l:Nat)(n:Int):xD:=decide (l<st.AA.length) && decide (n<=(AK st.AA l).n)
noncomputable def swB(st:Stt)(l:Nat)(g:Int)(k:Nat):xD:=thB st l g && !((AK st.AA l).k==k)
noncomputable def T9(st:Stt):AN->xD
 | .DX .. =>true
 | .Ig a b=>thB st a 1 && (thB st b 1 && ((AK st.AA a).k==(AK st.AA b).k))
 | .swap l g k _=>swB st l g k
 | .Cm u l g k _=> !(st.nums.any λx=>x==u) && swB st l g k
 | .Dq l n=>thB st l n
 | .thr l n _=>thB st l n
 | .Et .. =>true
section
variable{st:Stt}
def p0{us:Wp Int}:(us.any λx=>x==u)=false↔u∉us:=by
 rw[ABo]
 constructor
 .intro h z
  exact h u z (by simp)
 .intro h x hx z
  have:x=u:=by simpa using z
  exact h (this▸hx)
def dG(h:Can t st d):Wf t d/\T9 st d=true:=by
 cases d with
 |DX p k n=>exact⟨h,rfl⟩
 |Ig a b=>
  obtain⟨h1,h2,h3,h4,h5,h6⟩:=h
  refine⟨h1,?_⟩
  simp only[T9,thB,vn,xE,AAV]
  exact⟨⟨h2,by lia⟩,⟨h3,by lia⟩,h6⟩
 |swap l g k n=>
  obtain⟨h1,h2,h3,h4,h5,h6,h7⟩:=h
  refine⟨⟨h2,h4,h6,h7⟩,?_⟩
  simp only[T9,swB,thB,vn,xE,ABu,yn,ne_eq]
  exact⟨⟨h1,h3⟩,λz=>h5 z.symm⟩
 |Cm u l g k n=>
  obtain⟨h1,h2,h3,h4,h5,h6,h7,h8,h9,h10⟩:=h
  refine⟨⟨h2,h4,h6,h7,h9,h10⟩,?_⟩
  simp only[T9,swB,thB,vn,xE,ABu,yn,ne_eq]
  exact⟨p0.mpr h8,⟨h1,h3⟩,λz=>h5 z.symm⟩
 |Dq l n=>
  obtain⟨h1,h2,h3⟩:=h
  refine⟨h2,?_⟩
  simp only[T9,thB,vn,xE]
  exact⟨h1,h3⟩
 |thr l n ws=>
  obtain⟨h1,h2,h3,h4⟩:=h
  refine⟨⟨h2,h4⟩,?_⟩
  simp only[T9,thB,vn,xE]
  exact⟨h1,h3⟩
 |Et p q x=>exact⟨h,rfl⟩
def QV(h:l<st.AA.length):atI (st.AA.map hD) (l:Int)=Gc (hD (AK st.AA l)):=DM (by rw[wJ,Fe h];rfl)
def Nm{l:Nat}:Bc [A4 st.AA,.int l,.int n] S=Gc (.bl (thB st l n),S):=by
 by_cases h:l<st.AA.length
 .have a:=QV h
  have h':(l:Int)<(st.AA.length:Int):=by lia
  have e:thB st l n=decide (n<=(AK st.AA l).n):=by simp[thB,h]
  rw[e]
  simp[Bc,Gu,A4,h',a,hD]
 .have h':¬(l:Int)<(st.AA.length:Int):=by lia
  have e:thB st l n=false:=by simp[thB,h]
  rw[e]
  simp[Bc,Gu,A4,h']
def X1(h:thB st l n=true):l<st.AA.length:=by
 simp only[thB,vn,xE]at h
 exact h.1
def Ta{a b:Nat}:((a:Int)==(b:Int))=(a==b):=by
 rw[AAU,AAV,AAV]
 exact Int.ofNat_inj
def UG{l k:Nat}:D3 [A4 st.AA,.int l,.int g,.int k] S=Gc (.bl (swB st l g k),S):=by
 have e:=Nm (S:=S) (st:=st) (l:=l) (n:=g)
 unfold swB
 cases h:thB st l g with
 |false=>
  rw[h]at e
  generalize A4 st.AA=HD at*
  simp[D3,JB,e]
 |true=>
  rw[h]at e
  have a:=QV (X1 h)
  simp only[A4]at e⊢
  have nb:=Ta (a:=(AK st.AA l).k) (b:=k)
  generalize st.AA.map hD=HL at*
  simp[D3,JB,e,a,hD,nb]
def Zb{a b:Nat}:D2 [A4 st.AA,.int a,.int b] S=Gc (.bl (thB st a 1 && (thB st b 1 && ((AK st.AA a).k==(AK st.AA b).k))),S):=by
 have e1:=Nm (S:=S) (st:=st) (l:=a) (n:=1)
 have e2:=Nm (S:=S) (st:=st) (l:=b) (n:=1)
 cases h:thB st a 1 with
 |false=>
  rw[h]at e1
  generalize A4 st.AA=HD at*
  simp[D2,Gb,e1]
 |true=>
  rw[h]at e1
  cases h2:thB st b 1 with
  |false=>
   rw[h2]at e2
   generalize A4 st.AA=HD at*
   simp[D2,Gb,e1,e2]
  |true=>
   rw[h2]at e2
   have a1:=QV (X1 h)
   have a2:=QV (X1 h2)
   have nb:=Ta (a:=(AK st.AA a).k) (b:=(AK st.AA b).k)
   simp only[A4]at e1 e2⊢
   generalize st.AA.map hD=HL at*
   simp[D2,Gb,e1,e2,a1,a2,hD,nb]
def qO{ds:Wp AN}(hd:ds.length<=50)(hn:st.nums=ds.filterMap IM):CK [A4 st.AA,.tup (ds.map AN.d),d.d] S=Gc (.bl (T9 st d),S):=by
 cases d with
 |DX p kd n=>simp[CK,D5,AN.d,T9]
 |Ig i j=>
  have e:=Zb (S:=S) (st:=st) (a:=i) (b:=j)
  simp[CK,D5,AN.d,e,T9]
 |swap i g kd n=>
  have e:=UG (S:=S) (st:=st) (l:=i) (g:=g) (k:=kd)
  simp[CK,D5,AN.d,e,T9]
 |Cm u i g kd n=>
  have e:=UG (S:=S) (st:=st) (l:=i) (g:=g) (k:=kd)
  have tc:=MS (S:=S) (ds:=ds) (acc:=[]) (o:=none) (by simp;lia)
  rw[<-hn]at tc
  have fi:=RH (us:=st.nums)
  have ii:=U7 (us:=st.nums) (i:=u)
  have cb:T9 st (.Cm u i g kd n)=(!(st.nums.any λx=>x==u) && swB st i g kd):=rfl
  rw[cb]
  generalize st.nums.map D.int=ud at*
  generalize (st.nums.any λx=>x==u)=q at*
  rw[v7]at tc
  cases q<;>simp[CK,D5,AN.d,tc,fi,ii,e]
 |Dq i n=>
  have e:=Nm (S:=S) (st:=st) (l:=i) (n:=n)
  simp[CK,D5,AN.d,e,T9]
 |thr i n ws=>
  have e:=Nm (S:=S) (st:=st) (l:=i) (n:=n)
  simp[CK,D5,AN.d,e,T9]
 |Et p q x=>simp[CK,D5,AN.d,T9]
end
theorem RQ{α:Type}{gs:Gd}{t:Tf}{f:Ev}{C:En}{m:Nat}{e g:α->D}(hg:∀S,gOk gs S):∀{xs:Wp α} {acc:Wp D} {os:En} {S:Sto},os.length=m->acc.length+xs.length<=sizeLine->(∀x∈xs,∀os S,os.length=m->∃us S',us.length=m/\t (e x) (C++os) S=Gc (C++us)/\f (C++us) S=Gc (g x,S')/\B5 [] S S')->∃S',Bk gs t Ai f (xs.map e) acc (C++os) S=Gc (acc++xs.map g,S')/\B5 [] S S'
 | [],acc,os,S,ho,hz,h=>⟨S,by rw[xQ,EG (hg S)];simp,.refl⟩
 |x::xs,acc,os,S,ho,hz,h=>by
  obtain⟨us,S1,hu,e1,e2,s1⟩:=h x vp os S ho
  obtain⟨S2,e3,s2⟩:=RQ hg (xs:=xs) (acc:=acc++[g x]) (os:=us) (S:=S1) hu (by simp at hz ⊢; lia) λx' hx=>h x' (vh _ hx)
  refine⟨S2,?_,s1.trans s2⟩
  rw[v5,Hy (hg S) (by simp at hz;lia) e1 GI,e2,An,e3]
  simp
section
variable{S:Sto}{st:Stt}{t:Tr}{k:Nat}
noncomputable def shB(t:Tr)(st:Stt):AN->Wp Rat->Wp Rat
 | .thr i n ws,ss=>HK (Ka t st.AA i n ws) (AK st.AA i).ow ss
 | .Et p q x,ss=>FU p q x ss
 |_,ss=>ss
def Rt{d:AN}{ss:Wp Rat}(ht:Hb t)(h:Ft t k st)(hk:k<=17)(hc:Can t st d)(hs:∀r∈ss,Sz (30+170*k) r)(hl:ss.length=t.p):∃S',Ab [t.d,A4 st.AA,MD st.AA,d.d,shD ss] S=Gc (shD (shB t st d ss),S')/\B5 [] S S':=by
 have tp:=ht.2.1
 cases d with
 |thr i n ws=>
  have e:=Xp (S:=S) ht h hk hc hs (by lia)
  refine⟨S,?_,.refl⟩
  simp only[AN.d]at e⊢
  simp[Ab,A3,e,shB]
 |Et p q x=>
  obtain⟨hpq,hp,hq,x1,x2,x3⟩:=hc
  have hx:Sz 4 x:=by
   refine⟨?_,by lia⟩
   show x.num.natAbs<16
   lia
  obtain⟨S',e,sm⟩:=YA (S:=S) (p:=p) (q:=q) hs hx (by lia) (by lia) (by lia) hpq
  refine⟨S',?_,sm⟩
  simp only[AN.d]at e⊢
  simp[Ab,A3,e,shB]
 |DX p kd n=>exact⟨S,by simp[Ab,A3,AN.d,shB],.refl⟩
 |Ig i j=>exact⟨S,by simp[Ab,A3,AN.d,shB],.refl⟩
 |swap i g kd n=>exact⟨S,by simp[Ab,A3,AN.d,shB],.refl⟩
 |Cm u i g kd n=>exact⟨S,by simp[Ab,A3,AN.d,shB],.refl⟩
 |Dq i n=>exact⟨S,by simp[Ab,A3,AN.d,shB],.refl⟩
def Wg{d:AN}:(step t st d).hold=shB t st d st.hold:=by cases d<;>rfl
def Li{i:Nat}{n:Int}{ls:Wp Ld}(hi:i<ls.length){β:Type}(f:Wp Rat->β):(less ls i n).map (λx=>f x.ow)=ls.map λx=>f x.ow:=by
 rw[Tt,AAH]
 have:(ls.map λx=>f x.ow)[i]?=Gc (f (AK ls i).ow):=by rw[wJ,Fe hi];rfl
 apply zt
 intro j
 by_cases e:i=j
 .subst e;rw[vx (by simpa using hi),this]
 .rw[vj e]
@[simp] def rW{ls:List Ld}:sqD S (MD ls)=some (ls.map λx=>shD x.ow,[]):=rfl
def Ws{d:AN}(ht:Hb t)(h:Ft t k st)(hk:k<=17)(hc:Can t st d):∃S',Ah [t.d,A4 st.AA,MD st.AA,d.d] S=Gc (MD (step t st d).AA,S')/\B5 [] S S':=by
 have hlen:=h.len
 have sz:=h.sz
 have tp:=ht.2.1
 obtain⟨S',e,sm⟩:=RQ (gs:=[]) (t:=tNm 4) (f:=AB Ab [eV 0,eV 1,eV 2,eV 3,eV 4]) (C:=[Gc t.d,Gc (A4 st.AA),Gc (MD st.AA),Gc d.d]) (m:=1) (e:=λx:Ld=>shD x.ow) (g:=λx=>shD (shB t st d x.ow)) (λ_=>AO) (xs:=st.AA) (acc:=[]) (os:=[none]) (S:=S) rfl (va (show _<=50 by simp;lia) (AI (by decide))) (by
  intro x hx os S0 ho
  obtain⟨q1,rfl⟩:=J3 ho
  obtain⟨S1,e1,s1⟩:=Rt (S:=S0) (d:=d) (ss:=x.ow) ht h hk hc (sz.1 x hx) (h.own x hx)
  refine⟨[Gc (shD x.ow)],S1,rfl,by simp,?_,s1⟩
  simp[e1])
 simp only[wg,v7]at e
 refine⟨S',?_,sm⟩
 have hz:(st.AA.map λx=>shD (shB t st d x.ow)).length+1<=sizeLine:=va (show _<=100 by simp;lia) (AI (by decide))
 cases d with
 |DX p kd n=>
  have a1:=QQ (S:=S') (P:=t.p) (p:=p) (by lia)
  have ef:MD (step t st (.DX p kd n)).AA=.lst ((st.AA.map λx=>shD (shB t st (.DX p kd n) x.ow))++[shD (Sw t.p p)]):=by simp[MD,step,shB]
  rw[ef]
  generalize (st.AA.map λx=>shD (shB t st (.DX p kd n) x.ow))=A at*
  simp only[AN.d,Tr.d]at e⊢
  simp[Ah,A5,e,a1,hz]
 |Ig i j=>
  have a1:=Xa (S:=S') ht h hk hc
  obtain⟨hij,hi,hj,h1,h2,h3⟩:=hc
  have e0:AK (less st.AA i (AK st.AA i).n) j=AK st.AA j:=by
   unfold AK less
   rw[v8,vj hij,<-v8]
  have ef:MD (step t st (.Ig i j)).AA=.lst ((st.AA.map λx=>shD (shB t st (.Ig i j) x.ow))++[shD (B8 (AK st.AA i).n (AK st.AA j).n (AK st.AA i).ow (AK st.AA j).ow)]):=by
   show D.lst ((less (less st.AA i (AK st.AA i).n) j (AK st.AA j).n++[_]).map λx:Ld=>shD x.ow)=_
   rw[yT,Li (by rw[Bp];exact hj),Li hi]
   rfl
  rw[ef]
  generalize (st.AA.map λx=>shD (shB t st (.Ig i j) x.ow))=A at*
  simp only[AN.d]at e a1⊢
  simp[Ah,A5,e,a1,hz]
 |swap i g kd n=>
  have hi:=hc.1
  have a1:=X5 (S:=S') (st:=st) (i:=i) (kd:=kd) (g:=g) (n:=n) hi
  have ef:MD (step t st (.swap i g kd n)).AA=.lst ((st.AA.map λx=>shD (shB t st (.swap i g kd n) x.ow))++[shD (AK st.AA i).ow]):=by
   show D.lst ((less st.AA i g++[_]).map λx:Ld=>shD x.ow)=_
   rw[yT,Li hi]
   rfl
  rw[ef]
  generalize (st.AA.map λx=>shD (shB t st (.swap i g kd n) x.ow))=A at*
  simp only[AN.d]at e a1⊢
  simp[Ah,A5,e,a1,hz]
 |Cm u i g kd n=>
  have hi:=hc.1
  have a1:=VI (S:=S') (st:=st) (i:=i) (kd:=kd) (u:=u) (g:=g) (n:=n) hi
  have ef:MD (step t st (.Cm u i g kd n)).AA=.lst ((st.AA.map λx=>shD (shB t st (.Cm u i g kd n) x.ow))++[shD (AK st.AA i).ow]):=by
   show D.lst ((less st.AA i g++[_]).map λx:Ld=>shD x.ow)=_
   rw[yT,Li hi]
   rfl
  rw[ef]
  generalize (st.AA.map λx=>shD (shB t st (.Cm u i g kd n) x.ow))=A at*
  simp only[AN.d]at e a1⊢
  simp[Ah,A5,e,a1,hz]
 |Dq i n=>
  have ef:MD (step t st (.Dq i n)).AA=.lst (st.AA.map λx=>shD (shB t st (.Dq i n) x.ow)):=by
   show D.lst ((less st.AA i n).map λx:Ld=>shD x.ow)=_
   rw[Li hc.1]
   rfl
  rw[ef]
  generalize (st.AA.map λx=>shD (shB t st (.Dq i n) x.ow))=A at*
  simp only[AN.d]at e⊢
  simp[Ah,A5,e]
 |thr i n ws=>
  have ef:MD (step t st (.thr i n ws)).AA=.lst (st.AA.map λx=>shD (shB t st (.thr i n ws) x.ow)):=by
   show D.lst (((less st.AA i n).map _).map λx:Ld=>shD x.ow)=_
   rw[wR]
   exact congrArg D.lst (Li hc.1 (λo=>shD (HK (Ka t st.AA i n ws) (AK st.AA i).ow o)))
  rw[ef]
  generalize (st.AA.map λx=>shD (shB t st (.thr i n ws) x.ow))=A at*
  simp only[AN.d]at e⊢
  simp[Ah,A5,e]
 |Et p q x=>
  have ef:MD (step t st (.Et p q x)).AA=.lst (st.AA.map λy=>shD (shB t st (.Et p q x) y.ow)):=by
   show D.lst ((st.AA.map _).map λy:Ld=>shD y.ow)=_
   rw[wR]
   rfl
  rw[ef]
  generalize (st.AA.map λy=>shD (shB t st (.Et p q x) y.ow))=A at*
  simp only[AN.d]at e⊢
  simp[Ah,A5,e]
@[simp] def rF{ls:List Ld}:sqD S (A4 ls)=some (ls.map hD,[]):=rfl
def Lj{ls:Wp Ld}{x y:D}(hl:ls.length<=50):Be [.tup [x,.tup (ls.map Ld.d),y]] S=Gc (A4 ls,S):=by
 have e:=BH (gs:=[]) (t:=tNm 0) (f:=Bh [eOp (o2 wIx) [eV 0,eC (.int 0)],eOp (o2 wIx) [eV 0,eC (.int 1)]]) (C:=[]) (m:=1) (e:=Ld.d) (g:=hD) (S:=S) AO (xs:=ls) (acc:=[]) (os:=[none]) rfl (va (show _<=50 by simp;lia) (AI (by decide))) (by
  intro x hx os ho
  obtain⟨q1,rfl⟩:=J3 ho
  refine⟨[Gc x.d],rfl,by simp,?_⟩
  simp[Ld.d,hD])
 simp only[v7]at e
 simp[Be,HG,e,A4]
def XD{ls:Wp Ld}(hl:ls.length<=50):Bk [] (tNm 0) Ai (eOp (o2 wIx) [eV 0,eC (.int 2)]) (ls.map Ld.d) [] [none] S=Gc (ls.map λx=>shD x.ow,S):=
 BH (gs:=[]) (t:=tNm 0) (f:=eOp (o2 wIx) [eV 0,eC (.int 2)]) (C:=[]) (m:=1) (e:=Ld.d) (g:=λx=>shD x.ow) (S:=S) AO (xs:=ls) (acc:=[]) (os:=[none]) rfl (va (show _<=50 by simp;lia) (AI (by decide))) (by
  intro x hx os ho
  obtain⟨q1,rfl⟩:=J3 ho
  refine⟨[Gc x.d],rfl,by simp,?_⟩
  simp[Ld.d])
def UM{ls:Wp Ld}{ds:Wp AN}{n:Nat}(h:CA t ls ds)(hn:n<=ds.length):∃S',FD [Aa t ls ds,.int n] S=Gc (.tup [A4 (runs t (st0 t ls) (ds.take n)).AA,MD (runs t (st0 t ls) (ds.take n)).AA,shD (runs t (st0 t ls) (ds.take n)).hold],S')/\B5 [] S S':=by
 have hl0:ls.length<=4:=h.four
 have ct:MU (ds.map AN.d) none (Gc (n:Int))=(ds.take n).map AN.d:=by rw[Mr (by simpa using hn),AB2]
 obtain⟨E',S',ef,i,o,f1,f2,rfl,f3⟩:=Hx (gs:=[]) (t:=tNm 8) (b:=AM (A6 7 (AB Ab [eV 2,eV 5,eV 6,eV 8,eV 7]))
  (AM (A6 6 (AB Ah [eV 2,eV 5,eV 6,eV 8]))
  (A6 5 (AB Ad [eV 5,eV 8]))))
  (I:=λrs E S'=>∃(i:Nat) (o:vi D),rs=((ds.take n).drop i).map AN.d/\i<=n/\E=[Gc (Aa t ls ds),Gc (.int n),Gc t.d,Gc (.tup (ls.map Ld.d)),Gc (.tup (ds.map AN.d)),Gc (A4 (runs t (st0 t ls) (ds.take i)).AA),Gc (MD (runs t (st0 t ls) (ds.take i)).AA),Gc (shD (runs t (st0 t ls) (ds.take i)).hold),o]/\B5 [] S S')
  (λ_ _ _ _=>AO) (ds:=(ds.take n).map AN.d) (E:=[Gc (Aa t ls ds),Gc (.int n),Gc t.d,Gc (.tup (ls.map Ld.d)),Gc (.tup (ds.map AN.d)),Gc (A4 ls),Gc (MD ls),Gc (shD t.ho),none]) (S:=S)
  ⟨0,none,by simp,yB _,by simp[runs,st0],.refl⟩ (by
    rintro dd rs E T ⟨i,o,i1,i2,rfl,i3⟩
    have hlt:i<(ds.take n).length:=by
     rcases ACa i (ds.take n).length with w|w
     .exact w
     .rw[yO w]at i1;cases i1
    rw[xi hlt,v5]at i1
    injection i1 with z1 z2
    subst z1 z2
    have hlt':i<ds.length:=by simp at hlt;lia
    have hin:i<n:=by simp at hlt;lia
    have hg:(ds.take n)[i]=ds[i]:=List.getElem_take
    rw[hg]
    have inv:=h.at i
    have il0:(ds.take i).length<=16:=by have:=h.len;simp;lia
    have il:16<=16:=vf _
    have can:=M8 h.good (vk hlt')
    obtain⟨T1,e1,s1⟩:=Rt (S:=T) h.tr inv (by lia) can inv.sz.2 inv.hold
    obtain⟨T2,e2,s2⟩:=Ws (S:=T1) h.tr inv (by lia) can
    have e3:=ON (S:=T2) inv (by lia) can
    have rt:=OT (t:=t) (st:=st0 t ls) (vk hlt')
    refine⟨_,[Gc (Aa t ls ds),Gc (.int n),Gc t.d,Gc (.tup (ls.map Ld.d)),Gc (.tup (ds.map AN.d)),Gc (A4 (runs t (st0 t ls) (ds.take (i+1))).AA),Gc (MD (runs t (st0 t ls) (ds.take (i+1))).AA),Gc (shD (runs t (st0 t ls) (ds.take (i+1))).hold),Gc ds[i].d],T2,by simp;rfl,?_,i+1,Gc ds[i].d,rfl,hin,rfl,(i3.trans s1).trans s2⟩
    rw[rt]
    rw[<-Wg]at e1
    simp[e1,e2,e3])
 have hz:i=n:=by
  have:=congrArg zy f1
  simp at this
  lia
 subst hz
 refine⟨S',?_,f3⟩
 have fh:=Lj (S:=S) (ls:=ls) (x:=t.d) (y:=.tup (ds.map AN.d)) (by lia)
 have fo:=XD (S:=S) (ls:=ls) (by lia)
 have fo':D.lst (ls.map λx=>shD x.ow)=MD ls:=rfl
 have th:atI [D.int t.p,D.int t.k,D.int t.b,shD t.ho,D.int t.h,D.int t.l] 3=Gc (shD t.ho):=by simp
 simp only[Aa]at ef⊢
 have td:wIx (.val t.d) (.val (.int 3))=Gc (.val (shD t.ho)):=by simp[Tr.d]
 have dt:dr S t.d=.val t.d:=rfl
 rw[AB2]at ef ct
 simp[FD,MF,fh,fo,fo',-gm,td,dt,ct,ef]
def Jq{ls:Wp Ld}{ds:Wp AN}(h:CA t ls ds):CL [Aa t ls ds] S=Gc (.non,S):=by
 have hl0:ls.length<=4:=h.four
 have hd:=h.len
 obtain⟨E',S',ef,i,o1,o2,f1,f2,rfl,rfl⟩:=Hx (gs:=[]) (t:=tTp [tNm 3,tNm 4]) (b:=AM (xIf (Jm (AB CK [eV 1,eOp (HR false true) [eV 2,eV 3],eV 4])) (AU (eV 3)) BX)
  (A6 1 (AB Ad [eV 1,eV 4])))
  (I:=λrs E S'=>∃(i:Nat) (o1 o2:vi D),rs=(QY 0 (ds.map AN.d)).drop i/\i<=ds.length/\E=[Gc (Aa t ls ds),Gc (A4 (runs t (st0 t ls) (ds.take i)).AA),Gc (.tup (ds.map AN.d)),o1,o2]/\S'=S)
  (λ_ _ _ _=>AO) (ds:=QY 0 (ds.map AN.d)) (E:=[Gc (Aa t ls ds),Gc (A4 ls),Gc (.tup (ds.map AN.d)),none,none]) (S:=S)
  ⟨0,none,none,by simp,yB _,by simp[runs,st0],rfl⟩ (by
    rintro dd rs E T ⟨i,o1,o2,i1,i2,rfl,rfl⟩
    have el:(QY 0 (ds.map AN.d)).length=ds.length:=by rw[R5];simp
    have hlt:i<ds.length:=by
     rcases ACa i ds.length with w|w
     .exact w
     .rw[yO (by lia)]at i1;cases i1
    rw[xi (by lia)]at i1
    injection i1 with z1 z2
    have hd1:dd=.tup [.int i,ds[i].d]:=by
     have:=NA (ds:=ds.map AN.d) (k:=0) (i:=i)
     rw[vk (by lia),<-z1,wJ,vk hlt]at this
     simpa using this
    subst z2
    subst hd1
    have inv:=h.at i
    have il0:(ds.take i).length<=16:=by simp;lia
    have il:16<=16:=vf _
    have can:=M8 h.good (vk hlt)
    have cd:=qO (S:=T) (st:=runs t (st0 t ls) (ds.take i)) (ds:=ds.take i) (d:=ds[i]) (by lia) YS
    rw[(dG can).2]at cd
    have e3:=ON (S:=T) inv (by lia) can
    have rt:=OT (t:=t) (st:=st0 t ls) (vk hlt)
    have ct:=Mr (ds:=ds.map AN.d) (n:=i) (by simp;lia)
    rw[AB2]at cd
    refine⟨_,[Gc (Aa t ls ds),Gc (A4 (runs t (st0 t ls) (ds.take (i+1))).AA),Gc (.tup (ds.map AN.d)),Gc (.int i),Gc ds[i].d],T,by simp;rfl,?_,i+1,Gc (.int i),Gc ds[i].d,rfl,hlt,rfl,rfl⟩
    rw[rt]
    simp[ct,cd,e3])
 have fh:=Lj (S:=S') (ls:=ls) (x:=t.d) (y:=.tup (ds.map AN.d)) (by lia)
 simp only[Aa]at ef⊢
 simp[CL,JN,fh,ef]
def NU{ls:Wp Ld}{ds:Wp AN}(h:CA t ls ds):Bi [Aa t ls ds] S=Gc (.non,S):=by
 have e:=Jq (S:=S) h
 simp[Bi,G9,e,isN]
end
theorem qF:∀{ds},(∀d∈ds,d.py.depth<=n)->ACk (D.pys ds)<=n
 | [],_=>by simp[D.pys,ACk]
 |d::ds,h=>by
  have h1:=h d vp
  have h2:=qF λe he=>h e (vh _ he)
  simp only[D.pys,ACk]
  lia
def qy(h:∀d∈ds,d.py.depth<=n):(D.lst ds).py.depth<=n+1:=by
 have:=qF h
 simp only[D.py,ABP]
 lia
def OC(h:∀d∈ds,d.py.depth<=n):(D.tup ds).py.depth<=n+1:=by
 have:=qF h
 simp only[D.py,ABP]
 lia
def JA:(D.int i).py.depth<=n+1:=by
 simp only[D.py,ABP]
 lia
def sY:(aD r).py.depth<=2:=OC (n:=1) (by
 intro d hd
 simp only[ve,vo,wW]at hd
 rcases hd with rfl|rfl<;>exact JA)
def sS:(shD rs).py.depth<=3:=OC (n:=2) (by
 intro d hd
 obtain⟨r,_,rfl⟩:=vq.mp hd
 exact sY)
def tZ{x:Ld}:x.d.py.depth<=4:=OC (n:=3) (by
 intro d hd
 simp only[ve,vo,wW]at hd
 rcases hd with rfl|rfl|rfl
 .exact JA
 .exact JA
 .exact sS)
theorem lr:(aD r).lay=true:=rfl
def dX:(shD rs).lay=true:=Hm λ_ _=>lr
def kz{x:Ld}:x.d.lay=true:=by
 show(true && (true && ((shD x.ow).lay && true)))=true
 rw[dX];rfl
def Nt(h:d.lay=true)(g:d.py.depth<=60):KI d d=true:=by
 unfold KI
 rw[h]
 simp only[Bool.true_and,xE]
 lia
def QI(h:d.lay=true):deq d d=true:=PySem.SeqAt.eqv_refl _ (Lc h)
def gT{k:Nat}:∃c,DK [.scr ns,.int k] S=Gc (.int c,S):=by
 by_cases h:k<ns.length
 .have h':(k:Int)<ns.length:=by lia
  refine⟨ns[k],?_⟩
  have e:atI (ns.map D.int) (k:Int)=Gc (.int ns[k]):=DM (by rw[wJ,vk h];rfl)
  simp[DK,IH,h,h',e]
 .have h':¬(k:Int)<ns.length:=by lia
  exact⟨0,by simp[DK,IH,h,h']⟩
def Ok.add(h:Ok G B r)(g:Ok G C q):Ok G (B+C) (r+q):=by
 obtain⟨z,e1,h1⟩:=h
 obtain⟨y,e2,h2⟩:=g
 refine⟨z+y,?_,Nat.add_le_add h1 h2⟩
 push_cast
 rw[<-e1,<-e2]
 grind
def Ok.mono(h:Ok G B r)(g:B<=C):Ok G C r:=by
 obtain⟨z,e,hz⟩:=h
 exact⟨z,e,va hz g⟩
def Ok.uU{G B N:Nat}{n:Int}(h:Ok G B r)(h0:0<=n)(h1:n<=N):Ok G (B*N) ((n:Rat)*r):=by
 obtain⟨z,e,hz⟩:=h
 refine⟨z*n.toNat,?_,y4 hz (by lia)⟩
 push_cast
 rw[GA h0,<-e]
 grind
theorem QP{F:Fn}(hF:∀{j k} {p q} S,Sz j p->Sz k q->j+k<=7990->F [aD p,aD q] S=Gc (aD (p+q),S)){gs:Gd}{S:Sto}(hg:gOk gs S){X:vi D}{G B K:Nat}(hG:0<G)(gK:G<2^K)(hK:2*K<=7990):∀{rs:Wp Rat} {acc} {m} {o},Ok G (m*B) acc->(∀r∈rs,Ok G B r)->(m+rs.length)*B<2^K->∃o',Mu gs (tNm 2) (A6 1 (AB F [eV 1,eV 2])) (rs.map aD) [X,Gc (aD acc),o] S=Gc (.nx,[X,Gc (aD (acc+rs.sum)),o'],S)
 | [],acc,m,o,ha,hr,hb=>⟨o,by
     rw[xQ,H0 hg,List.sum_nil]
     have:acc+0=acc:=by grind
     rw[this]⟩
 |r::rs,acc,m,o,ha,hr,hb=>by
  have h1:=hr r vp
  have b1:(m+1)*B<=(m+(r::rs).length)*B:=wC _ (by simp)
  have mb:(m+1)*B=m*B+B:=by rw[Nat.succ_mul]
  have za:Sz K acc:=ha.sz hG gK (by lia)
  have zr:Sz K r:=h1.sz hG gK (by lia)
  have e:=hF S za zr (by lia)
  have ha2:Ok G ((m+1)*B) (acc+r):=by rw[mb];exact ha.add h1
  obtain⟨o',ih⟩:=QP hF hg hG gK hK (X:=X) (B:=B) (rs:=rs) (acc:=acc+r) (m:=m+1) (o:=Gc (aD r)) ha2 (λq hq=>hr q (vh _ hq)) (by
   have:m+1+rs.length=m+(r::rs).length:=by simp;lia
   rw[this];exact hb)
  refine⟨o',?_⟩
  have ea:acc+(r::rs).sum=acc+r+rs.sum:=by rw[wX];grind
  rw[v5,Es hg,ea,<-ih]
  simp[e]
theorem YE:aD 0=.tup [.int 0,.int 1]:=rfl
structure Bd(ls:Wp Ld)(G B N K:Nat):Prop where
 g0:0<G
 gK:G<2^K
 hK:2*K<=7000
 own:∀l∈ls,∀r∈l.ow,Ok G B r
 pcs:∀l∈ls,0<=l.n/\l.n<=N
 hB:B<2^K
 hN:N<2^K
 hb:200*(B*N)<2^K
 len:ls.length<=30
section
variable{S:Sto}{ls:Wp Ld}{G B N K:Nat}
def fP{n:Nat}:OX 0 (n:Int).toNat=(xI n).map λ(i:Nat)=>D.int i:=by simp[OX]
end
theorem GD{α:Type}{gs:Gd}{t:Tf}{f:Ev}{C:En}{m:Nat}{e g:α->D}{S0:Sto}(hg:∀S,B5 [] S0 S->gOk gs S):∀{xs:Wp α} {acc:Wp D} {os:En} {S:Sto},os.length=m->B5 [] S0 S->acc.length+xs.length<=sizeLine->(∀x∈xs,∀os S,os.length=m->B5 [] S0 S->∃us S',us.length=m/\t (e x) (C++os) S=Gc (C++us)/\f (C++us) S=Gc (g x,S')/\B5 [] S0 S')->∃S',Bk gs t Ai f (xs.map e) acc (C++os) S=Gc (acc++xs.map g,S')/\B5 [] S0 S'
 | [],acc,os,S,ho,hS,hz,h=>⟨S,by rw[xQ,EG (hg S hS)];simp,hS⟩
 |x::xs,acc,os,S,ho,hS,hz,h=>by
  obtain⟨us,S1,hu,e1,e2,s1⟩:=h x vp os S ho hS
  obtain⟨S2,e3,s2⟩:=GD hg (acc:=acc++[g x]) hu s1 (by simp at hz ⊢; lia) λx' hx=>h x' (vh _ hx)
  refine⟨S2,?_,s2⟩
  rw[v5,Hy (hg S hS) (by simp at hz;lia) e1 GI,e2,An,e3]
  simp
section
variable{S:Sto}{t:Tr}{ls:Wp Ld}{ds:Wp AN}{n:Nat}
end
end Mi
end
noncomputable section
namespace Mi
open PySem PySem.Spec L2 PySem.NumText
section
variable{S:Sto}{n:Nat}
def cC{n k:Nat}(h:n<10^k)(hk:0<k):(dg n).length<=k:=(Up h hk).2
def cU{n k:Nat}(h:n<10^k)(hk:0<k):(nS n).length<=k:=by
 have:=cC h hk
 rw[<-QZ]at this
 simpa[z8]using this
def lN{n k:Nat}(h:n<2^k)(hk:0<k):n.log2<k:=by
 by_cases h0:n=0
 .subst h0;simpa using hk
 .exact(Nat.log2_lt h0).mpr h
def UY{n k:Nat}(h:n<10^k)(hk:0<k):(AAF (nS n) (k:Int)).cps.toList=pad k n:=by
 obtain⟨e,hl⟩:=Up h hk
 have l:(nS n).length=(dg n).length:=by rw[<-QZ];simp[z8]
 unfold AAF
 by_cases c:(k:Int)<=(nS n).length
 .rw[wU c,QZ,<-e]
  have:k-(dg n).length=0:=by lia
  rw[this]
  rfl
 .rw[wy c]
  obtain⟨d,r,ed⟩:∃d r,dg n=d::r:=by
   cases z:dg n with
   |nil=>exact absurd z aO
   |cons d r=>exact⟨d,r,rfl⟩
  have hd:48<=d:=(PH (n:=n) d (by rw[ed];simp)).1
  have h0:(nS n).cps[0]?=Gc d:=by rw[<-AAp,QZ,ed];rfl
  have ez:zfilled (nS n) ((k:Int).toNat-(nS n).length)=ADd (nS n) ((k:Int).toNat-(nS n).length) 0 48:=by
   unfold zfilled
   rw[h0]
   split
   .rename_i z;cases z;lia
   .rename_i z;cases z;lia
   .rfl
  rw[ez]
  unfold ADd
  simp only[ADL,Array.toList_replicate,QZ,zC,l,List.replicate_zero,yJ]
  exact e
noncomputable def flat(ps:Wp Str):Wp Nat:=ps.reverse.flatMap λp=>p.cps.toList
def Xc{ps:Wp Str}{p:Str}:flat (ps++[p])=p.cps.toList++flat ps:=by simp[flat]
theorem O7:∀{ts:Wp Str},(wG yZ ts).cps.toList=ts.flatMap λp=>p.cps.toList
 | []=>rfl
 | [p]=>by simp[wG]
 |p::q::r=>by
  show(p++yZ++wG yZ (q::r)).cps.toList=_
  rw[Oa,Oa,O7 (ts:=q::r)]
  simp[yZ]
def ntP:=eOp (o2 VY) [eI 10,eI 64]
def jY{E:En}:ntP E S=Gc (.int ((10^64:Nat):Int),S):=by simp[ntP]
def ntC:=eOp (o2 wGe) [eV 0,ntP]
def ntB:=AM (Ki (tTp [tNm 0,tNm 2]) (eOp (o2 Lz) [eV 0,ntP])) (EA (Mq Ng (eV 1) [eOp (o2 Iw) [eOp (o1 ED) [eV 2],eI 64]]))
def Rj{n k:Nat}(h:n<2^k)(hk:k<=1920)(h0:0<k):ED (.val (.int (n:Int)))=Gc (.val (.str (nS n))):=by
 have:n.log2<1920:=vd (lN h h0) hk
 show(if((n:Int).natAbs.log2<1920)then Gc (Wv.val (.str (toString (n:Int))))else none)=_
 rw[wx,wU this]
 rfl
theorem WO{c:Nat}:∀{m k q:Nat} {ps:Wp Str} {S:Sto} {o2:vi D},q+1<k->q<10^(64*m)->S[c]?=Gc (.lst (ps.map .str))->ps.length+m<=100->(∀p∈ps,p.length<=64)->∃q' ps' S' o2',GC ntC ntB k [Gc (.int (q:Int)),Gc (.ref c),o2] S=Gc (.nx,[Gc (.int ((q':Nat):Int)),Gc (.ref c),o2'],S')/\S'[c]?=Gc (.lst (ps'.map .str))/\B5 [c] S S'/\q'<10^64/\dg q++flat ps=dg q'++flat ps'/\ps'.length<=ps.length+m/\∀p∈ps',p.length<=64
 |m,0,q,ps,S,o2,h,_,_,_,_=>by lia
 |m,k+1,q,ps,S,o2,h,hq,hc,hl,hp=>by
  have e0:=jY (S:=S) (E:=[Gc (.int (q:Int)),Gc (.ref c),o2])
  by_cases hs:q<10^64
  .refine⟨q,ps,S,o2,Ph ?_,hc,.refl,hs,rfl,by lia,hp⟩
   have g:¬((10^64:Nat):Int)<=(q:Int):=by lia
   generalize (10^64:Nat)=T at*
   unfold ntC
   generalize ntP=PW at*
   simp[e0,g]
  .obtain⟨m,rfl⟩:∃m',m=m'+1:=by
    cases m with
    |zero=>exact absurd (vd (show q<1 by simpa using hq) (by decide)) hs
    |succ m=>exact⟨m,rfl⟩
   have hq1:q / 10^64<10^(64*m):=yh (by rw[show 64*(m+1)=64+64*m by lia,zV]at hq;exact hq)
   have hr:q % 10^64<10^64:=AAC _ (by decide)
   have hq0:0<q / 10^64:=Nat.div_pos (by lia) (by decide)
   have hlt:q / 10^64<q:=Nat.div_lt_self (by lia) (by decide)
   have hz:(AAF (nS (q % 10^64)) ((64:Nat):Int)).cps.toList=pad 64 (q % 10^64):=UY hr (by decide)
   have zl:(AAF (nS (q % 10^64)) ((64:Nat):Int)).length=64:=by
    have:=congrArg zy hz
    rw[Nn]at this
    simpa[z8]using this
   have dq:dg q=dg (q / 10^64)++pad 64 (q % 10^64):=by
    have:=cN hq0 hr
    rwa [xk,Nat.div_add_mod]at this
   have st:=Rj (n:=q % 10^64) (k:=220) (yN hr (by decide)) (by decide) (by decide)
   have c1:=AQ hc
   have g:((10^64:Nat):Int)<=(q:Int):=by lia
   have dm:Lz (.val (.int (q:Int))) (.val (.int ((10^64:Nat):Int)))=Gc (.val (.tup [.int ((q / 10^64:Nat):Int),.int ((q % 10^64:Nat):Int)])):=by
    show(if(decide ((0:Int)<((10^64:Nat):Int)) && decide (((10^64:Nat):Int).natAbs<2^600))=true then Gc (Wv.val (.tup [.int ((q:Int) / ((10^64:Nat):Int)),.int ((q:Int) % ((10^64:Nat):Int))]))else none)=_
    rw[wU (by decide),Int.natCast_ediv,Int.natCast_emod]
   generalize hZ:AAF (nS (q % 10^64)) ((64:Nat):Int)=Z at*
   have zf:Iw (.val (.str (nS (q % 10^64)))) (.val (.int 64))=Gc (.val (.str Z)):=by
    rw[<-hZ]
    show(if PadOk 64=true then Gc (Wv.val (.str (AAF (nS (q % 10^64)) 64)))else none)=_
    rw[wU (by decide)]
    rfl
   generalize q / 10^64=Q1 at*
   generalize q % 10^64=R1 at*
   have s1:B5 [c] S (S.set c (.lst ((ps++[Z]).map .str))):=.set (by simp)
   have c2:(S.set c (.lst ((ps++[Z]).map .str)))[c]?=Gc (.lst ((ps++[Z]).map .str)):=vx (Af hc)
   obtain⟨q',ps',S',o2',e1,h1,h2,h3,h4,h5,h6⟩:=WO (m:=m) (k:=k) (q:=Q1) (ps:=ps++[Z]) (o2:=Gc (.int (R1:Int))) (by lia) hq1 c2 (by simp;lia) (λp hp'=>by
    rcases wF.mp hp' with z|z
    .exact hp p z
    .rw[wN.mp z];lia)
   refine⟨q',ps',S',o2',?_,h1,s1.trans h2,h3,?_,by simp at h5;lia,h6⟩
   .skip
    have sz:ps.length<sizeLine:=vd (show _<200 by lia) (AI (by decide))
    have cc:ntC [Gc (.int (q:Int)),Gc (.ref c),o2] S=Gc (.bl true,S):=by
     generalize (10^64:Nat)=T at*
     unfold ntC
     generalize ntP=PW at*
     simp[e0,g]
    have bb:ntB [Gc (.int (q:Int)),Gc (.ref c),o2] S=Gc (.nx,[Gc (.int (Q1:Int)),Gc (.ref c),Gc (.int (R1:Int))],S.set c (.lst ((ps++[Z]).map .str))):=by
     generalize (10^64:Nat)=T at*
     unfold ntB
     generalize ntP=PW at*
     simp[e0,dm,st,zf,c1,sz]
    rw[QE cc bb]
    exact e1
   .rw[<-h4,Xc,hz,dq,zE]
def Yn{sp:Str}{ts:Wp Str}{B k:Nat}(hB:∀y∈ts,y.length<=B)(hk:ts.length<=k)(hs:sp.length<=1)(h:k*B+k<=16777216):JoinOk sp ts=true:=by
 have h1:ts.length*B<=k*B:=wC B hk
 have h2:ts.length*sp.length<=ts.length*1:=xt _ hs
 have:=StrLaws.joinFits (sep:=sp) hB (by lia)
 unfold JoinOk
 rw[this]
 rfl
def E9{n:Nat}(h:n<10^640):∃S',AL 8 [.int (n:Int)] S=Gc (.str (nS n),S')/\B5 [] S S':=by
 have c0:(S++[Cl.lst []])[S.length]?=Gc (.lst (([]:Wp Str).map .str)):=wK
 obtain⟨q,ps,S1,ov,e1,c1,s1,hq,hd,hl,hp⟩:=WO (c:=S.length) (m:=10) (k:=n+2) (q:=n) (ps:=[]) (S:=S++[.lst []]) (o2:=none) (by lia) h c0 (by decide) (λp hp=>nomatch hp)
 have cl:=AQ c1
 have st:=Rj (n:=q) (k:=220) (yN hq (by decide)) (by decide) (by decide)
 have c2:(S1.set S.length (.lst (ps.map .str++[.str (nS q)])))[S.length]?=Gc (.lst (ps.map .str++[.str (nS q)])):=vx (Af c1)
 have d2:=A1 c2
 have s2:B5 [S.length] S1 (S1.set S.length (.lst (ps.map .str++[.str (nS q)]))):=.set (by simp)
 have s0:B5 [] S (S++[Cl.lst []]):=.app
 refine⟨S1.set S.length (.lst (ps.map .str++[.str (nS q)])),?_,s0.new (B:=[S.length]) (s1.trans s2) (by simp)⟩
 have rv:(ps.map D.str++[D.str (nS q)]).reverse=(nS q::ps.reverse).map .str:=by simp
 have jo:JoinOk (vY "") (nS q::ps.reverse)=true:=Yn (B:=64) (k:=11) (λp hp'=>by
  rcases ve.mp hp' with rfl|z
  .exact cU hq (by decide)
  .exact hp p (by simpa using z)) (by simp at hl ⊢; lia) (show 0<=1 by decide) (by decide)
 have jn:AC0 (vY "") (nS q::ps.reverse)=nS n:=by
  apply N0
  rw[Ub,show vY ""=yZ from rfl,O7,QZ]
  rw[show flat []=[]from rfl,yJ]at hd
  rw[hd,List.flatMap_cons,QZ]
  rfl
 have wj:GJ (.val (.str (vY ""))) (.val (.lst ((nS q::ps.reverse).map .str)))=Gc (.val (.str (nS n))):=by
  show((txs ((nS q::ps.reverse).map .str)).bind λts=>if JoinOk (vY "") ts=true then Gc (Wv.val (.str (AC0 (vY "") ts)))else none)=_
  rw[TL,An,wU jo,jn]
 have sz:ps.length<sizeLine:=vd (show _<200 by simp at hl;lia) (AI (by decide))
 have eb:F6 (AL 7)=(AM (xIf (eOp (o2 wLt) [eV 0,eI 0]) (AU (eOp (o2 BF) [eC (.str "-"),AB (AL 7) [eOp (o1 ZN) [eV 0]]])) BX)
  (AM (A6 1 (J4 []))
  (AM (LO (Od 0) ntC ntB)
  (AM (EA (Mq Ng (eV 1) [eOp (o1 ED) [eV 0]]))
  (AU (eOp (o2 GJ) [eC (.str ""),eOp (o1 aY) [eV 1]])))))):=rfl
 have eF:AL 8=AR (AV 3 (F6 (AL 7))):=rfl
 have n0:¬(n:Int)<0:=by lia
 have xw:LO (Od 0) ntC ntB [Gc (.int (n:Int)),Gc (.ref S.length),none] (S++[.lst []])=GC ntC ntB (n+2) [Gc (.int (n:Int)),Gc (.ref S.length),none] (S++[.lst []]):=by
  show GC ntC ntB ((n:Int).natAbs+2) _ _=_
  rw[wx]
 rw[eF,eb]
 generalize GC ntC ntB=WD at*
 generalize LO (Od 0) ntC ntB=XW at*
 generalize (nS q::ps.reverse).map D.str=RV at*
 generalize hPM:ps.map D.str=PM at*
 have lPM:PM.length=ps.length:=by rw[<-hPM];simp
 rw[<-lPM]at sz
 simp[n0,xw,e1,cl,st,sz,d2,aY,rv,wj]
end
end Mi
end
noncomputable section
namespace Mi
open PySem PySem.Spec L2 PySem.NumText
section
variable{S:Sto}{n:Nat}
noncomputable def amS(x:Rat):Str:=nS x.num.toNat++sep 47++nS x.den
def WrA(x:Rat):Prop:=0<=x.num/\x.num.toNat<2^1920/\x.den<2^1920
def Pe{n:Nat}(h:n<2^1920):n<10^640:=yN h (by decide+kernel)
def Pp{n:Nat}(h:n<2^1920):(nS n).length<=640:=cU (Pe h) (by decide)
def JI{x:Rat}(h:WrA x):(amS x).length<=1281:=by
 have h1:=Pp h.2.1
 have h2:=Pp h.2.2
 unfold amS
 rw[wd,wd]
 have:(sep 47).length=1:=rfl
 lia
def RZ:vY "/"=sep 47:=by decide+kernel
def comma:vY ","=sep 44:=by decide+kernel
def blank:vY " "=sep 32:=by decide+kernel
def line:vY "\n"=sep 10:=by decide+kernel
def G7{x:Rat}(h:WrA x):∃S',BM [aD x] S=Gc (.str (amS x),S')/\B5 [] S S':=by
 obtain⟨h0,h1,h2⟩:=h
 obtain⟨S1,e1,s1⟩:=E9 (S:=S) (Pe h1)
 obtain⟨S2,e2,s2⟩:=E9 (S:=S1) (Pe h2)
 refine⟨S2,?_,s1.trans s2⟩
 have hn:((x.num.toNat:Nat):Int)=x.num:=wL h0
 rw[hn]at e1
 have fs:eFs [AB (AL 8) [eIx (eV 0) (eI 0)],eC (.str "/"),AB (AL 8) [eIx (eV 0) (eI 1)]] [Gc (aD x)] S=Gc (.str (amS x),S2):=by
  have ev:evs [AB (AL 8) [eIx (eV 0) (eI 0)],eC (.str "/"),AB (AL 8) [eIx (eV 0) (eI 1)]] [Gc (aD x)] S=Gc ([.str (nS x.num.toNat),.str "/",.str (nS x.den)],S2):=by
   generalize AL 8=F at*
   simp[aD,e1,e2]
  have ct:cat yZ [nS x.num.toNat,vY "/",nS x.den]=amS x:=by
   show((yZ++nS x.num.toNat)++vY "/")++nS x.den=_
   rw[Str.empty_append,RZ]
   rfl
  have tx:txs [.str (nS x.num.toNat),.str (vY "/"),.str (nS x.den)]=Gc [nS x.num.toNat,vY "/",nS x.den]:=rfl
  unfold eFs
  rw[ev,An,tx,An,ct,wU]
  exact va (JI ⟨h0,h1,h2⟩) (by decide)
 generalize hZ:eFs [AB (AL 8) [eIx (eV 0) (eI 0)],eC (.str "/"),AB (AL 8) [eIx (eV 0) (eI 1)]]=Z at*
 have eb:Iy=AU Z:=by rw[<-hZ];rfl
 simp[BM,eb,fs]
def Gj{c:Nat}{ts:Wp Str}{B k:Nat}(hB:∀y∈ts,y.length<=B)(hk:ts.length<=k)(h:k*B+k<=16777216):GJ (.val (.str (sep c))) (.val (.lst (ts.map .str)))=Gc (.val (.str (wG (sep c) ts))):=by
 show((txs (ts.map .str)).bind λts=>if JoinOk (sep c) ts=true then Gc (Wv.val (.str (AC0 (sep c) ts)))else none)=_
 rw[TL,An,wU (Yn hB hk (vf _) h),Ub]
def ND{c:Nat}{ts:Wp Str}{B k:Nat}(hB:∀y∈ts,y.length<=B)(hk:ts.length<=k):(wG (sep c) ts).length<=k*B+k:=by
 have h1:=StrLaws.join_length_le (sep c) ts
 have h2:=StrLaws.sumLen_le ts hB
 have h3:ts.length*B<=k*B:=wC B hk
 have:(sep c).length=1:=rfl
 rw[this]at h1
 lia
noncomputable def O9(rs:Wp Rat):Str:=wG (sep 44) (rs.map amS)
noncomputable def SR(ws:Wp Int):Str:=wG (sep 44) (ws.map λw=>nS w.toNat)
def OG{rs:Wp Rat}(h:∀r∈rs,WrA r)(hl:rs.length<=10):∃S',Dj [shD rs,.str ","] S=Gc (.str (O9 rs),S')/\B5 [] S S':=by
 obtain⟨S1,e1,s1⟩:=GD (gs:=[]) (t:=tNm 0) (f:=AB BM [eV 0]) (C:=[]) (m:=1) (e:=aD) (g:=λr=>.str (amS r)) (S0:=S) (λ_ _=>AO) (xs:=rs) (acc:=[]) (os:=[none]) (S:=S) rfl .refl (AI (by simp;lia)) (by
  intro x hx os T ho hT
  obtain⟨o,rfl⟩:=J3 ho
  obtain⟨T1,e,s⟩:=G7 (S:=T) (h x hx)
  exact⟨[Gc (aD x)],T1,rfl,by simp,by simp[e],hT.trans s⟩)
 refine⟨S1,?_,s1⟩
 have sh:shD rs=.tup (rs.map aD):=rfl
 have jo:=Gj (c:=44) (ts:=rs.map amS) (B:=1281) (k:=10) (λy hy=>by
  obtain⟨r,hr,rfl⟩:=vq.mp hy
  exact JI (h r hr)) (by simpa using hl) (by decide)
 simp only[wR,xH]at jo
 rw[<-comma]at jo
 simp only[v7]at e1
 rw[sh]
 have am:O9 rs=wG (vY ",") (rs.map amS):=by rw[comma];rfl
 rw[am]
 generalize rs.map aD=R at*
 simp[Dj,Ic,e1,jo]
def OV{ws:Wp Int}(h:∀w∈ws,0<=w/\w.toNat<2^1920)(hl:ws.length<=10):∃S',Dh [.tup (ws.map .int),.str ","] S=Gc (.str (SR ws),S')/\B5 [] S S':=by
 obtain⟨S1,e1,s1⟩:=GD (gs:=[]) (t:=tNm 0) (f:=AB (AL 8) [eV 0]) (C:=[]) (m:=1) (e:=D.int) (g:=λw=>.str (nS w.toNat)) (S0:=S) (λ_ _=>AO) (xs:=ws) (acc:=[]) (os:=[none]) (S:=S) rfl .refl (AI (by simp;lia)) (by
  intro x hx os T ho hT
  obtain⟨o,rfl⟩:=J3 ho
  obtain⟨T1,e,s⟩:=E9 (S:=T) (Pe (h x hx).2)
  rw[wL (h x hx).1]at e
  refine⟨[Gc (.int x)],T1,rfl,by simp,?_,hT.trans s⟩
  generalize AL 8=F at*
  simp[e])
 refine⟨S1,?_,s1⟩
 have jo:=Gj (c:=44) (ts:=ws.map λw=>nS w.toNat) (B:=640) (k:=10) (λy hy=>by
  obtain⟨r,hr,rfl⟩:=vq.mp hy
  exact Pp (h r hr).2) (by simpa using hl) (by decide)
 simp only[wR,xH]at jo
 rw[<-comma]at jo
 simp only[v7]at e1
 have am:SR ws=wG (vY ",") (ws.map λw=>nS w.toNat):=by rw[comma];rfl
 rw[am]
 generalize hz:AB (AL 8) [eV 0]=Z at*
 have eb:IZ=(AU (eOp (o2 GJ) [eV 1,As [] 1 (C7 (eV 0)) (tNm 0) Ai Z])):=by rw[<-hz];rfl
 generalize ws.map D.int=R at*
 simp[Dh,eb,e1,jo]
def PT(p:Str)(d:D)(x:Str):Prop:=(∀S,∃S',Ba [.str p,d] S=Gc (.str x,S')/\B5 [] S S')/\x.length<=13000
def ag{x:Rat}(h:WrA x):PT "share" (aD x) (amS x):=⟨λS=>by
 obtain⟨S1,e1,s1⟩:=G7 (S:=S) h
 refine⟨S1,?_,s1⟩
 generalize aD x=X at*
 generalize AL 8=F at*
 simp[Ba,EU,e1],va (JI h) (by decide)⟩
def Us{rs:Wp Rat}(h:∀r∈rs,WrA r)(hl:rs.length<=10):(O9 rs).length<=13000:=va (ND (B:=1281) (k:=10) (λy hy=>by
 obtain⟨r,hr,rfl⟩:=vq.mp hy
 exact JI (h r hr)) (by simpa using hl)) (by decide)
def U9{ws:Wp Int}(h:∀w∈ws,0<=w/\w.toNat<2^1920)(hl:ws.length<=10):(SR ws).length<=13000:=va (ND (B:=640) (k:=10) (λy hy=>by
 obtain⟨r,hr,rfl⟩:=vq.mp hy
 exact Pp (h r hr).2) (by simpa using hl)) (by decide)
def WI{rs:Wp Rat}(h:∀r∈rs,WrA r)(hl:rs.length<=10):PT "shares" (shD rs) (O9 rs):=⟨λS=>by
 obtain⟨S1,e1,s1⟩:=OG (S:=S) h hl
 refine⟨S1,?_,s1⟩
 generalize shD rs=X at*
 generalize AL 8=F at*
 simp[Ba,EU,e1],Us h hl⟩
def ZH{ws:Wp Int}(h:∀w∈ws,0<=w/\w.toNat<2^1920)(hl:ws.length<=10):PT "worths" (.tup (ws.map .int)) (SR ws):=⟨λS=>by
 obtain⟨S1,e1,s1⟩:=OV (S:=S) h hl
 refine⟨S1,?_,s1⟩
 generalize D.tup (ws.map .int)=X at*
 generalize AL 8=F at*
 simp[Ba,EU,e1],U9 h hl⟩
noncomputable def Gg:Wp Str:=["partner","kind","load","number","pieces","partners","kinds","beasts","hire","part"]
def Um{p:Str}(h:p∈Gg):(KI (.str p) (.str "share")=true/\deq (.str p) (.str "share")=false)/\(KI (.str p) (.str "shares")=true/\deq (.str p) (.str "shares")=false)/\(KI (.str p) (.str "worths")=true/\deq (.str p) (.str "worths")=false):=by
 have:∀p∈Gg,(KI (.str p) (.str "share")=true/\deq (.str p) (.str "share")=false)/\(KI (.str p) (.str "shares")=true/\deq (.str p) (.str "shares")=false)/\(KI (.str p) (.str "worths")=true/\deq (.str p) (.str "worths")=false):=by decide+kernel
 exact this p h
def kO{p:Str}(hp:p∈Gg){n:Nat}(h:n<2^1920):PT p (.int (n:Int)) (nS n):=⟨λS=>by
 obtain⟨S1,e1,s1⟩:=E9 (S:=S) (Pe h)
 refine⟨S1,?_,s1⟩
 obtain⟨⟨a1,a2⟩,⟨b1,b2⟩,c1,c2⟩:=Um hp
 simp[Ba,EU,e1,a1,a2,b1,b2,c1,c2],va (Pp h) (by decide)⟩
structure Tri where
 p:Str
 d:D
 x:Str
def Q6{ts:Wp Tri}(h:∀t∈ts,PT t.p t.d t.x)(hl:ts.length<=10):∃S',Au [.tup (ts.map λt=>.str t.p),.tup (ts.map Tri.d)] S=Gc (.str (wG (sep 32) (ts.map Tri.x)),S')/\B5 [] S S':=by
 obtain⟨S1,e1,s1⟩:=GD (gs:=[]) (t:=tTp [tNm 0,tNm 1]) (f:=AB Ba [eV 0,eV 1]) (C:=[]) (m:=2) (e:=λt:Tri=>.tup [.str t.p,t.d]) (g:=λt=>.str t.x) (S0:=S) (λ_ _=>AO) (xs:=ts) (acc:=[]) (os:=[none,none]) (S:=S) rfl .refl (AI (by simp;lia)) (by
  intro x hx os T ho hT
  obtain⟨o,o',rfl⟩:=fD ho
  obtain⟨T1,e,s⟩:=(h x hx).1 T
  refine⟨[Gc (.str x.p),Gc x.d],T1,rfl,by simp,by simp[e],hT.trans s⟩)
 refine⟨S1,?_,s1⟩
 have jo:=Gj (c:=32) (ts:=ts.map Tri.x) (B:=13000) (k:=10) (λy hy=>by
  obtain⟨r,hr,rfl⟩:=vq.mp hy
  exact(h r hr).2) (by simpa using hl) (by decide)
 simp only[wR,xH]at jo
 rw[<-blank]at jo⊢
 simp only[v7]at e1
 have zp:MO (ts.map λt=>.str t.p) (ts.map Tri.d)=ts.map λt=>D.tup [.str t.p,t.d]:=by
  clear e1 jo hl h s1
  induction ts with
  |nil=>rfl
  |cons t ts ih=>
   unfold MO at ih⊢
   simp only[v5,ABg,ih]
 generalize (ts.map λt=>D.str t.p)=P at*
 generalize ts.map Tri.d=Ds at*
 generalize hz:AB Ba [eV 0,eV 1]=Z at*
 have eb:LC=(AU (eOp (o2 GJ) [eC (.str " "),As [] 2 (VZ (eV 0) (eV 1)) (tTp [tNm 0,tNm 1]) Ai Z])):=by rw[<-hz];rfl
 simp[Au,eb,zp,e1,jo]
end
end Mi
end
noncomputable section
namespace Mi
open PySem PySem.Spec L2 PySem.NumText
inductive Pz where
 |num (p:Str) (i:Int)
 |am (x:Rat)
 |ams (rs:Wp Rat)
 |nms (ws:Wp Int)
noncomputable def Pz.p:Pz->Str
 | .num p _=>p
 | .am _=>"share"
 | .ams _=>"shares"
 | .nms _=>"worths"
noncomputable def Pz.d:Pz->D
 | .num _ i=>.int i
 | .am x=>aD x
 | .ams rs=>shD rs
 | .nms ws=>.tup (ws.map .int)
noncomputable def Pz.x:Pz->Str
 | .num _ i=>nS i.toNat
 | .am x=>amS x
 | .ams rs=>O9 rs
 | .nms ws=>SR ws
def WrI(i:Int):Prop:=0<=i/\i.toNat<2^1920
def Pz.ok:Pz->Prop
 | .num p i=>p∈Gg/\WrI i
 | .am x=>WrA x
 | .ams rs=>(∀r∈rs,WrA r)/\0<rs.length/\rs.length<=10
 | .nms ws=>(∀w∈ws,WrI w)/\0<ws.length/\ws.length<=10
def Pz.pt{z:Pz}(h:z.ok):PT z.p z.d z.x:=by
 cases z with
 |num p i=>
  obtain⟨h1,h2,h3⟩:=h
  have:=kO h1 h3
  rw[wL h2]at this
  exact this
 |am x=>exact ag h
 |ams rs=>exact WI h.1 h.2.2
 |nms ws=>exact ZH h.1 h.2.2
section
variable{S:Sto}
def Th{zs:Wp Pz}(h:∀z∈zs,z.ok)(hl:zs.length<=10):∃S',Au [.tup (zs.map λz=>.str z.p),.tup (zs.map Pz.d)] S=Gc (.str (wG (sep 32) (zs.map Pz.x)),S')/\B5 [] S S':=by
 obtain⟨S1,e,s⟩:=Q6 (S:=S) (ts:=zs.map λz=>⟨z.p,z.d,z.x⟩) (λt ht=>by
  obtain⟨z,hz,rfl⟩:=vq.mp ht
  exact Pz.pt (h z hz)) (by simpa using hl)
 refine⟨S1,?_,s⟩
 simp only[wR]at e
 exact e
noncomputable def trP(t:Tr):Wp Pz:=[.num "partners" t.p,.num "kinds" t.k,.num "beasts" t.b,.num "hire" t.h,.num "part" t.l,.ams t.ho]
noncomputable def ldP(x:Ld):Wp Pz:=[.num "kind" x.k,.num "pieces" x.n,.ams x.ow]
noncomputable def dpz:AN->Wp Pz
 | .DX p k n=>[.num "partner" p,.num "kind" k,.num "pieces" n]
 | .Ig a b=>[.num "load" a,.num "load" b]
 | .swap l g k n=>[.num "load" l,.num "pieces" g,.num "kind" k,.num "pieces" n]
 | .Cm u l g k n=>[.num "number" u,.num "load" l,.num "pieces" g,.num "kind" k,.num "pieces" n]
 | .Dq l n=>[.num "load" l,.num "pieces" n]
 | .thr l n ws=>[.num "load" l,.num "pieces" n,.nms ws]
 | .Et p q s=>[.num "partner" p,.num "partner" q,.am s]
noncomputable def Cq(w:Str)(zs:Wp Pz):Str:=wG (sep 32) (w::zs.map Pz.x)
def l9{z:Pz}(h:z.ok):z.x.length<=13000:=(Pz.pt h).2
def FR{w:Str}{zs:Wp Pz}(hw:w.length<=10)(h:∀z∈zs,z.ok)(hl:zs.length<=10):(Cq w zs).length<=150000:=va (ND (B:=13000) (k:=11) (λy hy=>by
 rcases ve.mp hy with rfl|hy
 .lia
 .obtain⟨z,hz,rfl⟩:=vq.mp hy
  exact l9 (h z hz)) (by simp;lia)) (by decide)
def QN{t:Tr}(h:∀z∈trP t,z.ok):∃S',DR [t.d] S=Gc (.str (Cq "train" (trP t)),S')/\B5 [] S S':=by
 obtain⟨S1,e,s⟩:=Th (S:=S) h (by simp[trP])
 refine⟨S1,?_,s⟩
 have rl:=FR (w:="train") (by decide+kernel) h (by simp[trP])
 have e':Au [Cr,.tup [.int t.p,.int t.k,.int t.b,.int t.h,.int t.l,shD t.ho]] S=Gc (.str (wG (sep 32) ((trP t).map Pz.x)),S1):=e
 have hd:vY "train " ++wG (sep 32) ((trP t).map Pz.x)=Cq "train" (trP t):=by
  rw[show vY "train "=vY "train" ++sep 32 by decide+kernel]
  rfl
 have hl:(vY "train ").length+(wG (sep 32) ((trP t).map Pz.x)).length<=sizeLine:=by
  rw[<-wd,hd]
  exact va rl (by decide)
 have td:t.d=.tup [.int t.p,.int t.k,.int t.b,shD t.ho,.int t.h,.int t.l]:=rfl
 rw[td]
 generalize shD t.ho=ho at*
 generalize wG (sep 32) ((trP t).map Pz.x)=J at*
 simp[DR,Jw,e',hd,hl]
end
end Mi
end
noncomputable section
namespace Mi
open PySem PySem.Spec L2 PySem.NumText
section
variable{S S1:Sto}{w J:Str}{xs form:Wp D}
def bY(hf:yg w Ao=Gc (.tup form))(hc:MU (.str w::xs) (Gc 1) none=xs)(e:Au [.tup form,.tup xs] S=Gc (.str J,S1))(hl:(w++sep 32++J).length<=sizeLine):BA [.tup (.str w::xs)] S=Gc (.str (w++sep 32++J),S1):=by
 have wt:SM Ao (.val (.str w))=Gc (.val (.tup form)):=by
  show(yg w Ao).map Wv.val=_
  rw[hf]
  rfl
 have sl:HR true false [.val (.tup (.str w::xs)),.val (.int 1)]=Gc (.val (.tup xs)):=by
  show Gc (Wv.val (.tup (MU (.str w::xs) (Gc 1) none)))=_
  rw[hc]
 have fs:eFs [eIx (eV 0) (eI 0),eC (.str " "),AB Au [eOp (o1 (SM Ao)) [eIx (eV 0) (eI 0)],eOp (HR true false) [eV 0,eI 1]]] [Gc (.tup (.str w::xs))] S=Gc (.str (w++sep 32++J),S1):=by
  have ev:evs [eIx (eV 0) (eI 0),eC (.str " "),AB Au [eOp (o1 (SM Ao)) [eIx (eV 0) (eI 0)],eOp (HR true false) [eV 0,eI 1]]] [Gc (.tup (.str w::xs))] S=Gc ([.str w,.str " ",.str J],S1):=by
   generalize SM Ao=W at*
   generalize HR true false=SL at*
   simp[wt,sl,e]
  have ct:cat yZ [w,vY " ",J]=w++sep 32++J:=by
   show((yZ++w)++vY " ")++J=_
   rw[Str.empty_append,blank]
  have tx:txs [.str w,.str (vY " "),.str J]=Gc [w,vY " ",J]:=rfl
  unfold eFs
  rw[ev,An,tx,An,ct,wU hl]
 generalize hZ:eFs [eIx (eV 0) (eI 0),eC (.str " "),AB Au [eOp (o1 (SM Ao)) [eIx (eV 0) (eI 0)],eOp (HR true false) [eV 0,eI 1]]]=Z at*
 have eb:LD=AU Z:=by rw[<-hZ];rfl
 simp[BA,eb,fs]
noncomputable def BO:AN->Str
 | .DX .. =>"bring"
 | .Ig .. =>"pool"
 | .swap .. =>"swap"
 | .Cm .. =>"trade"
 | .Dq .. =>"spoil"
 | .thr .. =>"throw"
 | .Et .. =>"sell"
def Y8:(vY "bring").length<=10/\(vY "pool").length<=10/\(vY "swap").length<=10/\(vY "trade").length<=10/\(vY "spoil").length<=10/\(vY "throw").length<=10/\(vY "sell").length<=10:=by decide+kernel
def Qc(d:AN):(BO d).length<=10:=by
 obtain⟨h1,h2,h3,h4,h5,h6,h7⟩:=Y8
 cases d<;>assumption
def Ii{d:AN}:0<(dpz d).length/\(dpz d).length<=5:=by cases d<;>exact⟨by simp[dpz],by simp[dpz]⟩
def Lx(d:AN):d.d=.tup (.str (BO d)::(dpz d).map Pz.d)/\yg (BO d) Ao=Gc (.tup ((dpz d).map λz=>.str z.p))/\MU (.str (BO d)::(dpz d).map Pz.d) (Gc 1) none=(dpz d).map Pz.d:=by
 cases d<;>exact⟨rfl,rfl,rfl⟩
def U1{z:Wp Pz}(h:0<z.length):w++sep 32++wG (sep 32) (z.map Pz.x)=Cq w z:=by
 cases z with
 |nil=>cases h
 |cons a r=>rfl
def MJ{d:AN}(h:∀z∈dpz d,z.ok):∃S',BA [d.d] S=Gc (.str (Cq (BO d) (dpz d)),S')/\B5 [] S S':=by
 obtain⟨h1,h2,h3⟩:=Lx d
 obtain⟨S1,e,s⟩:=Th (S:=S) h (by have:=Ii (d:=d);lia)
 have rl:=FR (Qc d) h (by have:=Ii (d:=d);lia)
 have re:=U1 (w:=BO d) (Ii (d:=d)).1
 refine⟨S1,?_,s⟩
 rw[h1,<-re]
 exact bY h2 h3 e (by rw[re];exact va rl (by decide))
def Qi{x:Ld}(h:∀z∈ldP x,z.ok):∃S',C9 [x.d] S=Gc (.str (wG (sep 32) ((ldP x).map Pz.x)),S')/\B5 [] S S':=by
 obtain⟨S1,e,s⟩:=Th (S:=S) h (by simp[ldP])
 refine⟨S1,?_,s⟩
 have e':Au [Cz,x.d] S=Gc (.str (wG (sep 32) ((ldP x).map Pz.x)),S1):=e
 generalize x.d=X at*
 simp[C9,Ko,e']
noncomputable def GF(t:Tr)(ls:Wp Ld)(ds:Wp AN):Wp Str:=[Cq "train" (trP t)]++ls.map (λx=>Cq "first" (ldP x))++ds.map (λd=>Cq (BO d) (dpz d))
structure WrB(t:Tr)(ls:Wp Ld)(ds:Wp AN):Prop where
 tr:∀z∈trP t,z.ok
 ld:∀x∈ls,∀z∈ldP x,z.ok
 dd:∀d∈ds,∀z∈dpz d,z.ok
 l4:ls.length<=20
 d20:ds.length<=30
def Mm{t:Tr}{ls:Wp Ld}{ds:Wp AN}(h:WrB t ls ds):(∀r∈GF t ls ds,r.length<=150000)/\(GF t ls ds).length<=51:=by
 refine⟨λr hr=>?_,by have:=h.l4;have:=h.d20;simp[GF];lia⟩
 simp only[GF,wF,wN,vq]at hr
 rcases hr with(rfl|⟨x,hx,rfl⟩)|⟨d,hd,rfl⟩
 .exact FR (by decide+kernel) h.tr (by simp[trP])
 .exact FR (by decide+kernel) (h.ld x hx) (by simp[ldP])
 .exact FR (Qc d) (h.dd d hd) (by have:=Ii (d:=d);lia)
def MK{t:Tr}{ls:Wp Ld}{ds:Wp AN}(h:WrB t ls ds):∃S',B6 [Aa t ls ds] S=Gc (.str (wG (sep 10) (GF t ls ds)),S')/\B5 [] S S':=by
 obtain⟨S1,e1,s1⟩:=QN (S:=S) h.tr
 obtain⟨S2,e2,s2⟩:=GD (gs:=[]) (t:=tNm 0) (f:=eOp (o2 BF) [eC (.str "first "),AB C9 [eV 0]]) (C:=[]) (m:=1) (e:=Ld.d) (g:=λx=>.str (Cq "first" (ldP x))) (S0:=S1) (λ_ _=>AO) (xs:=ls) (acc:=[]) (os:=[none]) (S:=S1) rfl .refl (AI (by have:=h.l4;simp;lia)) (by
  intro x hx os T ho hT
  obtain⟨o,rfl⟩:=J3 ho
  obtain⟨T1,e,s⟩:=Qi (S:=T) (h.ld x hx)
  have re:vY "first " ++wG (sep 32) ((ldP x).map Pz.x)=Cq "first" (ldP x):=by
   rw[show vY "first "=vY "first" ++sep 32 by decide+kernel]
   exact U1 (by simp[ldP])
  have rl:=FR (w:="first") (by decide+kernel) (h.ld x hx) (by simp[ldP])
  have hl:(vY "first ").length+(wG (sep 32) ((ldP x).map Pz.x)).length<=sizeLine:=by
   rw[<-wd,re]
   exact va rl (by decide)
  refine⟨[Gc x.d],T1,rfl,by simp,?_,hT.trans s⟩
  generalize wG (sep 32) ((ldP x).map Pz.x)=J at*
  generalize x.d=X at*
  simp[e,hl,re])
 obtain⟨S3,e3,s3⟩:=GD (gs:=[]) (t:=tNm 0) (f:=AB BA [eV 0]) (C:=[]) (m:=1) (e:=AN.d) (g:=λd=>.str (Cq (BO d) (dpz d))) (S0:=S2) (λ_ _=>AO) (xs:=ds) (acc:=[]) (os:=[none]) (S:=S2) rfl .refl (AI (by have:=h.d20;simp;lia)) (by
  intro x hx os T ho hT
  obtain⟨o,rfl⟩:=J3 ho
  obtain⟨T1,e,s⟩:=MJ (S:=T) (h.dd x hx)
  exact⟨[Gc x.d],T1,rfl,by simp,by simp[e],hT.trans s⟩)
 refine⟨S3,?_,(s1.trans s2).trans s3⟩
 obtain⟨r1,r2⟩:=Mm h
 have jo:=Gj (c:=10) (ts:=GF t ls ds) (B:=150000) (k:=51) r1 r2 (by decide)
 have rw1:(GF t ls ds).map D.str=[D.str (Cq "train" (trP t))]++ls.map (λx=>D.str (Cq "first" (ldP x)))++ds.map (λd=>D.str (Cq (BO d) (dpz d))):=by simp[GF,xH]
 rw[rw1,<-line]at jo
 rw[<-line]
 simp only[v7]at e2 e3
 have hl:(ls.map λx=>D.str (Cq "first" (ldP x))).length<=20:=by simpa using h.l4
 have hd:(ds.map λd=>D.str (Cq (BO d) (dpz d))).length<=30:=by simpa using h.d20
 generalize (ls.map λx=>D.str (Cq "first" (ldP x)))=L at*
 generalize (ds.map λd=>D.str (Cq (BO d) (dpz d)))=Q at*
 generalize hZ1:eOp (o2 BF) [eC (.str "first "),AB C9 [eV 0]]=Z1 at*
 generalize hZ2:AB BA [eV 0]=Z2 at*
 have eb:LH=(AM (Ki (tTp [tNm 1,tNm 2,tNm 3]) (eV 0))
  (AM (A6 4 (eOp (o2 BF) [eOp (o2 BF) [Km [AB DR [eV 1]],As [] 1 (C7 (eV 2)) (tNm 0) Ai Z1],As [] 1 (C7 (eV 3)) (tNm 0) Ai Z2]))
  (AU (eOp (o2 GJ) [eC (.str "\n"),eV 4])))):=by rw[<-hZ1,<-hZ2];rfl
 have a1:1+L.length<=sizeLine:=AI (by lia)
 have a2:1+L.length+Q.length<=sizeLine:=AI (by lia)
 have a3:L.length+1<=sizeLine:=AI (by lia)
 have a4:L.length+1+Q.length<=sizeLine:=AI (by lia)
 have a5:L.length+Q.length+1<=sizeLine:=AI (by lia)
 have bd:Aa t ls ds=.tup [t.d,.tup (ls.map Ld.d),.tup (ds.map AN.d)]:=rfl
 rw[bd]
 generalize ls.map Ld.d=LS at*
 generalize ds.map AN.d=DS at*
 generalize t.d=T at*
 simp only[wg,v7]at jo
 simp[B6,eb,e1,e2,e3,a1,a2,a3,a4,a5,jo]
end
end Mi
end
noncomputable section
namespace Mi
open PySem PySem.Spec L2 PySem.NumText
section
variable{S:Sto}
def aG{i:Int}(h:WrI i):ED (.val (.int i))=Gc (.val (.str (nS i.toNat))):=by
 obtain⟨h0,h1⟩:=h
 have:=Rj (n:=i.toNat) (k:=1920) h1 (vf _) (by decide)
 rwa [wL h0]at this
structure Wd where
 d:D
 x:Str
def Wd.ok(w:Wd):Prop:=ED (.val w.d)=Gc (.val (.str w.x))/\(∀S:Sto,dr S w.d=.val w.d)/\w.x.length<=13000
def V5{i:Int}(h:WrI i):Wd.ok ⟨.int i,nS i.toNat⟩:=⟨aG h,λ_=>rfl,va (Pp h.2) (by decide)⟩
def oC{w:Str}(h:w.length<=10):Wd.ok ⟨.str w,w⟩:=⟨rfl,λ_=>rfl,va h (by decide)⟩
def Kp{ws:Wp Wd}(h:∀w∈ws,w.ok)(hl:ws.length<=10):BU [.tup (ws.map Wd.d)] S=Gc (.str (wG (sep 32) (ws.map Wd.x)),S):=by
 have e1:=BH (gs:=[]) (t:=tNm 0) (f:=eOp (o1 ED) [eV 0]) (C:=[]) (m:=1) (e:=Wd.d) (g:=λw=>.str w.x) (S:=S) AO (xs:=ws) (acc:=[]) (os:=[none]) rfl (AI (by simp;lia)) (by
  intro x hx os ho
  obtain⟨o,rfl⟩:=J3 ho
  obtain⟨h1,h2,_⟩:=h x hx
  have h3:=h2 S
  refine⟨[Gc x.d],rfl,by simp,?_⟩
  generalize x.d=X at*
  generalize ED=W at*
  simp[h3,h1])
 have jo:=Gj (c:=32) (ts:=ws.map Wd.x) (B:=13000) (k:=10) (λy hy=>by
  obtain⟨r,hr,rfl⟩:=vq.mp hy
  exact(h r hr).2.2) (by simpa using hl) (by decide)
 simp only[wR,xH]at jo
 rw[<-blank]at jo⊢
 simp only[v7]at e1
 generalize ws.map Wd.d=Ds at*
 generalize hz:eOp (o1 ED) [eV 0]=Z at*
 have eb:OM=(AU (eOp (o2 GJ) [eC (.str " "),As [] 1 (C7 (eV 0)) (tNm 0) Ai Z])):=by rw[<-hz];rfl
 simp[BU,eb,e1,jo]
def Lp{rs:Wp Rat}(h:∀r∈rs,WrA r)(hl:rs.length<=10):CS [shD rs] S=Gc (.str (O9 rs),S):=by
 have e1:=BH (gs:=[]) (t:=tNm 0) (f:=(eOp (o2 BF) [eOp (o2 BF) [eOp (o1 ED) [eIx (eV 0) (eI 0)],eC (.str "/")],eOp (o1 ED) [eIx (eV 0) (eI 1)]])) (C:=[]) (m:=1) (e:=aD) (g:=λr=>.str (amS r)) (S:=S) AO (xs:=rs) (acc:=[]) (os:=[none]) rfl (AI (by simp;lia)) (by
  intro x hx os ho
  obtain⟨o,rfl⟩:=J3 ho
  have hw:=h x hx
  have a1:=aG (i:=x.num) ⟨hw.1,hw.2.1⟩
  have a2:=Rj (n:=x.den) (k:=1920) hw.2.2 (vf _) (by decide)
  have al:=JI hw
  have l1:(nS x.num.toNat).length+(vY "/").length<=sizeLine:=by
   have:=Pp hw.2.1
   rw[RZ]
   exact AI (show _+1<=1000 by lia)
  have l2:(nS x.num.toNat++vY "/").length+(nS x.den).length<=sizeLine:=by
   rw[<-wd,RZ]
   exact va al (by decide)
  have am:nS x.num.toNat++vY "/" ++nS x.den=amS x:=by rw[RZ];rfl
  refine⟨[Gc (aD x)],rfl,by simp,?_⟩
  rw[<-am]
  generalize nS x.num.toNat=N1 at*
  generalize nS x.den=N2 at*
  generalize ED=W at*
  simp[aD,a1,a2,l1,l2])
 have sh:shD rs=.tup (rs.map aD):=rfl
 have jo:=Gj (c:=44) (ts:=rs.map amS) (B:=1281) (k:=10) (λy hy=>by
  obtain⟨r,hr,rfl⟩:=vq.mp hy
  exact JI (h r hr)) (by simpa using hl) (by decide)
 simp only[wR,xH]at jo
 rw[<-comma]at jo
 simp only[v7]at e1
 rw[sh]
 have am:O9 rs=wG (vY ",") (rs.map amS):=by rw[comma];rfl
 rw[am]
 generalize rs.map aD=R at*
 generalize hz:(eOp (o2 BF) [eOp (o2 BF) [eOp (o1 ED) [eIx (eV 0) (eI 0)],eC (.str "/")],eOp (o1 ED) [eIx (eV 0) (eI 1)]])=Z at*
 have eb:L6=(AU (eOp (o2 GJ) [eC (.str ","),As [] 1 (C7 (eV 0)) (tNm 0) Ai Z])):=by rw[<-hz];rfl
 simp[CS,eb,e1,jo]
end
end Mi
end
noncomputable section
namespace Mi
open PySem PySem.Spec L2 PySem.NumText
section
variable{S:Sto}
theorem join_snoc{c:Nat}{s:Str}:∀{ts:Wp Str},ts≠[]->wG (sep c) ts++sep c++s=wG (sep c) (ts++[s])
 | [],h=>absurd rfl h
 | [t],_=>rfl
 |t::u::r,_=>by
  show(t++sep c++wG (sep c) (u::r))++sep c++s=t++sep c++wG (sep c) (u::r++[s])
  rw[<-join_snoc (ts:=u::r) (by simp),AAI,AAI,AAI]
  rw[AAI (wG (sep c) (u::r)),AAI t]
def Oi{t:Tr}(h:∀z∈trP t,z.ok):Ce [t.d] S=Gc (.str (Cq "train" (trP t)),S):=by
 have hp:WrI t.p:=(h (.num "partners" t.p) (by simp[trP])).2
 have hk:WrI t.k:=(h (.num "kinds" t.k) (by simp[trP])).2
 have hb:WrI t.b:=(h (.num "beasts" t.b) (by simp[trP])).2
 have hh:WrI t.h:=(h (.num "hire" t.h) (by simp[trP])).2
 have hl:WrI t.l:=(h (.num "part" t.l) (by simp[trP])).2
 have ho:(∀r∈t.ho,WrA r)/\0<t.ho.length/\t.ho.length<=10:=h (.ams t.ho) (by simp[trP])
 have e1:=Kp (S:=S) (ws:=[⟨.str "train","train"⟩,⟨.int t.p,nS (t.p:Int).toNat⟩,⟨.int t.k,nS (t.k:Int).toNat⟩,⟨.int t.b,nS (t.b:Int).toNat⟩,⟨.int t.h,nS t.h.toNat⟩,⟨.int t.l,nS t.l.toNat⟩]) (λw hw=>by
  simp only[ve,vo,wW]at hw
  rcases hw with rfl|rfl|rfl|rfl|rfl|rfl
  .exact oC (by decide+kernel)
  .exact V5 hp
  .exact V5 hk
  .exact V5 hb
  .exact V5 hh
  .exact V5 hl) (by simp)
 have e2:=Lp (S:=S) ho.1 ho.2.2
 have rl:=FR (w:="train") (by decide+kernel) h (by simp[trP])
 have re:wG (sep 32) [vY "train",nS (t.p:Int).toNat,nS (t.k:Int).toNat,nS (t.b:Int).toNat,nS t.h.toNat,nS t.l.toNat]++vY " " ++O9 t.ho=Cq "train" (trP t):=by
  rw[blank]
  exact join_snoc (by simp)
 have l2:(wG (sep 32) [vY "train",nS (t.p:Int).toNat,nS (t.k:Int).toNat,nS (t.b:Int).toNat,nS t.h.toNat,nS t.l.toNat]++vY " ").length+(O9 t.ho).length<=sizeLine:=by
  rw[<-wd,re]
  exact va rl (by decide)
 have l1:(wG (sep 32) [vY "train",nS (t.p:Int).toNat,nS (t.k:Int).toNat,nS (t.b:Int).toNat,nS t.h.toNat,nS t.l.toNat]).length+(vY " ").length<=sizeLine:=by
  rw[wd]at l2
  exact va (yr _ _) l2
 have td:t.d=.tup [.int t.p,.int t.k,.int t.b,shD t.ho,.int t.h,.int t.l]:=rfl
 have s1:wSl none (Gc 3) (.val t.d)=Gc (.val (.tup [.int t.p,.int t.k,.int t.b])):=rfl
 have s2:wSl (Gc 4) none (.val t.d)=Gc (.val (.tup [.int t.h,.int t.l])):=rfl
 have as0:asS (.val t.d)=Gc [.int t.p,.int t.k,.int t.b,shD t.ho,.int t.h,.int t.l]:=rfl
 have dt:∀T:Sto,dr T t.d=.val t.d:=λ_=>rfl
 simp only[v5,xQ]at e1
 rw[<-re]
 generalize wG (sep 32) [vY "train",nS (t.p:Int).toNat,nS (t.k:Int).toNat,nS (t.b:Int).toNat,nS t.h.toNat,nS t.l.toNat]=J at*
 clear td
 generalize t.d=T at*
 generalize shD t.ho=HO at*
 generalize O9 t.ho=A at*
 have z1:1+1+1+1<=sizeLine:=AI (by decide)
 have z2:1+1+1+1+1+1<=sizeLine:=AI (by decide)
 have z3:3+1<=sizeLine:=AI (by decide)
 have z4:1+3<=sizeLine:=AI (by decide)
 have z5:4+2<=sizeLine:=AI (by decide)
 simp[Ce,IU,dt,s1,s2,as0,e1,e2,l1,l2,z1,z2,z3,z4,z5]
def Pm{x:Ld}(h:∀z∈ldP x,z.ok):CO [x.d] S=Gc (.str (wG (sep 32) ((ldP x).map Pz.x)),S):=by
 have hk:WrI x.k:=(h (.num "kind" x.k) (by simp[ldP])).2
 have hn:WrI x.n:=(h (.num "pieces" x.n) (by simp[ldP])).2
 have ho:(∀r∈x.ow,WrA r)/\0<x.ow.length/\x.ow.length<=10:=h (.ams x.ow) (by simp[ldP])
 have e1:=Kp (S:=S) (ws:=[⟨.int x.k,nS (x.k:Int).toNat⟩,⟨.int x.n,nS x.n.toNat⟩]) (λw hw=>by
  simp only[ve,vo,wW]at hw
  rcases hw with rfl|rfl
  .exact V5 hk
  .exact V5 hn) (by simp)
 have e2:=Lp (S:=S) ho.1 ho.2.2
 have rl:=FR (w:="first") (by decide+kernel) h (by simp[ldP])
 have re:wG (sep 32) [nS (x.k:Int).toNat,nS x.n.toNat]++vY " " ++O9 x.ow=wG (sep 32) ((ldP x).map Pz.x):=by
  rw[blank]
  exact join_snoc (by simp)
 have l2:(wG (sep 32) [nS (x.k:Int).toNat,nS x.n.toNat]++vY " ").length+(O9 x.ow).length<=sizeLine:=by
  rw[<-wd,re]
  have:=U1 (w:="first") (z:=ldP x) (by simp[ldP])
  rw[<-this,wd]at rl
  exact va (va (Nat.le_add_left _ _) rl) (by decide)
 have l1:(wG (sep 32) [nS (x.k:Int).toNat,nS x.n.toNat]).length+(vY " ").length<=sizeLine:=by
  rw[wd]at l2
  exact va (yr _ _) l2
 have s1:wSl none (Gc 2) (.val x.d)=Gc (.val (.tup [.int x.k,.int x.n])):=rfl
 have as0:asS (.val x.d)=Gc [.int x.k,.int x.n,shD x.ow]:=rfl
 have dt:∀T:Sto,dr T x.d=.val x.d:=λ_=>rfl
 simp only[v5,xQ]at e1
 rw[<-re]
 generalize wG (sep 32) [nS (x.k:Int).toNat,nS x.n.toNat]=J at*
 generalize x.d=T at*
 generalize shD x.ow=HO at*
 generalize O9 x.ow=A at*
 simp[CO,JD,dt,s1,as0,e1,e2,l1,l2]
def jf:AN->Prop
 | .thr .. =>yV
 | .Et .. =>yV
 |_=>ABE
def qY{z:Pz}(h:z.ok)(hn:∃p i,z=.num p i):Wd.ok ⟨z.d,z.x⟩:=by
 obtain⟨p,i,rfl⟩:=hn
 exact V5 h.2
def TQ{d:AN}(h:∀z∈dpz d,z.ok)(hp:jf d):Ac [d.d] S=Gc (.str (Cq (BO d) (dpz d)),S):=by
 have nn:∀z∈dpz d,∃p i,z=Pz.num p i:=by
  cases d<;>first
   |exact hp.elim
   |(intro z hz
     simp only[dpz,ve,vo,wW]at hz
     first
      |(rcases hz with rfl|rfl|rfl|rfl|rfl<;>exact⟨_,_,rfl⟩)
      |(rcases hz with rfl|rfl|rfl|rfl<;>exact⟨_,_,rfl⟩)
      |(rcases hz with rfl|rfl|rfl<;>exact⟨_,_,rfl⟩)
      |(rcases hz with rfl|rfl<;>exact⟨_,_,rfl⟩))
 have e1:=Kp (S:=S) (ws:=⟨.str (BO d),BO d⟩::(dpz d).map λz=>⟨z.d,z.x⟩) (λw hw=>by
  rcases ve.mp hw with rfl|hw
  .exact oC (Qc d)
  .obtain⟨z,hz,rfl⟩:=vq.mp hw
   exact qY (h z hz) (nn z hz)) (by have:=Ii (d:=d);simp;lia)
 have sh:=(Lx d).1
 have e2:BU [d.d] S=Gc (.str (Cq (BO d) (dpz d)),S):=by
  rw[sh]
  simp only[v5,wR]at e1
  exact e1
 have as0:asS (.val d.d)=Gc (.str (BO d)::(dpz d).map Pz.d):=by rw[sh];rfl
 have dt:∀T:Sto,dr T d.d=.val d.d:=λ_=>by rw[sh];rfl
 have ne:∀w∈([vY "bring",vY "pool",vY "swap",vY "trade",vY "spoil"]:Wp Str),(KI (.str w) (.str "sell")=true/\deq (.str w) (.str "sell")=false)/\(KI (.str w) (.str "throw")=true/\deq (.str w) (.str "throw")=false):=by decide+kernel
 have nw:BO d∈([vY "bring",vY "pool",vY "swap",vY "trade",vY "spoil"]:Wp Str):=by
  cases d<;>first
   |exact hp.elim
   |simp[BO]
 obtain⟨⟨n1,n2⟩,n3,n4⟩:=ne _ nw
 generalize (dpz d).map Pz.d=Q at*
 generalize Cq (BO d) (dpz d)=R at*
 generalize BO d=W at*
 clear sh
 generalize d.d=X at*
 simp[Ac,EK,dt,as0,n1,n2,n3,n4,e2]
end
end Mi
end
noncomputable section
namespace Mi
open PySem PySem.Spec L2 PySem.NumText
section
variable{S:Sto}
def Vv{p q:Nat}{s:Rat}(h:∀z∈dpz (.Et p q s),z.ok):Ac [(AN.Et p q s).d] S=Gc (.str (Cq "sell" (dpz (.Et p q s))),S):=by
 have hp:WrI p:=(h (.num "partner" p) (by simp[dpz])).2
 have hq:WrI q:=(h (.num "partner" q) (by simp[dpz])).2
 have hs:WrA s:=h (.am s) (by simp[dpz])
 have e1:=Kp (S:=S) (ws:=[⟨.str "sell","sell"⟩,⟨.int p,nS (p:Int).toNat⟩,⟨.int q,nS (q:Int).toNat⟩]) (λw hw=>by
  simp only[ve,vo,wW]at hw
  rcases hw with rfl|rfl|rfl
  .exact oC (by decide+kernel)
  .exact V5 hp
  .exact V5 hq) (by simp)
 have e2:=Lp (S:=S) (rs:=[s]) (λr hr=>by rw[wN.mp hr];exact hs) (by simp)
 have e2':CS [.tup [aD s]] S=Gc (.str (amS s),S):=e2
 have rl:=FR (w:="sell") (by decide+kernel) h (by simp[dpz])
 have re:wG (sep 32) [vY "sell",nS (p:Int).toNat,nS (q:Int).toNat]++vY " " ++amS s=Cq "sell" (dpz (.Et p q s)):=by
  rw[blank]
  exact join_snoc (by simp)
 have l2:(wG (sep 32) [vY "sell",nS (p:Int).toNat,nS (q:Int).toNat]++vY " ").length+(amS s).length<=sizeLine:=by
  rw[<-wd,re]
  exact va rl (by decide)
 have l1:(wG (sep 32) [vY "sell",nS (p:Int).toNat,nS (q:Int).toNat]).length+(vY " ").length<=sizeLine:=by
  rw[wd]at l2
  exact va (yr _ _) l2
 have s1:wSl none (Gc 3) (.val (AN.Et p q s).d)=Gc (.val (.tup [.str "sell",.int p,.int q])):=rfl
 have s2:wSl (Gc 3) none (.val (AN.Et p q s).d)=Gc (.val (.tup [aD s])):=rfl
 have as0:asS (.val (AN.Et p q s).d)=Gc [.str "sell",.int p,.int q,aD s]:=rfl
 have dt:∀T:Sto,dr T (AN.Et p q s).d=.val (AN.Et p q s).d:=λ_=>rfl
 simp only[v5,xQ]at e1
 rw[<-re]
 generalize wG (sep 32) [vY "sell",nS (p:Int).toNat,nS (q:Int).toNat]=J at*
 generalize (AN.Et p q s).d=T at*
 generalize aD s=HO at*
 generalize amS s=A at*
 simp[Ac,EK,dt,s1,s2,as0,e1,e2',l1,l2]
def Xm{l:Nat}{n:Int}{ws:Wp Int}(h:∀z∈dpz (.thr l n ws),z.ok):Ac [(AN.thr l n ws).d] S=Gc (.str (Cq "throw" (dpz (.thr l n ws))),S):=by
 have hp:WrI l:=(h (.num "load" l) (by simp[dpz])).2
 have hq:WrI n:=(h (.num "pieces" n) (by simp[dpz])).2
 have hs:(∀w∈ws,WrI w)/\0<ws.length/\ws.length<=10:=h (.nms ws) (by simp[dpz])
 have e1:=Kp (S:=S) (ws:=[⟨.str "throw","throw"⟩,⟨.int l,nS (l:Int).toNat⟩,⟨.int n,nS n.toNat⟩]) (λw hw=>by
  simp only[ve,vo,wW]at hw
  rcases hw with rfl|rfl|rfl
  .exact oC (by decide+kernel)
  .exact V5 hp
  .exact V5 hq) (by simp)
 have e2:=BH (gs:=[]) (t:=tNm 0) (f:=eOp (o1 ED) [eV 0]) (C:=[]) (m:=1) (e:=D.int) (g:=λw=>.str (nS w.toNat)) (S:=S) AO (xs:=ws) (acc:=[]) (os:=[none]) rfl (AI (by simp;lia)) (by
  intro x hx os ho
  obtain⟨o,rfl⟩:=J3 ho
  have a:=aG (hs.1 x hx)
  refine⟨[Gc (.int x)],rfl,by simp,?_⟩
  generalize ED=W at*
  simp[a])
 have jo:=Gj (c:=44) (ts:=ws.map λw=>nS w.toNat) (B:=640) (k:=10) (λy hy=>by
  obtain⟨r,hr,rfl⟩:=vq.mp hy
  exact Pp (hs.1 r hr).2) (by simpa using hs.2.2) (by decide)
 simp only[wR,xH]at jo
 rw[<-comma]at jo
 have am:wG (vY ",") (ws.map λw=>nS w.toNat)=SR ws:=by rw[comma];rfl
 rw[am]at jo
 simp only[v7]at e2
 have rl:=FR (w:="throw") (by decide+kernel) h (by simp[dpz])
 have re:wG (sep 32) [vY "throw",nS (l:Int).toNat,nS n.toNat]++vY " " ++SR ws=Cq "throw" (dpz (.thr l n ws)):=by
  rw[blank]
  exact join_snoc (by simp)
 have l2:(wG (sep 32) [vY "throw",nS (l:Int).toNat,nS n.toNat]++vY " ").length+(SR ws).length<=sizeLine:=by
  rw[<-wd,re]
  exact va rl (by decide)
 have l1:(wG (sep 32) [vY "throw",nS (l:Int).toNat,nS n.toNat]).length+(vY " ").length<=sizeLine:=by
  rw[wd]at l2
  exact va (yr _ _) l2
 have s1:wSl none (Gc 3) (.val (AN.thr l n ws).d)=Gc (.val (.tup [.str "throw",.int l,.int n])):=rfl
 have as0:asS (.val (AN.thr l n ws).d)=Gc [.str "throw",.int l,.int n,.tup (ws.map .int)]:=rfl
 have dt:∀T:Sto,dr T (AN.thr l n ws).d=.val (AN.thr l n ws).d:=λ_=>rfl
 simp only[v5,xQ]at e1
 rw[<-re]
 generalize wG (sep 32) [vY "throw",nS (l:Int).toNat,nS n.toNat]=J at*
 generalize (AN.thr l n ws).d=T at*
 generalize SR ws=A at*
 generalize ws.map D.int=HO at*
 generalize (ws.map λw=>D.str (nS w.toNat))=HS at*
 generalize hz:eOp (o1 ED) [eV 0]=Z at*
 have eb:EK=(AM (xIf (eOp (o2 wEq) [eIx (eV 0) (eI 0),eC (.str "sell")]) (AU (eOp (o2 BF) [eOp (o2 BF) [AB BU [eOp (HR false true) [eV 0,eI 3]],eC (.str " ")],AB CS [eOp (HR true false) [eV 0,eI 3]]])) BX)
  (AM (xIf (eOp (o2 wEq) [eIx (eV 0) (eI 0),eC (.str "throw")]) (AU (eOp (o2 BF) [eOp (o2 BF) [AB BU [eOp (HR false true) [eV 0,eI 3]],eC (.str " ")],eOp (o2 GJ) [eC (.str ","),As [] 1 (C7 (eIx (eV 0) (eI 3))) (tNm 0) Ai Z]])) BX)
  (AU (AB BU [eV 0])))):=by rw[<-hz];rfl
 simp[Ac,eb,dt,s1,as0,e1,e2,jo,l1,l2]
def US{d:AN}(h:∀z∈dpz d,z.ok):Ac [d.d] S=Gc (.str (Cq (BO d) (dpz d)),S):=by
 cases d with
 |Et p q s=>exact Vv h
 |thr l n ws=>exact Xm h
 |_=>exact TQ h trivial
def Zj{t:Tr}{ls:Wp Ld}{ds:Wp AN}(h:WrB t ls ds):Bm [Aa t ls ds] S=Gc (.str (wG (sep 10) (GF t ls ds)),S):=by
 have e1:=Oi (S:=S) h.tr
 have e2:=BH (gs:=[]) (t:=tNm 0) (f:=eOp (o2 BF) [eC (.str "first "),AB CO [eV 0]]) (C:=[]) (m:=1) (e:=Ld.d) (g:=λx=>.str (Cq "first" (ldP x))) (S:=S) AO (xs:=ls) (acc:=[]) (os:=[none]) rfl (AI (by have:=h.l4;simp;lia)) (by
  intro x hx os ho
  obtain⟨o,rfl⟩:=J3 ho
  have e:=Pm (S:=S) (h.ld x hx)
  have re:vY "first " ++wG (sep 32) ((ldP x).map Pz.x)=Cq "first" (ldP x):=by
   rw[show vY "first "=vY "first" ++sep 32 by decide+kernel]
   exact U1 (by simp[ldP])
  have rl:=FR (w:="first") (by decide+kernel) (h.ld x hx) (by simp[ldP])
  have hl:(vY "first ").length+(wG (sep 32) ((ldP x).map Pz.x)).length<=sizeLine:=by
   rw[<-wd,re]
   exact va rl (by decide)
  refine⟨[Gc x.d],rfl,by simp,?_⟩
  generalize wG (sep 32) ((ldP x).map Pz.x)=J at*
  generalize x.d=X at*
  simp[e,hl,re])
 have e3:=BH (gs:=[]) (t:=tNm 0) (f:=AB Ac [eV 0]) (C:=[]) (m:=1) (e:=AN.d) (g:=λd=>.str (Cq (BO d) (dpz d))) (S:=S) AO (xs:=ds) (acc:=[]) (os:=[none]) rfl (AI (by have:=h.d20;simp;lia)) (by
  intro x hx os ho
  obtain⟨o,rfl⟩:=J3 ho
  have e:=US (S:=S) (h.dd x hx)
  exact⟨[Gc x.d],rfl,by simp,by simp[e]⟩)
 obtain⟨r1,r2⟩:=Mm h
 have jo:=Gj (c:=10) (ts:=GF t ls ds) (B:=150000) (k:=51) r1 r2 (by decide)
 have rw1:(GF t ls ds).map D.str=[D.str (Cq "train" (trP t))]++ls.map (λx=>D.str (Cq "first" (ldP x)))++ds.map (λd=>D.str (Cq (BO d) (dpz d))):=by simp[GF,xH]
 rw[rw1,<-line]at jo
 rw[<-line]
 simp only[v7]at e2 e3
 have hl:(ls.map λx=>D.str (Cq "first" (ldP x))).length<=20:=by simpa using h.l4
 have hd:(ds.map λd=>D.str (Cq (BO d) (dpz d))).length<=30:=by simpa using h.d20
 generalize (ls.map λx=>D.str (Cq "first" (ldP x)))=L at*
 generalize (ds.map λd=>D.str (Cq (BO d) (dpz d)))=Q at*
 generalize hZ1:eOp (o2 BF) [eC (.str "first "),AB CO [eV 0]]=Z1 at*
 generalize hZ2:AB Ac [eV 0]=Z2 at*
 have eb:Iq=(AM (A6 1 (eOp (o2 BF) [Km [AB Ce [eIx (eV 0) (eI 0)]],As [] 1 (C7 (eIx (eV 0) (eI 1))) (tNm 0) Ai Z1]))
  (AU (eOp (o2 GJ) [eC (.str "\n"),eOp (o2 BF) [eV 1,As [] 1 (C7 (eIx (eV 0) (eI 2))) (tNm 0) Ai Z2]]))):=by rw[<-hZ1,<-hZ2];rfl
 have a1:1+L.length<=sizeLine:=AI (by lia)
 have a2:1+L.length+Q.length<=sizeLine:=AI (by lia)
 have a3:L.length+1<=sizeLine:=AI (by lia)
 have a4:L.length+1+Q.length<=sizeLine:=AI (by lia)
 have a5:L.length+Q.length+1<=sizeLine:=AI (by lia)
 have bd:Aa t ls ds=.tup [t.d,.tup (ls.map Ld.d),.tup (ds.map AN.d)]:=rfl
 rw[bd]
 generalize ls.map Ld.d=LS at*
 generalize ds.map AN.d=DS at*
 generalize t.d=T at*
 simp only[wg,v7]at jo
 simp[Bm,eb,e1,e2,e3,a1,a2,a3,a4,a5,jo]
end
end Mi
end
noncomputable section
namespace Mi
open PySem PySem.Spec L2 PySem.NumText
theorem Sy:∀(b:Wp Nat) (a:Nat),b.foldl (λacc c=>acc*10+(c-48)) a=a*10^b.length+digitsVal b
 | [],a=>by simp[digitsVal]
 |c::b,a=>by
  have h1:=Sy b (a*10+(c-48))
  have h2:=Sy b (0*10+(c-48))
  have h3:digitsVal (c::b)=b.foldl (λacc c=>acc*10+(c-48)) (0*10+(c-48)):=rfl
  have e:(a*10+(c-48))*10^b.length=a*(10^b.length*10)+(0*10+(c-48))*10^b.length:=by
   rw[Nat.add_mul,Nat.zero_mul,ACS,xY,xk 10 (10^b.length)]
  rw[h3,h2,List.foldl_cons,h1,xT,yK,e,Nat.add_assoc]
def Y5{a b:Wp Nat}:digitsVal (a++b)=digitsVal a*10^b.length+digitsVal b:=by
 have:digitsVal (a++b)=b.foldl (λacc c=>acc*10+(c-48)) (digitsVal a):=by
  unfold digitsVal
  rw[List.foldl_append]
 rw[this,Sy]
theorem Ue:∀{k:Nat},digitsVal (wB k 48)=0
 |0=>rfl
 |k+1=>by
  rw[x9]
  show digitsVal (wB k 48)=0
  exact Ue
def jS{k n:Nat}(h:n<10^k)(hk:0<k):digitsVal (pad k n)=n:=by
 rw[<-(Up h hk).1,Y5,Ue,mU]
 simp
theorem SU:∀{k n:Nat},AllDigits (pad k n)
 |0,_=>λc hc=>nomatch hc
 |k+1,n=>λc hc=>by
  rcases wF.mp (show c∈pad k (n / 10)++[48+n % 10]from hc)with z|z
  .exact SU c z
  .rw[wN.mp z]
   have:=AAC n (show 10>0 by decide)
   lia
def pv{n:Nat}:n<10^(dg n).length:=by
 have:∀(k n:Nat),n<10^k->n<10^(dg n).length:=by
  intro k
  induction k with
  |zero=>
   intro n h
   have:n=0:=by simpa using h
   subst this
   exact Nat.pow_pos (by decide)
  |succ k ih=>
   intro n h
   by_cases hn:n<10
   .rw[Kq hn]
    simpa using hn
   .have e:dg n=dg (n / 10)++[48+n % 10]:=by
     have:=Qs (n:=n / 10) (d:=n % 10) (by lia) (AAC _ (by decide))
     rwa [show 10*(n / 10)+n % 10=n by lia]at this
    have h1:=ih (n / 10) (yh (by rw[yK]at h;lia))
    rw[e,wc]
    show n<10^((dg (n / 10)).length+1)
    rw[yK]
    lia
 exact this n n (Nat.lt_pow_self (by decide))
def gh{n:Nat}(h:(dg n).length≠1):∃c r,dg n=c::r/\49<=c:=by
 have:∀(k n:Nat),n<10^k->(dg n).length≠1->∃c r,dg n=c::r/\49<=c:=by
  intro k
  induction k with
  |zero=>
   intro n h h2
   have:n=0:=by simpa using h
   subst this
   exact absurd rfl h2
  |succ k ih=>
   intro n h h2
   by_cases hn:n<10
   .rw[Kq hn]at h2
    exact absurd rfl h2
   .have e:dg n=dg (n / 10)++[48+n % 10]:=by
     have:=Qs (n:=n / 10) (d:=n % 10) (by lia) (AAC _ (by decide))
     rwa [show 10*(n / 10)+n % 10=n by lia]at this
    by_cases h3:(dg (n / 10)).length=1
    .by_cases h4:n / 10<10
     .rw[e,Kq h4]
      exact⟨_,_,rfl,by lia⟩
     .have h5:=ih (n / 10) (yh (by rw[yK]at h;lia))
      have e2:dg (n / 10)=dg (n / 10 / 10)++[48+n / 10 % 10]:=by
       have:=Qs (n:=n / 10 / 10) (d:=n / 10 % 10) (by lia) (AAC _ (by decide))
       rwa [show 10*(n / 10 / 10)+n / 10 % 10=n / 10 by lia]at this
      rw[e2,wc]at h3
      have:(dg (n / 10 / 10)).length=0:=by simpa using h3
      exact absurd (AA3 this) aO
    .obtain⟨c,r,e2,hc⟩:=ih (n / 10) (yh (by rw[yK]at h;lia)) h3
     rw[e,e2]
     exact⟨c,r++[48+n % 10],rfl,hc⟩
 exact this n n (Nat.lt_pow_self (by decide)) h
def qL:∀{cs:Wp Nat},AllDigits cs->digitsVal cs<10^cs.length:=λ{cs}=>by
 induction cs with
 |nil=>intro _;decide
 |cons c cs ih=>
  intro h
  have hc:=h.head
  have:=ih h.tail
  have e:digitsVal (c::cs)=digitsVal [c]*10^cs.length+digitsVal cs:=Y5 (a:=[c])
  have e1:digitsVal [c]=c-48:=by show 0*10+(c-48)=_;lia
  rw[e,e1,xT,yK]
  have:(c-48)*10^cs.length<=9*10^cs.length:=wC _ (by lia)
  lia
section
variable{S:Sto}{n:Nat}
def lA{E:En}:(eOp (o2 VY) [eI 10,eI 64]) E S=Gc (.int ((10^64:Nat):Int),S):=by simp
def Zf:zH (nS n)=true:=by
 unfold zH
 rw[<-ACD,QZ,AAy]
 intro c hc
 have:=PH (n:=n) c hc
 simp
 lia
def oZ:∀c,48<=c->c<=57->Unicode.isDigit c=true:=by
 intro c h1 h2
 have:∀d<10,Unicode.isDigit (48+d)=true:=by decide+kernel
 have:=this (c-48) (by lia)
 rwa [show 48+(c-48)=c by lia]at this
def cA:0<(nS n).length:=by
 have:(nS n).length=(dg n).length:=by rw[<-QZ];simp[z8]
 rw[this]
 exact ABC.mpr aO
def Zd:zG (nS n)=true:=by
 unfold zG
 rw[vn]
 refine⟨xp cA,?_⟩
 rw[<-ACD,QZ,AAy]
 intro c hc
 have:=PH (n:=n) c hc
 exact oZ c this.1 this.2
def Wh{x:Str}{a b:Nat}(h:a+b<=x.length):ADC x (Gc (a:Int)) (Gc ((a:Int)+(b:Int)))=⟨((x.cps.toList.drop a).take b).toArray⟩:=by
 have hl:x.cps.toList.length=x.length:=zO
 have:=StrLaws.sliceText_plain (x:=x) (i:=(a:Int)) (j:=(a:Int)+(b:Int)) ⟨by lia,by lia,by rw[hl];lia⟩
 rw[zC,show((a:Int)+(b:Int)-(a:Int)).toNat=b by lia]at this
 exact this
def nrP:=eOp (o2 VY) [eI 10,eI 64]
def nrB:=A6 3 (eOp (o2 BF) [eOp (o2 Bq) [eV 3,nrP],eOp (o1 V3) [eOp (HR true true) [eV 2,eOp (o2 Bq) [eI 64,eV 4],eOp (o2 BF) [eOp (o2 Bq) [eI 64,eV 4],eI 64]]]])
def ek{x:Str}{k b:Nat}{o0 o1' o4:vi D}(hx:x.cps.toList=pad (64*k) n)(hb:b<k)(hk:k<=20):nrB [o0,o1',Gc (.str x),Gc (.int ((digitsVal ((pad (64*k) n).take (64*b)):Nat):Int)),Gc (.int (b:Int))] S=Gc (.nx,[o0,o1',Gc (.str x),Gc (.int ((digitsVal ((pad (64*k) n).take (64*(b+1))):Nat):Int)),Gc (.int (b:Int))],S):=by
 have xl:x.length=64*k:=by
  have:=congrArg zy hx
  rw[Nn]at this
  simpa[z8]using this
 have pl:(pad (64*k) n).length=64*k:=Nn
 have sl:wSl (Gc (64*(b:Int))) (Gc (64*(b:Int)+64)) (.val (.str x))=Gc (.val (.str ⟨(((pad (64*k) n).drop (64*b)).take 64).toArray⟩)):=by
  have:=Wh (x:=x) (a:=64*b) (b:=64) (by lia)
  rw[hx]at this
  have c1:((64*b:Nat):Int)=64*(b:Int):=by lia
  rw[c1]at this
  show(if x.length<=sizeLine then Gc (Wv.val (.str (ADC x (Gc (64*(b:Int))) (Gc (64*(b:Int)+64)))))else none)=_
  rw[wU (va (show x.length<=1280 by lia) (by decide))]
  rw[show(64*(b:Int)+64)=64*(b:Int)+((64:Nat):Int)from rfl,this]
 have it:V3 (.val (.str ⟨(((pad (64*k) n).drop (64*b)).take 64).toArray⟩))=Gc (.val (.int ((digitsVal (((pad (64*k) n).drop (64*b)).take 64):Nat):Int))):=by
  have hl:(((pad (64*k) n).drop (64*b)).take 64).length=64:=by
   rw[zP,AAt,pl]
   lia
  have sl:(⟨(((pad (64*k) n).drop (64*b)).take 64).toArray⟩:Str).length=64:=by
   show(((pad (64*k) n).drop (64*b)).take 64).toArray.size=64
   simpa using hl
  have:=intText_digits (x:=⟨(((pad (64*k) n).drop (64*b)).take 64).toArray⟩) (λc hc=>SU (k:=64*k) (n:=n) c (List.mem_of_mem_drop (AC7 (by simpa using hc)))) (by
   intro z
   have:=congrArg zy z
   simp at this
   lia) (by lia)
  show(if _<=640 then(PySem.intText? _).map λn=>Wv.val (.int n)else none)=_
  rw[wU (by lia),this]
  simp
 have tk:(pad (64*k) n).take (64*(b+1))=(pad (64*k) n).take (64*b)++((pad (64*k) n).drop (64*b)).take 64:=by
  rw[show 64*(b+1)=64*b+64 by lia,List.take_add]
 have dv:digitsVal ((pad (64*k) n).take (64*(b+1)))=digitsVal ((pad (64*k) n).take (64*b))*10^64+digitsVal (((pad (64*k) n).drop (64*b)).take 64):=by
  rw[tk,Y5]
  congr 2
  rw[zP,AAt,pl]
  congr 1
  lia
 have e0:∀E:En,nrP E S=Gc (.int ((10^64:Nat):Int),S):=λE=>lA
 have hv:digitsVal ((pad (64*k) n).take (64*b))<2^6000:=by
  have h1:=qL (cs:=(pad (64*k) n).take (64*b)) (λc hc=>SU (k:=64*k) (n:=n) c (AC7 hc))
  have h2:((pad (64*k) n).take (64*b)).length<=1280:=by rw[zP,pl];lia
  exact vd h1 (va (wQ (by decide) h2) (by decide+kernel))
 have mo:DO ((digitsVal ((pad (64*k) n).take (64*b)):Nat):Int) ((10^64:Nat):Int)=true:=Ey (k:=6000) (m:=300) (by rw[wx];exact hv) (by decide+kernel) (by decide) (by decide)
 have m2:DO 64 (b:Int)=true:=Ey (k:=10) (m:=10) (by decide) (by rw[wx];exact vd (show b<20 by lia) (by decide)) (by decide) (by decide)
 rw[dv]
 generalize digitsVal ((pad (64*k) n).take (64*b))=V at*
 generalize digitsVal (((pad (64*k) n).drop (64*b)).take 64)=V2 at*
 generalize (⟨(((pad (64*k) n).drop (64*b)).take 64).toArray⟩:Str)=Z at*
 generalize (10^64:Nat)=T at*
 unfold nrB
 generalize nrP=PW at*
 generalize V3=WT at*
 simp[e0,mo,m2,sl,it]
theorem cP{x:Str}{k:Nat}{o0 o1':vi D}(hx:x.cps.toList=pad (64*k) n)(hk:k<=20):∀{m b:Nat} {o4:vi D},b+m=k->∃o4',Mu [] (tNm 4) nrB ((AAa b m).map λi:Nat=>D.int (i:Int)) [o0,o1',Gc (.str x),Gc (.int ((digitsVal ((pad (64*k) n).take (64*b)):Nat):Int)),o4] S=Gc (.nx,[o0,o1',Gc (.str x),Gc (.int ((digitsVal (pad (64*k) n):Nat):Int)),o4'],S)
 |0,b,o4,h=>by
  have:(pad (64*k) n).take (64*b)=pad (64*k) n:=yp (by rw[Nn];lia)
  exact⟨o4,by rw[this];exact H0 AO⟩
 |m+1,b,o4,h=>by
  obtain⟨o4',e⟩:=cP (o0:=o0) (o1':=o1') hx hk (m:=m) (b:=b+1) (o4:=Gc (.int (b:Int))) (by lia)
  have st:=ek (S:=S) (o0:=o0) (o1':=o1') (o4:=o4) hx (b:=b) (by lia) hk
  refine⟨o4',?_⟩
  rw[List.range'_succ,v5,Es AO]
  generalize nrB=FB at*
  generalize ((AAa (b+1) m).map λi:Nat=>D.int (i:Int))=R at*
  simp[st,e]
def E7(h:n<10^640):BB [.str (nS n)] S=Gc (.int (n:Int),S):=by
 have a1:=Zf (n:=n)
 have a2:=Zd (n:=n)
 have L:(nS n).length=(dg n).length:=by rw[<-QZ];simp[z8]
 have L1:=cC h (by decide)
 have L0:=cA (n:=n)
 obtain⟨c,r,ec⟩:∃c r,dg n=c::r:=by
  cases z:dg n with
  |nil=>exact absurd z aO
  |cons c r=>exact⟨c,r,rfl⟩
 have hc:48<=c/\c<=57:=PH (n:=n) c (by rw[ec];simp)
 have key:∀d<10,KI (.str ⟨#[48+d]⟩) (.str (vY "0"))=true/\deq (.str ⟨#[48+d]⟩) (.str (vY "0"))=(d==0):=by decide+kernel
 obtain⟨k1,k2⟩:=key (c-48) (by lia)
 rw[show 48+(c-48)=c by lia]at k1 k2
 have ix:cq (.val (.str (nS n))) (.val (.int 0))=Gc (.val (.str ⟨#[c]⟩)):=by
  show(if(nS n).length<=sizeLine then(atI (nS n).cps.toList 0).map λc=>Wv.val (.str ⟨#[c]⟩)else none)=_
  have at0:atI (c::r) 0=Gc c:=DM (n:=0) rfl
  rw[wU (AI (by lia)),QZ,ec,at0]
  rfl
 have ln:FI (.val (.str (nS n)))=Gc (.val (.int ((dg n).length:Int))):=by
  show(if(nS n).length<=sizeLine then Gc (Wv.val (.int (nS n).length))else none)=_
  rw[wU (AI (by lia)),L]
 have bad:(c-48==0)=true->¬(1:Int)<((dg n).length:Int):=λz w=>by
  obtain⟨c',r',e',h'⟩:=gh (n:=n) (by lia)
  rw[ec]at e'
  cases e'
  have:c-48=0:=by simpa using z
  lia
 generalize hB:((dg n).length+63) / 64=B
 have hB1:(dg n).length<=64*B:=by lia
 have hB2:B<=20:=by lia
 have hB0:0<B:=by
  rw[L]at L0
  lia
 have hn:n<10^(64*B):=vd pv (wQ (by decide) hB1)
 have zf:=UY hn (by lia)
 have dvp:=jS hn (by lia)
 generalize hX:AAF (nS n) ((64*B:Nat):Int)=X at zf
 have zw:Iw (.val (.str (nS n))) (.val (.int (64*(B:Int))))=Gc (.val (.str X)):=by
  have e64:(64*(B:Int))=((64*B:Nat):Int):=by lia
  show(if PadOk (64*(B:Int))=true then Gc (Wv.val (.str (AAF (nS n) (64*(B:Int)))))else none)=_
  rw[e64,hX,wU]
  have:∀b≤20,PadOk ((64*b:Nat):Int)=true:=by decide+kernel
  exact this B hB2
 obtain⟨o4',e4⟩:=cP (S:=S) (n:=n) (x:=X) (k:=B) (o0:=Gc (.str (nS n))) (o1':=Gc (.int (B:Int))) zf hB2 (m:=B) (b:=0) (o4:=none) (by lia)
 have t0:digitsVal ((pad (64*B) n).take (64*0))=0:=rfl
 rw[t0,dvp]at e4
 have rk:Lg (B:Int)=true:=Fp (by lia) (by lia)
 have rm:OX 0 B=(AAa 0 B).map λi:Nat=>D.int (i:Int):=by
  have:=fP (n:=B)
  rw[zC,List.range_eq_range']at this
  exact this
 have fd:K9 (.val (.int (((dg n).length:Int)+63))) (.val (.int 64))=Gc (.val (.int (B:Int))):=by
  rw[YL,wU (by decide)]
  have:(((dg n).length:Int)+63) / 64=(B:Int):=by rw[<-hB];lia
  rw[this]
 have m2:DO 64 (B:Int)=true:=Ey (k:=10) (m:=10) (by decide) (by rw[wx];exact vd (show B<21 by lia) (by decide)) (by decide) (by decide)
 have eb:JH=(AM (xIf (eOr (Jm (Fi (eOp (o1 (wSB zH)) [eV 0]) (eOp (o1 (wSB zG)) [eV 0]))) (Fi (eOp (o2 wEq) [eOp (o2 cq) [eV 0,eI 0],eC (.str "0")]) (eOp (o2 wGt) [eOp (o1 FI) [eV 0],eI 1]))) (AU (eC .non)) BX)
  (AM (A6 1 (eOp (o2 K9) [eOp (o2 BF) [eOp (o1 FI) [eV 0],eI 63],eI 64]))
  (AM (A6 2 (eOp (o2 Iw) [eV 0,eOp (o2 Bq) [eI 64,eV 1]]))
  (AM (A6 3 (eI 0))
  (AM (Ml (Ts [eV 1]) (tNm 4) nrB)
  (AU (eV 3))))))):=rfl
 have sb1:wSB zH (.val (.str (nS n)))=Gc (.val (.bl true)):=by show Gc (Wv.val (.bl (zH (nS n))))=_;rw[a1]
 have sb2:wSB zG (.val (.str (nS n)))=Gc (.val (.bl true)):=by show Gc (Wv.val (.bl (zG (nS n))))=_;rw[a2]
 have cond:∀(A Z:Ex) (us:En),(xIf (eOr (Jm (Fi (eOp (o1 (wSB zH)) [eV 0]) (eOp (o1 (wSB zG)) [eV 0]))) (Fi (eOp (o2 wEq) [eOp (o2 cq) [eV 0,eI 0],eC (.str "0")]) (eOp (o2 wGt) [eOp (o1 FI) [eV 0],eI 1]))) A Z) (Gc (.str (nS n))::us) S=Z (Gc (.str (nS n))::us) S:=by
  intro A Z us
  generalize wSB zH=W1 at*
  generalize wSB zG=W2 at*
  generalize cq=W3 at*
  generalize FI=W4 at*
  cases hq:(c-48==0)with
  |true=>
   have nb:=bad hq
   rw[hq]at k2
   simp[sb1,sb2,ix,ln,k1,k2,nb]
  |false=>
   rw[hq]at k2
   simp[sb1,sb2,ix,ln,k1,k2]
 generalize (eOr (Jm (Fi (eOp (o1 (wSB zH)) [eV 0]) (eOp (o1 (wSB zG)) [eV 0]))) (Fi (eOp (o2 wEq) [eOp (o2 cq) [eV 0,eI 0],eC (.str "0")]) (eOp (o2 wGt) [eOp (o1 FI) [eV 0],eI 1])))=CC at*
 generalize hxi:(xIf CC (AU (eC .non)) BX)=XI at*
 have c0:=cond (AU (eC .non)) BX [none,none,none,none]
 rw[hxi]at c0
 clear cond
 generalize nrB=FB at*
 generalize FI=W4 at*
 generalize Iw=W5 at*
 generalize K9=W6 at*
 generalize ((AAa 0 B).map λi:Nat=>D.int (i:Int))=RL at*
 have e4':Mu [] (tNm 4) FB RL [Gc (.str (nS n)),Gc (.int (B:Int)),Gc (.str X),Gc (.int 0),none] S=Gc (.nx,[Gc (.str (nS n)),Gc (.int (B:Int)),Gc (.str X),Gc (.int (n:Int)),o4'],S):=e4
 simp[BB,eb,c0,ln,fd,zw,m2,rk,rm,e4']
end
end Mi
end
noncomputable section
namespace Mi
open PySem PySem.Spec L2
def Ok.nn(h:Ok G B r)(hG:0<G):0<=r:=by
 obtain⟨z,e,_⟩:=h
 have g:(0:Rat)<(G:Rat):=by exact_mod_cast hG
 have hz:(0:Rat)<=(z:Rat):=by exact_mod_cast yB z
 rcases(Rat.le_total:0<=r\/r<=0)with w|w
 .exact w
 .have:=yd w (AAm g)
  rw[e,Rat.zero_mul]at this
  have z0:(z:Rat)=0:=Rat.le_antisymm this hz
  rw[z0]at e
  rcases Rat.mul_eq_zero.mp e with e|e
  .rw[e];exact AC8
  .rw[e]at g;exact absurd g (by decide)
theorem bx:∀{rs:Wp Rat},(∀r∈rs,0<=r)->0<=rs.sum
 | [],_=>by rw[List.sum_nil];exact AC8
 |r::rs,h=>by
  rw[wX]
  have h1:=h r vp
  have h2:=bx λq hq=>h q (vh _ hq)
  grind
theorem Xv:∀{rs:Wp Rat} {x},(∀r∈rs,0<=r)->x∈rs->x<=rs.sum
 |r::rs,x,h,hx=>by
  rw[wX]
  have h1:=h r vp
  have h2:=bx λq hq=>h q (vh _ hq)
  rcases ve.mp hx with e|e
  .rw[e];grind
  .have:=Xv (λq hq=>h q (vh _ hq)) e
   grind
def kM{r:Rat}(h:r<=1):r.num<=r.den:=by
 have e:=C5 r
 have d:(0:Rat)<(r.den:Rat):=by exact_mod_cast r.den_pos
 have h1:(r.num:Rat)<=(r.den:Rat):=by
  have:(r.num:Rat)=r*(r.den:Rat):=by
   have:=IY r
   grind
  rw[this]
  have:=yd h (AAm d)
  rwa [Rat.one_mul]at this
 exact_mod_cast h1
def bG(hG:0<G)(gK:G<2^K)(hK:2*K<=7990)(hr:∀r∈rs,Ok G B r)(hb:rs.length*B<2^K):DZ [shD rs] S=Gc (aD rs.sum,S):=by
 obtain⟨o',e⟩:=QP (F:=Gi) (λS h1 h2 h3=>eP h1 h2 h3) (gs:=[]) (S:=S) AO (X:=Gc (shD rs)) (B:=B) hG gK hK (rs:=rs) (acc:=0) (m:=0) (o:=none) (by rw[Nat.zero_mul];exact Ok.zero) hr (by simpa using hb)
 have ez:(0:Rat)+rs.sum=rs.sum:=by grind
 rw[ez,YE]at e
 simp[DZ,OR,GV,shD]at e⊢
 simp[e]
def jW(e1:evs [oa,ob] E S=Gc ([.int i,.int j],S1))(h:i<=j)(e2:oc E S1=Gc (.int k,S2)):VJ oa ob oc E S=Gc (.bl (decide (j<=k)),S2):=by
 unfold VJ
 rw[e1]
 show(if i<=j then _ else _)=_
 rw[wU h,e2]
 rfl
def Ni:FF [.int i] S=Gc (.bl true,S):=by
 have k1:St.Kd.int.isA "int"=true:=by decide
 have k2:St.Kd.int.isA "bool"=false:=by decide
 simp[k1,k2,FF,MI,kdW]
def Ja:Cu [.int i,.int j] S=Gc (.bl (decide (j<=i)),S):=by
 have e:=Ni (S:=S) (i:=i)
 simp[Cu,NH,e]
def within_int:Am [.int i,.int j,.int k] S=Gc (.bl (decide (j<=i) && decide (i<=k)),S):=by
 have e:=Ja (S:=S) (i:=i) (j:=j)
 by_cases h:j<=i
 .simp[Am,Hw,e,h]
 .simp[Am,Hw,e,h]
def Rn(h0:0<=r)(h1:r<=1):C3 [aD r] S=Gc (.bl true,S):=by
 have g:=XQ (S:=S) r.num r.den
 have ge:OW r.num r.den=1:=by
  have:=r.reduced
  unfold Nat.Coprime at this
  simp[OW,this]
 rw[ge]at g
 have n0:0<=r.num:=AC9.mpr h0
 have n1:=kM h1
 have d1:(1:Int)<=r.den:=by have:=r.den_pos;omega
 have w:=Ni (S:=S) (i:=r.num)
 have f:=Ja (S:=S) (i:=r.den) (j:=1)
 have k3:St.Kd.tup.isA "tuple"=true:=by decide
 have am:CT [aD r] S=Gc (.bl true,S):=by
  simp[CT,Hg,aD,kdW,k3,w,f,d1,g]
 have ll:VJ (eC (.int 0)) (eOp (o2 wIx) [eV 0,eC (.int 0)]) (eOp (o2 wIx) [eV 0,eC (.int 1)]) [Gc (aD r)] S=Gc (.bl true,S):=by
  rw[jW (i:=0) (j:=r.num) (k:=r.den) (S1:=S) (S2:=S) (by simp[aD]) n0 (by simp[aD])]
  simp[n1]
 simp[C3,MG,am,ll]
def mw{α:Type}{f:Ev}{e:α->D}{C:En}{os:En}{xs:Wp α}(hg:gOk gs S)(hz:xs.length<=1000)(hm:os.length=m)(h:∀x∈xs,∀os,os.length=m->∃us,us.length=m/\t (e x) (C++os) S=Gc (C++us)/\f (C++us) S=Gc (.bl true,S)):∃r,Bk gs t Ai f (xs.map e) [] (C++os) S=Gc (r,S)/\(bls r).map (λbs=>bs.all id)=Gc true:=by
 have:=BH (gs:=gs) (t:=t) (f:=f) (C:=C) (m:=m) (e:=e) (g:=λ_=>D.bl true) (S:=S) hg (xs:=xs) (acc:=[]) (os:=os) hm (AI (by simpa using hz)) h
 refine⟨_,this,?_⟩
 rw[v7,QG (λ_=>true)]
 simp
def Rp{rs:Wp Rat}(hp:rs.length=P)(h4:P<=4)(hG:0<G)(gK:G<2^K)(hK:2*K<=7990)(hr:∀r∈rs,Ok G B r)(hb:4*B<2^K)(hs:rs.sum=1):DV [.int P,shD rs] S=Gc (.bl true,S):=by
 have nn:∀r∈rs,0<=r:=λr hr'=>(hr r hr').nn hG
 have le1:∀r∈rs,r<=1:=λr hr'=>by rw[<-hs];exact Xv nn hr'
 have k3:St.Kd.tup.isA "tuple"=true:=by decide
 have T:=bG (S:=S) hG gK hK hr (wO (wC _ (by omega)) hb)
 rw[hs,dF]at T
 obtain⟨bs,e1,e2⟩:=mw (S:=S) (f:=AB C3 [eV 0]) (e:=aD) (C:=[]) (os:=[none]) (xs:=rs) (gs:=[]) (t:=tNm 0) AO (by omega) rfl (by
  intro r hr' os ho
  match os,ho with
  | [a],_=>
  refine⟨[Gc (aD r)],rfl,by simp,?_⟩
  have:=Rn (S:=S) (nn r hr') (le1 r hr')
  simp[this])
 have T2:DZ [D.tup (rs.map aD)] S=Gc (.tup [.int 1,.int 1],S):=T
 have it:AY [shD rs,.int P] S=Gc (.bl true,S):=by
  simp[AY,CJ,shD,kdW,k3,hp]
 have hE:KI (.tup [.int 1,.int 1]) Po=true:=rfl
 have hD:deq (.tup [.int 1,.int 1]) Po=true:=rfl
 simp only[v7]at e1
 obtain⟨b',e3,e4⟩:=yq.mp e2
 have hk:dr S Po=.val Po:=rfl
 simp[DV,Jp,it]
 simp[shD,Vn,e1,e3,e4,T2,hk,hE,hD]
def Vq{x:Ld}(ht:Hb t)(h1:x.k<t.k)(h2:0<=x.n)(hp:x.ow.length=t.p)(hG:0<G)(gK:G<2^K)(hK:2*K<=7990)(hr:∀r∈x.ow,Ok G B r)(hb:4*B<2^K)(hs:x.ow.sum=1):Eg [t.d,x.d] S=Gc (.bl true,S):=by
 have O:=Rp (S:=S) hp ht.2.1 hG gK hK hr hb hs
 have k3:St.Kd.tup.isA "tuple"=true:=by decide
 have it:AY [x.d,.int 3] S=Gc (.bl true,S):=by
  simp[AY,CJ,Ld.d,kdW,k3]
 have w:=within_int (S:=S) (i:=x.k) (j:=0) (k:=(t.k:Int)-1)
 have w1:(x.k:Int)<=(t.k:Int)-1:=by omega
 have f:=Ja (S:=S) (i:=x.n) (j:=0)
 have ik:Dv [t.d,.int x.k] S=Gc (.bl true,S):=by
  simp[Dv,KA,Tr.d,w,w1]
 simp[Eg,NT,it]
 generalize hsd:shD x.ow=sd at*
 have:x.d=.tup [.int x.k,.int x.n,sd]:=by rw[<-hsd];rfl
 rw[this]
 simp[ik,f,h2]
 simp[Tr.d,O]
end Mi
end
noncomputable section
namespace Mi
open PySem PySem.Spec L2 PySem.NumText
section
variable{S:Sto}
def Jf{n c:Nat}(h:c<48):c∉(nS n).cps.toList:=λz=>by
 rw[QZ]at z
 have:=PH (n:=n) c z
 lia
def YM{a b:Nat}:parted (nS a++sep 47++nS b) (sep 47)=[.str (nS a),.str (sep 47),.str (nS b)]:=by
 generalize hX:nS a++sep 47++nS b=X
 have hl:X.cps.toList=dg a++47::dg b:=by
  rw[<-hX,Oa,Oa,QZ,QZ]
  simp[sep]
 have fa:47∉dg a:=by
  have:=Jf (n:=a) (c:=47) (by decide)
  rwa [QZ]at this
 have xl:X.length=(dg a).length+1+(dg b).length:=by
  have:=congrArg zy hl
  simp[z8]at this⊢
  lia
 have at47:∀i,StrLaws.At X (sep 47) X.length i↔X.cps.toList[i]?=Gc 47:=λi=>StrLaws.subAt_one X 47 i
 have occ:∃r,xU X (sep 47) 0 X.length 1=(dg a).length::r:=by
  rcases StrLaws.occ_head X (sep 47) 1 (vf _)with⟨_,h⟩|⟨i,r,h1,h2,h3⟩
  .exact absurd ((at47 (dg a).length).mpr (by rw[hl];simp)) (h _)
  .refine⟨r,?_⟩
   have e2:=(at47 i).mp h2
   rw[hl]at e2
   have:i=(dg a).length:=by
    rcases Nat.lt_trichotomy i (dg a).length with z|z|z
    .rw[vg z]at e2
     exact absurd (wH e2) fa
    .exact z
    .exact absurd ((at47 (dg a).length).mpr (by rw[hl];simp)) (h3 _ z)
   rw[h1,this]
 obtain⟨r,e⟩:=occ
 unfold parted
 rw[e]
 have s1:y0 X 0 (dg a).length=nS a:=by
  apply N0
  rw[ACp,hl,QZ]
  simp
 have s2:y0 X ((dg a).length+(sep 47).length) X.length=nS b:=by
  apply N0
  rw[ACp,hl,QZ,xl,show(sep 47).length=1 from rfl]
  simp
 show [D.str _,D.str (sep 47),D.str _]=_
 rw[s1,s2]
def Ru{r:Rat}:CT [aD r] S=Gc (.bl true,S):=by
 have g:=XQ (S:=S) r.num r.den
 have ge:OW r.num r.den=1:=by
  have:=r.reduced
  unfold Nat.Coprime at this
  simp[OW,this]
 rw[ge]at g
 have d1:(1:Int)<=r.den:=by have:=r.den_pos;omega
 have w:=Ni (S:=S) (i:=r.num)
 have f:=Ja (S:=S) (i:=r.den) (j:=1)
 have k3:St.Kd.tup.isA "tuple"=true:=by decide
 simp[CT,Hg,aD,kdW,k3,w,f,d1,g]
def Jx{x:Rat}(h:WrA x):Bl [.str (amS x)] S=Gc (aD x,S):=by
 have e1:=E7 (S:=S) (Pe h.2.1)
 have e2:=E7 (S:=S) (Pe h.2.2)
 rw[wL h.1]at e1
 have am:=Ru (S:=S) (r:=x)
 have pw:VM (.val (.str (amS x))) (.val (.str (vY "/")))=Gc (.val (.tup [.str (nS x.num.toNat),.str (sep 47),.str (nS x.den)])):=by
  rw[RZ]
  show(if(decide ((amS x).length<=sizeLine) && ((sep 47).length !=0))=true then Gc (Wv.val (.tup (parted (amS x) (sep 47))))else none)=_
  rw[wU (by
   rw[vn]
   exact⟨xp (va (JI h) (by decide)),by decide⟩)]
  rw[show amS x=nS x.num.toNat++sep 47++nS x.den from rfl,YM]
 have ad:aD x=.tup [.int x.num,.int x.den]:=rfl
 rw[ad]at am⊢
 generalize amS x=A at*
 simp[Bl,JQ,pw,e1,e2,am]
def NoN(ds:Wp D):Prop:=∀d∈ds,∀S:Sto,isN (dr S d)=false
def KO{ds:Wp D}(h:NoN ds)(hl:ds.length<=20):By [.lst ds] S=Gc (.tup ds,S):=by
 have e1:=BH (gs:=[]) (t:=tNm 0) (f:=eOp (o2 (SD false)) [eV 0,eC .non]) (C:=[]) (m:=1) (e:=λd:D=>d) (g:=λ_=>D.bl false) (S:=S) AO (xs:=ds) (acc:=[]) (os:=[none]) rfl (AI (by simp;lia)) (by
  intro x hx os ho
  obtain⟨o,rfl⟩:=J3 ho
  have:=h x hx S
  exact⟨[Gc x],rfl,by simp,by simp[this]⟩)
 rw[List.map_id']at e1
 have b:=QG (p:=λ_:D=>false) (xs:=ds)
 simp only[v7]at e1
 generalize hz:eOp (o2 (SD false)) [eV 0,eC .non]=Z at*
 have eb:MN=(AM (xIf (eOp (o1 iQ) [As [] 1 (C7 (eV 0)) (tNm 0) Ai Z]) (AU (eC .non)) BX)
  (AU (eOp (o1 CD) [eV 0]))):=by rw[<-hz];rfl
 have wa:iQ (.val (.lst (ds.map λ_=>D.bl false)))=Gc (.val (.bl false)):=by
  show((asL _).bind λds=>(bls ds).map λbs=>Wv.val (.bl (bs.any id)))=_
  have:asL (.val (.lst (ds.map λ_=>D.bl false)))=Gc (ds.map λ_=>D.bl false):=rfl
  rw[this,An,b]
  show Gc (Wv.val (.bl ((ds.map λ_=>false).any id)))=_
  congr 3
  rw[ABo]
  simp
 generalize (ds.map λ_=>D.bl false)=BL at*
 generalize iQ=WA at*
 simp[By,eb,e1,wa]
end
end Mi
end
noncomputable section
namespace Mi
open PySem PySem.Spec L2 PySem.NumText
section
variable{S:Sto}
def Kt{x:Str}{c:Nat}(hx:x.length<=8000000):Bb (.val (.str x)) (.val (.str (sep c)))=Gc (.own ((yC x (sep c)).map .str)):=by
 have hp:Lb x (sep c)=true:=by
  unfold Lb
  have h1:x.length<=sizeLine:=va hx (by decide)
  have h2:=StrLaws.occ_length_le x (sep c) 0 x.length (x.length+1)
  have h3:(yf x (xU x (sep c) 0 x.length (x.length+1)) (sep c).length).length<=sizeLine:=by
   have:∀(cuts:Wp Nat) (w:Nat),(yf x cuts w).length=cuts.length+1:=λcuts w=>by
    unfold yf
    simp
   rw[this]
   have:(8000002:Nat)<=sizeLine:=by decide
   lia
  rw[vn,vn]
  exact⟨⟨xp h1,rfl⟩,xp h3⟩
 show(if Lb x (sep c)=true then Gc (Wv.own ((yC x (sep c)).map .str))else none)=_
 rw[wU hp]
def QR{x:Rat}{c:Nat}(h:c<47):c∉(amS x).cps.toList:=λz=>by
 unfold amS at z
 rw[Oa,Oa]at z
 simp only[wF]at z
 rcases z with(z|z)|z
 .exact Jf (by lia) z
 .simp[sep]at z
  lia
 .exact Jf (by lia) z
def WY{rs:Wp Rat}{c:Nat}(h:c<44):c∉(O9 rs).cps.toList:=by
 have:∀ts:Wp Str,(∀t∈ts,c∉t.cps.toList)->c∉(wG (sep 44) ts).cps.toList:=by
  intro ts
  induction ts with
  |nil=>intro _ z;exact nomatch z
  |cons t ts ih=>
   intro ht
   cases ts with
   |nil=>exact ht t (by simp)
   |cons u r=>
    intro z
    rw[join_cons]at z
    simp only[wF,ve]at z
    rcases z with z|z|z
    .exact ht t (by simp) z
    .lia
    .exact ih (λt' h'=>ht t' (vh _ h')) z
 refine this _ λt ht=>?_
 obtain⟨r,_,rfl⟩:=vq.mp ht
 exact QR (by lia)
def Xf{ws:Wp Int}{c:Nat}(h:c<44):c∉(SR ws).cps.toList:=by
 have:∀ts:Wp Str,(∀t∈ts,c∉t.cps.toList)->c∉(wG (sep 44) ts).cps.toList:=by
  intro ts
  induction ts with
  |nil=>intro _ z;exact nomatch z
  |cons t ts ih=>
   intro ht
   cases ts with
   |nil=>exact ht t (by simp)
   |cons u r=>
    intro z
    rw[join_cons]at z
    simp only[wF,ve]at z
    rcases z with z|z|z
    .exact ht t (by simp) z
    .lia
    .exact ih (λt' h'=>ht t' (vh _ h')) z
 refine this _ λt ht=>?_
 obtain⟨r,_,rfl⟩:=vq.mp ht
 exact Jf (by lia)
def OS{rs:Wp Rat}(h:∀r∈rs,WrA r)(h0:0<rs.length)(hl:rs.length<=10):Dm [.str (O9 rs)] S=Gc (shD rs,S):=by
 have sp:yC (O9 rs) (sep 44)=rs.map amS:=Jk (λz=>by rw[ABD]at z;rw[z]at h0;cases h0) λp hp=>by
  obtain⟨r,_,rfl⟩:=vq.mp hp
  exact QR (by decide)
 have sv:=Kt (x:=O9 rs) (c:=44) (va (Us h hl) (by decide))
 rw[sp,wR,<-comma]at sv
 have e1:=BH (gs:=[]) (t:=tNm 0) (f:=AB Bl [eV 0]) (C:=[]) (m:=1) (e:=λr=>D.str (amS r)) (g:=aD) (S:=S) AO (xs:=rs) (acc:=[]) (os:=[none]) rfl (AI (by simp;lia)) (by
  intro x hx os ho
  obtain⟨o,rfl⟩:=J3 ho
  have e:=Jx (S:=S) (h x hx)
  exact⟨[Gc (.str (amS x))],rfl,by simp,by simp[e]⟩)
 have ar:=KO (S:=S) (ds:=rs.map aD) (λd hd S=>by
  obtain⟨r,_,rfl⟩:=vq.mp hd
  rfl) (by simp;lia)
 simp only[v7]at e1
 have sh:shD rs=.tup (rs.map aD):=rfl
 rw[sh]
 simp only[xH]at sv
 generalize rs.map aD=R at*
 generalize (rs.map λr=>D.str (amS r))=Q at*
 generalize O9 rs=A at*
 generalize hz:AB Bl [eV 0]=Z at*
 have eb:Ia=(AU (AB By [As [] 1 (C7 (eOp (o2 Bb) [eV 0,eC (.str ",")])) (tNm 0) Ai Z])):=by rw[<-hz];rfl
 simp[Dm,eb,sv,e1,ar]
def NI{ws:Wp Int}(h:∀w∈ws,WrI w)(h0:0<ws.length)(hl:ws.length<=10):Di [.str (SR ws)] S=Gc (.tup (ws.map .int),S):=by
 have sp:yC (SR ws) (sep 44)=ws.map λw=>nS w.toNat:=Jk (λz=>by rw[ABD]at z;rw[z]at h0;cases h0) λp hp=>by
  obtain⟨r,_,rfl⟩:=vq.mp hp
  exact Jf (by decide)
 have sv:=Kt (x:=SR ws) (c:=44) (va (U9 h hl) (by decide))
 rw[sp,wR,<-comma]at sv
 have e1:=BH (gs:=[]) (t:=tNm 0) (f:=AB BB [eV 0]) (C:=[]) (m:=1) (e:=λw:Int=>D.str (nS w.toNat)) (g:=D.int) (S:=S) AO (xs:=ws) (acc:=[]) (os:=[none]) rfl (AI (by simp;lia)) (by
  intro x hx os ho
  obtain⟨o,rfl⟩:=J3 ho
  have e:=E7 (S:=S) (Pe (h x hx).2)
  rw[wL (h x hx).1]at e
  exact⟨[Gc (.str (nS x.toNat))],rfl,by simp,by simp[e]⟩)
 have ar:=KO (S:=S) (ds:=ws.map D.int) (λd hd S=>by
  obtain⟨r,_,rfl⟩:=vq.mp hd
  rfl) (by simp;lia)
 simp only[v7]at e1
 simp only[xH]at sv
 generalize ws.map D.int=R at*
 generalize (ws.map λw=>D.str (nS w.toNat))=Q at*
 generalize SR ws=A at*
 generalize hz:AB BB [eV 0]=Z at*
 have eb:Ie=(AU (AB By [As [] 1 (C7 (eOp (o2 Bb) [eV 0,eC (.str ",")])) (tNm 0) Ai Z])):=by rw[<-hz];rfl
 simp[Di,eb,sv,e1,ar]
def Qz{z:Pz}(h:z.ok):Av [.str z.p,.str z.x] S=Gc (z.d,S):=by
 cases z with
 |num p i=>
  obtain⟨hp,h0,h1⟩:=h
  have e:=E7 (S:=S) (Pe h1)
  rw[wL h0]at e
  obtain⟨⟨a1,a2⟩,⟨b1,b2⟩,c1,c2⟩:=Um hp
  show Av [.str p,.str (nS i.toNat)] S=Gc (.int i,S)
  generalize nS i.toNat=X at*
  simp[Av,EY,e,a1,a2,b1,b2,c1,c2]
 |am x=>
  have e:=Jx (S:=S) h
  show Av [.str "share",.str (amS x)] S=Gc (aD x,S)
  generalize aD x=Y at*
  generalize amS x=X at*
  simp[Av,EY,e]
 |ams rs=>
  have e:=OS (S:=S) h.1 h.2.1 h.2.2
  show Av [.str "shares",.str (O9 rs)] S=Gc (shD rs,S)
  generalize shD rs=Y at*
  generalize O9 rs=X at*
  simp[Av,EY,e]
 |nms ws=>
  have e:=NI (S:=S) h.1 h.2.1 h.2.2
  show Av [.str "worths",.str (SR ws)] S=Gc (.tup (ws.map .int),S)
  generalize D.tup (ws.map .int)=Y at*
  generalize SR ws=X at*
  simp[Av,EY,e]
end
end Mi
end
noncomputable section
namespace Mi
open PySem PySem.Spec L2 PySem.NumText
section
variable{S:Sto}
def qv{z:Pz}(S:Sto):isN (dr S z.d)=false/\dr S z.d=.val z.d:=by cases z<;>exact⟨rfl,rfl⟩
def JJ{zs:Wp Pz}(h:∀z∈zs,z.ok)(hl:zs.length<=10):Ax [.tup (zs.map λz=>.str z.p),.lst (zs.map λz=>.str z.x)] S=Gc (.tup (zs.map Pz.d),S):=by
 have e1:=BH (gs:=[]) (t:=tTp [tNm 0,tNm 1]) (f:=AB Av [eV 0,eV 1]) (C:=[]) (m:=2) (e:=λz:Pz=>D.tup [.str z.p,.str z.x]) (g:=Pz.d) (S:=S) AO (xs:=zs) (acc:=[]) (os:=[none,none]) rfl (AI (by simp;lia)) (by
  intro x hx os ho
  obtain⟨o,o',rfl⟩:=fD ho
  have e:=Qz (S:=S) (h x hx)
  exact⟨[Gc (.str x.p),Gc (.str x.x)],rfl,by simp,by simp[e]⟩)
 have ar:=KO (S:=S) (ds:=zs.map Pz.d) (λd hd S=>by
  obtain⟨r,_,rfl⟩:=vq.mp hd
  exact(qv S).1) (by simp;lia)
 simp only[v7]at e1
 have zp:MO (zs.map λz=>D.str z.p) (zs.map λz=>D.str z.x)=zs.map λz=>D.tup [.str z.p,.str z.x]:=by
  clear e1 ar hl h
  induction zs with
  |nil=>rfl
  |cons t ts ih=>
   unfold MO at ih⊢
   simp only[v5,ABg,ih]
 have l1:(zs.map λz=>D.str z.p).length=zs.length:=wY ..
 have l2:(zs.map λz=>D.str z.x).length=zs.length:=wY ..
 generalize zs.map Pz.d=R at*
 generalize (zs.map λz=>D.str z.p)=P at*
 generalize (zs.map λz=>D.str z.x)=X at*
 generalize hz:AB Av [eV 0,eV 1]=Z at*
 have eb:Kx=(AM (xIf (eOp (o2 wNe) [eOp (o1 FI) [eV 1],eOp (o1 FI) [eV 0]]) (AU (eC .non)) BX)
  (AU (AB By [As [] 2 (VZ (eV 0) (eV 1)) (tTp [tNm 0,tNm 1]) Ai Z]))):=by rw[<-hz];rfl
 simp[Ax,eb,l1,l2,zp,e1,ar]
def Wr{z:Pz}{c:Nat}(h:c<44):c∉z.x.cps.toList:=by
 cases z with
 |num p i=>exact Jf (by lia)
 |am x=>exact QR (by lia)
 |ams rs=>exact WY h
 |nms ws=>exact Xf h
def R8(w:Str):Prop:=32∉w.cps.toList/\10∉w.cps.toList/\w.length<=10
def Cn:R8 "train" /\R8 "first" /\∀d,R8 (BO d):=by
 have:∀w∈([vY "train",vY "first",vY "bring",vY "pool",vY "swap",vY "trade",vY "spoil",vY "throw",vY "sell"]:Wp Str),32∉w.cps.toList/\10∉w.cps.toList/\w.length<=10:=by decide+kernel
 refine⟨this _ (by simp),this _ (by simp),λd=>this _ ?_⟩
 cases d<;>simp[BO]
def JF{w:Str}{zs:Wp Pz}(hw:R8 w)(h:∀z∈zs,z.ok)(hl:zs.length<=10):Bb (.val (.str (Cq w zs))) (.val (.str (vY " ")))=Gc (.own (.str w::zs.map λz=>.str z.x)):=by
 have sp:yC (Cq w zs) (sep 32)=w::zs.map Pz.x:=Jk (by simp) λp hp=>by
  rcases ve.mp hp with rfl|hp
  .exact hw.1
  .obtain⟨z,_,rfl⟩:=vq.mp hp
   exact Wr (by decide)
 have sv:=Kt (x:=Cq w zs) (c:=32) (va (FR hw.2.2 h hl) (by decide))
 rw[sp]at sv
 rw[blank,sv]
 simp[xH]
def Qo{d:AN}(h:∀z∈dpz d,z.ok):BY [.str (Cq (BO d) (dpz d))] S=Gc (d.d,S):=by
 have hl:=Ii (d:=d)
 have rs:=JF (Cn.2.2 d) h (by lia)
 obtain⟨h1,h2,h3⟩:=Lx d
 have fr:=JJ (S:=S) h (by lia)
 have wt:SM Ao (.val (.str (BO d)))=Gc (.val (.tup ((dpz d).map λz=>.str z.p))):=by
  show(yg (BO d) Ao).map Wv.val=_
  rw[h2]
  rfl
 have wi:HN true Ao (.val (.str (BO d)))=Gc (.val (.bl false)):=by
  show Gc (Wv.val (.bl (!(yg (BO d) Ao).isSome)))=_
  rw[h2]
  rfl
 have sz:1+((dpz d).map Pz.d).length<=sizeLine:=AI (by simp;lia)
 rw[h1]
 generalize Cq (BO d) (dpz d)=R at*
 generalize (dpz d).map Pz.d=Q at*
 generalize ((dpz d).map λz=>D.str z.x)=X at*
 generalize ((dpz d).map λz=>D.str z.p)=P at*
 generalize BO d=W at*
 have as1:∀T:Sto,ig T (.lst (.str W::X))=Gc (.str W::X):=λ_=>rfl
 have st:Hj 1 2 (eOp (o2 Bb) [eV 0,eC (.str " ")]) [Gc (.str R),none,none,none] S=Gc (.nx,[Gc (.str R),Gc (.str W),Gc (.lst X),none],S):=by
  unfold Hj
  generalize Bb=WS at*
  simp[rs,as1]
 generalize hz:Hj 1 2 (eOp (o2 Bb) [eV 0,eC (.str " ")])=Z at*
 have eb:Ho=(AM Z
  (AM (xIf (eOp (o1 (HN true Ao)) [eV 1]) (AU (eC .non)) BX)
  (AM (A6 3 (AB Ax [eOp (o1 (SM Ao)) [eV 1],eV 2]))
  (AU (eIf (eOp (o2 (SD false)) [eV 3,eC .non]) (eC .non) (eOp (o2 BF) [Bh [eV 1],eV 3])))))):=by rw[<-hz];rfl
 have nn:isN (.val (.tup Q))=false:=rfl
 generalize SM Ao=W1 at*
 generalize HN true Ao=W2 at*
 simp[BY,eb,st,wt,wi,fr,nn,sz]
def P0{x:Ld}(h:∀z∈ldP x,z.ok):BI [.str (Cq "first" (ldP x))] S=Gc (x.d,S):=by
 have rs:=JF Cn.2.1 h (by simp[ldP])
 have fr:=JJ (S:=S) h (by simp[ldP])
 have fr':Ax [Cz,.lst ((ldP x).map λz=>.str z.x)] S=Gc (x.d,S):=fr
 generalize Cq "first" (ldP x)=R at*
 generalize ((ldP x).map λz=>D.str z.x)=X at*
 generalize x.d=Q at*
 have as1:∀T:Sto,ig T (.lst (.str (vY "first")::X))=Gc (.str (vY "first")::X):=λ_=>rfl
 have st:Hj 1 2 (eOp (o2 Bb) [eV 0,eC (.str " ")]) [Gc (.str R),none,none] S=Gc (.nx,[Gc (.str R),Gc (.str (vY "first")),Gc (.lst X)],S):=by
  unfold Hj
  generalize Bb=WS at*
  simp[rs,as1]
 generalize hz:Hj 1 2 (eOp (o2 Bb) [eV 0,eC (.str " ")])=Z at*
 have eb:Gp=(AM Z
  (AU (eIf (eOp (o2 wEq) [eV 1,eC (.str "first")]) (AB Ax [eC Cz,eV 2]) (eC .non)))):=by rw[<-hz];rfl
 have eqs:KI (.str (vY "first")) (.str (vY "first"))=true/\deq (.str (vY "first")) (.str (vY "first"))=true:=by decide+kernel
 simp[BI,eb,st,fr',eqs.1,eqs.2]
def QA{t:Tr}(h:∀z∈trP t,z.ok):Dc [.str (Cq "train" (trP t))] S=Gc (t.d,S):=by
 have rs:=JF Cn.1 h (by simp[trP])
 have fr:=JJ (S:=S) h (by simp[trP])
 have fr':Ax [Cr,.lst ((trP t).map λz=>.str z.x)] S=Gc (.tup [.int t.p,.int t.k,.int t.b,.int t.h,.int t.l,shD t.ho],S):=fr
 generalize Cq "train" (trP t)=R at*
 generalize ((trP t).map λz=>D.str z.x)=X at*
 have as1:∀T:Sto,ig T (.lst (.str (vY "train")::X))=Gc (.str (vY "train")::X):=λ_=>rfl
 have st:∀us:En,Hj 1 2 (eOp (o2 Bb) [eV 0,eC (.str " ")]) (Gc (.str R)::none::none::us) S=Gc (.nx,Gc (.str R)::Gc (.str (vY "train"))::Gc (.lst X)::us,S):=λus=>by
  unfold Hj
  generalize Bb=WS at*
  simp[rs,as1]
 generalize hz:Hj 1 2 (eOp (o2 Bb) [eV 0,eC (.str " ")])=Z at*
 have eb:Js=(AM Z
  (AM (A6 3 (AB Ax [eC Cr,eV 2]))
  (AM (xIf (eOr (eOp (o2 wNe) [eV 1,eC (.str "train")]) (eOp (o2 (SD false)) [eV 3,eC .non])) (AU (eC .non)) BX)
  (AM (Ki (tTp [tNm 4,tNm 5,tNm 6,tNm 7,tNm 8,tNm 9]) (eV 3))
  (AU (Bh [eV 4,eV 5,eV 6,eV 9,eV 7,eV 8])))))):=by rw[<-hz];rfl
 have eqs:KI (.str (vY "train")) (.str (vY "train"))=true/\deq (.str (vY "train")) (.str (vY "train"))=true:=by decide+kernel
 have td:t.d=.tup [.int t.p,.int t.k,.int t.b,shD t.ho,.int t.h,.int t.l]:=rfl
 have nn:isN (.val (.tup [.int t.p,.int t.k,.int t.b,.int t.h,.int t.l,shD t.ho]))=false:=rfl
 have z6:1+1+1+1+1+1<=sizeLine:=AI (by decide)
 rw[td]
 generalize shD t.ho=HO at*
 simp[Dc,eb,st,fr',eqs.1,eqs.2,nn,z6]
end
end Mi
end
noncomputable section
namespace Mi
open PySem PySem.Spec L2 PySem.NumText
section
variable{S:Sto}
inductive Rw2 where
 |ld (x:Ld)
 |dd (d:AN)
noncomputable def Rw2.s:Rw2->Str
 | .ld x=>Cq "first" (ldP x)
 | .dd d=>Cq (BO d) (dpz d)
def Rw2.ok:Rw2->Prop
 | .ld x=>∀z∈ldP x,z.ok
 | .dd d=>∀z∈dpz d,z.ok
noncomputable def Rw2.isL:Rw2->xD
 | .ld _=>true
 | .dd _=>false
noncomputable def Rw2.l:Rw2->D
 | .ld x=>x.d
 | .dd _=>.non
noncomputable def Rw2.e:Rw2->D
 | .ld _=>.non
 | .dd d=>d.d
def dY{w:Str}{zs:Wp Pz}(h:0<zs.length):(Cq w zs).cps.toList=w.cps.toList++32::(wG (sep 32) (zs.map Pz.x)).cps.toList:=by
 cases zs with
 |nil=>cases h
 |cons z zs=>exact join_cons
def Ri{zs:Wp Pz}(h:0<zs.length):zR (Cq "first" zs) (vY "first ")=true:=by
 have hl:=dY (w:="first") h
 have f5:(vY "first").cps.toList=[102,105,114,115,116]:=by decide+kernel
 have f6:(vY "first ").cps.toList=[102,105,114,115,116,32]:=by decide+kernel
 have l6:(vY "first ").length=6:=by decide+kernel
 have rl:(Cq "first" zs).length=(Cq "first" zs).cps.toList.length:=by simp[z8]
 rw[f5]at hl
 unfold zR
 rw[vn]
 refine⟨xp ?_,?_⟩
 .rw[rl,hl,l6]
  simp
 .rw[StrLaws.subAt_eq,hl,l6,f6]
  rfl
def Vx{d:AN}:zR (Cq (BO d) (dpz d)) (vY "first ")=false:=by
 have hl:=dY (w:=BO d) (Ii (d:=d)).1
 have f6:(vY "first ").cps.toList=[102,105,114,115,116,32]:=by decide+kernel
 have l6:(vY "first ").length=6:=by decide+kernel
 have hd:∀w∈([vY "bring",vY "pool",vY "swap",vY "trade",vY "spoil",vY "throw",vY "sell"]:Wp Str),∃c r,w.cps.toList=c::r/\c≠102:=by
  have:∀w∈([vY "bring",vY "pool",vY "swap",vY "trade",vY "spoil",vY "throw",vY "sell"]:Wp Str),w.cps.toList.head?≠Gc 102/\w.cps.toList≠[]:=by decide+kernel
  intro w hw
  obtain⟨h1,h2⟩:=this w hw
  cases z:w.cps.toList with
  |nil=>exact absurd z h2
  |cons c r=>
   rw[z]at h1
   exact⟨c,r,rfl,λe=>h1 (by rw[e];rfl)⟩
 obtain⟨c,r,e,hc⟩:=hd (BO d) (by cases d<;>simp[BO])
 unfold zR
 rw[ACn]
 refine .inr ?_
 rw[StrLaws.subAt_eq,hl,l6,f6,e]
 simp[hc]
def YT{d:AN}(h:∀z∈dpz d,z.ok):BI [.str (Cq (BO d) (dpz d))] S=Gc (.non,S):=by
 have hl:=Ii (d:=d)
 have rs:=JF (Cn.2.2 d) h (by lia)
 have ne:∀w∈([vY "bring",vY "pool",vY "swap",vY "trade",vY "spoil",vY "throw",vY "sell"]:Wp Str),KI (.str w) (.str (vY "first"))=true/\deq (.str w) (.str (vY "first"))=false:=by decide+kernel
 obtain⟨n1,n2⟩:=ne (BO d) (by cases d<;>simp[BO])
 generalize Cq (BO d) (dpz d)=R at*
 generalize ((dpz d).map λz=>D.str z.x)=X at*
 generalize BO d=W at*
 have as1:∀T:Sto,ig T (.lst (.str W::X))=Gc (.str W::X):=λ_=>rfl
 have st:Hj 1 2 (eOp (o2 Bb) [eV 0,eC (.str " ")]) [Gc (.str R),none,none] S=Gc (.nx,[Gc (.str R),Gc (.str W),Gc (.lst X)],S):=by
  unfold Hj
  generalize Bb=WS at*
  simp[rs,as1]
 generalize hz:Hj 1 2 (eOp (o2 Bb) [eV 0,eC (.str " ")])=Z at*
 have eb:Gp=(AM Z
  (AU (eIf (eOp (o2 wEq) [eV 1,eC (.str "first")]) (AB Ax [eC Cz,eV 2]) (eC .non)))):=by rw[<-hz];rfl
 simp[BI,eb,st,n1,n2]
def Zn{x:Ld}(h:∀z∈ldP x,z.ok):BY [.str (Cq "first" (ldP x))] S=Gc (.non,S):=by
 have rs:=JF Cn.2.1 h (by simp[ldP])
 have wi:HN true Ao (.val (.str (vY "first")))=Gc (.val (.bl true)):=rfl
 generalize Cq "first" (ldP x)=R at*
 generalize ((ldP x).map λz=>D.str z.x)=X at*
 have as1:∀T:Sto,ig T (.lst (.str (vY "first")::X))=Gc (.str (vY "first")::X):=λ_=>rfl
 have st:Hj 1 2 (eOp (o2 Bb) [eV 0,eC (.str " ")]) [Gc (.str R),none,none,none] S=Gc (.nx,[Gc (.str R),Gc (.str (vY "first")),Gc (.lst X),none],S):=by
  unfold Hj
  generalize Bb=WS at*
  simp[rs,as1]
 generalize hz:Hj 1 2 (eOp (o2 Bb) [eV 0,eC (.str " ")])=Z at*
 have eb:Ho=(AM Z
  (AM (xIf (eOp (o1 (HN true Ao)) [eV 1]) (AU (eC .non)) BX)
  (AM (A6 3 (AB Ax [eOp (o1 (SM Ao)) [eV 1],eV 2]))
  (AU (eIf (eOp (o2 (SD false)) [eV 3,eC .non]) (eC .non) (eOp (o2 BF) [Bh [eV 1],eV 3])))))):=by rw[<-hz];rfl
 generalize HN true Ao=W2 at*
 simp[BY,eb,st,wi]
def RT{t:Tr}{ls:Wp Ld}{ds:Wp AN}(h:WrB t ls ds):ES [.lst ((GF t ls ds).map .str)] S=Gc (Aa t ls ds,S):=by
 have e0:=QA (S:=S) h.tr
 generalize hxs:(ls.map Rw2.ld++ds.map Rw2.dd)=xs
 have hr:(GF t ls ds).map D.str=.str (Cq "train" (trP t))::xs.map λx=>D.str x.s:=by
  rw[<-hxs]
  simp[GF,Rw2.s,xH]
 have hok:∀x∈xs,x.ok:=λx hx=>by
  rw[<-hxs]at hx
  rcases wF.mp hx with z|z
  .obtain⟨y,hy,rfl⟩:=vq.mp z
   exact h.ld y hy
  .obtain⟨y,hy,rfl⟩:=vq.mp z
   exact h.dd y hy
 have hlen:xs.length<=50:=by
  rw[<-hxs]
  have:=h.l4
  have:=h.d20
  simp
  lia
 have st:∀x∈xs,FW (.val (.str x.s)) (.val (.str (vY "first ")))=Gc (.val (.bl x.isL)):=λx hx=>by
  show Gc (Wv.val (.bl (zR x.s (vY "first "))))=_
  cases x with
  |ld y=>rw[show(Rw2.ld y).s=Cq "first" (ldP y)from rfl,Ri (by simp[ldP])];rfl
  |dd d=>rw[show(Rw2.dd d).s=Cq (BO d) (dpz d)from rfl,Vx];rfl
 have e1:=EC (gs:=[]) (t:=tNm 0) (c:=eOp (o2 FW) [eV 0,eC (.str "first ")]) (f:=AB BI [eV 0]) (C:=[]) (m:=1) (e:=λx:Rw2=>D.str x.s) (g:=Rw2.l) (b:=Rw2.isL) (S:=S) AO (xs:=xs) (acc:=[]) (os:=[none]) rfl (AI (by simp;lia)) (by
  intro x hx os ho
  obtain⟨o,rfl⟩:=J3 ho
  have s1:=st x hx
  have rd:BI [.str x.s] S=Gc (x.l,S):=by
   cases x with
   |ld y=>exact P0 (hok _ hx)
   |dd d=>exact YT (hok _ hx)
  refine⟨[Gc (.str x.s)],rfl,by simp,?_,by simp[rd]⟩
  generalize x.s=X at*
  generalize FW=W at*
  simp[s1])
 have e2:=EC (gs:=[]) (t:=tNm 0) (c:=Jm (eOp (o2 FW) [eV 0,eC (.str "first ")])) (f:=AB BY [eV 0]) (C:=[]) (m:=1) (e:=λx:Rw2=>D.str x.s) (g:=Rw2.e) (b:=λx=> !x.isL) (S:=S) AO (xs:=xs) (acc:=[]) (os:=[none]) rfl (AI (by simp;lia)) (by
  intro x hx os ho
  obtain⟨o,rfl⟩:=J3 ho
  have s1:=st x hx
  have rd:BY [.str x.s] S=Gc (x.e,S):=by
   cases x with
   |ld y=>exact Zn (hok _ hx)
   |dd d=>exact Qo (hok _ hx)
  refine⟨[Gc (.str x.s)],rfl,by simp,?_,by simp[rd]⟩
  generalize x.s=X at*
  generalize FW=W at*
  simp[s1])
 have f1:(xs.filter Rw2.isL).map Rw2.l=ls.map Ld.d:=by
  rw[<-hxs,ABi,yT]
  have a:∀ls:Wp Ld,((ls.map Rw2.ld).filter Rw2.isL).map Rw2.l=ls.map Ld.d:=λls=>by
   induction ls with
   |nil=>rfl
   |cons x ls ih=>rw[v5,ACE rfl,v5,ih];rfl
  have b:∀ds:Wp AN,((ds.map Rw2.dd).filter Rw2.isL).map Rw2.l=[]:=λds=>by
   induction ds with
   |nil=>rfl
   |cons x ls ih=>rw[v5,ACF (by simp[Rw2.isL])];exact ih
  rw[a,b,yJ]
 have f2:(xs.filter λx=> !x.isL).map Rw2.e=ds.map AN.d:=by
  rw[<-hxs,ABi,yT]
  have a:∀ls:Wp Ld,((ls.map Rw2.ld).filter λx=> !x.isL).map Rw2.e=[]:=λls=>by
   induction ls with
   |nil=>rfl
   |cons x ls ih=>rw[v5,ACF (by simp[Rw2.isL])];exact ih
  have b:∀ds:Wp AN,((ds.map Rw2.dd).filter λx=> !x.isL).map Rw2.e=ds.map AN.d:=λds=>by
   induction ds with
   |nil=>rfl
   |cons x ls ih=>rw[v5,ACE rfl,v5,ih];rfl
  rw[a,b,v7]
 rw[f1]at e1
 rw[f2]at e2
 simp only[v7]at e1 e2
 rw[hr]
 have bd:Aa t ls ds=.tup [t.d,.tup (ls.map Ld.d),.tup (ds.map AN.d)]:=rfl
 have sl:wSl (Gc 1) none (.val (.lst (.str (Cq "train" (trP t))::xs.map λx=>D.str x.s)))=Gc (.own (xs.map λx=>D.str x.s)):=by
  show Gc (Wv.own (MU _ _ _))=_
  have:∀(a:D) (r:Wp D),MU (a::r) (Gc 1) none=r:=λa r=>UH (ds:=a::r) (n:=1) (by simp)
  rw[this]
 rw[bd]
 generalize ls.map Ld.d=LS at*
 generalize ds.map AN.d=DS at*
 generalize t.d=T at*
 generalize Cq "train" (trP t)=TR at*
 generalize (xs.map λx=>D.str x.s)=XS at*
 generalize hz1:eOp (o2 FW) [eV 0,eC (.str "first ")]=Z1 at*
 generalize hz2:AB BI [eV 0]=Z2 at*
 generalize hz3:AB BY [eV 0]=Z3 at*
 generalize hz4:Jm Z1=Z4 at*
 have eb:K2=(AM (A6 1 (As [] 1 (C7 (eOp (HR true false) [eV 0,eI 1])) (tNm 0) Z1 Z2))
  (AM (A6 2 (As [] 1 (C7 (eOp (HR true false) [eV 0,eI 1])) (tNm 0) Z4 Z3))
  (AU (Bh [AB Dc [eIx (eV 0) (eI 0)],eOp (o1 CD) [eV 1],eOp (o1 CD) [eV 2]])))):=by rw[<-hz4,<-hz1,<-hz2,<-hz3];rfl
 have z3:1+1+1<=sizeLine:=AI (by decide)
 simp[ES,eb,sl,e0,e1,e2,z3]
end
end Mi
end
noncomputable section
namespace Mi
open PySem PySem.Spec L2 PySem.NumText
section
variable{S:Sto}
def WZ{t:Tr}{ls:Wp Ld}{ds:Wp AN}:∀r∈GF t ls ds,10∉r.cps.toList:=by
 have one:∀{w:Str} {zs:Wp Pz},R8 w->10∉(Cq w zs).cps.toList:=λ{w zs} hw=>by
  have:∀ts:Wp Str,(∀t∈ts,10∉t.cps.toList)->10∉(wG (sep 32) ts).cps.toList:=by
   intro ts
   induction ts with
   |nil=>intro _ z;exact nomatch z
   |cons t ts ih=>
    intro ht
    cases ts with
    |nil=>exact ht t (by simp)
    |cons u r=>
     intro z
     rw[join_cons]at z
     simp only[wF,ve]at z
     rcases z with z|z|z
     .exact ht t (by simp) z
     .exact absurd z (by decide)
     .exact ih (λt' h'=>ht t' (vh _ h')) z
  refine this _ λt ht=>?_
  rcases ve.mp ht with rfl|ht
  .exact hw.2.1
  .obtain⟨z,_,rfl⟩:=vq.mp ht
   exact Wr (by decide)
 intro r hr
 simp only[GF,wF,wN,vq]at hr
 rcases hr with(rfl|⟨x,hx,rfl⟩)|⟨d,hd,rfl⟩
 .exact one Cn.1
 .exact one Cn.2.1
 .exact one (Cn.2.2 d)
noncomputable def Eb(t:Tr)(ls:Wp Ld)(ds:Wp AN):Str:=wG (sep 10) (GF t ls ds)
def ZE{t:Tr}{ls:Wp Ld}{ds:Wp AN}(h:WrB t ls ds):(Eb t ls ds).length<=7800000:=va (ND (Mm h).1 (Mm h).2) (by decide)
def Vg{t:Tr}{ls:Wp Ld}{ds:Wp AN}(h:WrB t ls ds):Bb (.val (.str (Eb t ls ds))) (.val (.str (vY "\n")))=Gc (.own ((GF t ls ds).map .str)):=by
 have sp:yC (Eb t ls ds) (sep 10)=GF t ls ds:=Jk (by simp[GF]) WZ
 have sv:=Kt (x:=Eb t ls ds) (c:=10) (va (ZE h) (by decide))
 rw[sp]at sv
 rw[line,sv]
def W8{x:Str}(h:∀c∈x.cps.toList,c<128):x8 x=true:=by
 unfold x8
 rw[<-ACD,AAy]
 intro c hc
 have:=h c hc
 simp
 lia
def Asc(x:Str):Prop:=∀c∈x.cps.toList,c<128
theorem Ku{c:Nat}(hc:c<128):∀{ts:Wp Str},(∀t∈ts,Asc t)->Asc (wG (sep c) ts)
 | [],_=>λ_ z=>nomatch z
 | [t],h=>h t (by simp)
 |t::u::r,h=>λd z=>by
  rw[join_cons]at z
  simp only[wF,ve]at z
  rcases z with z|z|z
  .exact h t (by simp) d z
  .lia
  .exact Ku hc (ts:=u::r) (λt' h'=>h t' (vh _ h')) d z
def bM{n:Nat}:Asc (nS n):=λc hc=>by
 rw[QZ]at hc
 have:=PH (n:=n) c hc
 lia
def Yl{x:Rat}:Asc (amS x):=λc hc=>by
 unfold amS at hc
 rw[Oa,Oa]at hc
 simp only[wF]at hc
 rcases hc with(z|z)|z
 .exact bM c z
 .simp[sep]at z
  lia
 .exact bM c z
def kc{z:Pz}:Asc z.x:=by
 cases z with
 |num p i=>exact bM
 |am x=>exact Yl
 |ams rs=>
  refine Ku (by decide) λt ht=>?_
  obtain⟨r,_,rfl⟩:=vq.mp ht
  exact Yl
 |nms ws=>
  refine Ku (by decide) λt ht=>?_
  obtain⟨r,_,rfl⟩:=vq.mp ht
  exact bM
def Ky:Asc "train" /\Asc "first" /\∀d,Asc (BO d):=by
 have:∀w∈([vY "train",vY "first",vY "bring",vY "pool",vY "swap",vY "trade",vY "spoil",vY "throw",vY "sell"]:Wp Str),∀c∈w.cps.toList,c<128:=by decide+kernel
 refine⟨this _ (by simp),this _ (by simp),λd=>this _ ?_⟩
 cases d<;>simp[BO]
def Pw{w:Str}{zs:Wp Pz}(h:Asc w):Asc (Cq w zs):=Ku (by decide) λt ht=>by
 rcases ve.mp ht with rfl|ht
 .exact h
 .obtain⟨z,_,rfl⟩:=vq.mp ht
  exact kc
def Uq{t:Tr}{ls:Wp Ld}{ds:Wp AN}:Asc (Eb t ls ds):=Ku (by decide) λr hr=>by
 simp only[GF,wF,wN,vq]at hr
 rcases hr with(rfl|⟨x,hx,rfl⟩)|⟨d,hd,rfl⟩
 .exact Pw Ky.1
 .exact Pw Ky.2.1
 .exact Pw (Ky.2.2 d)
def QB{x:Str}(h:Asc x):KI (.str x) (.str x)=true/\deq (.str x) (.str x)=true:=⟨Nt (show x8 x=true from W8 h) (by simp only[D.py,ABP];lia),QI (show x8 x=true from W8 h)⟩
def Rm{t:Tr}{ls:Wp Ld}{ds:Wp AN}(h:WrB t ls ds)(hb:∀S,Dy [Aa t ls ds] S=Gc (.bl true,S))(bk:CA t ls ds):∃S',C8 [.str (Eb t ls ds)] S=Gc (Aa t ls ds,S')/\B5 [] S S':=by
 have sp:=Vg h
 have rr:=RT (S:=S) h
 have ib:=hb S
 have fw:=Jq (S:=S) bk
 obtain⟨S1,e1,s1⟩:=MK (S:=S) h
 have e1':B6 [Aa t ls ds] S=Gc (.str (Eb t ls ds),S1):=e1
 refine⟨S1,?_,s1⟩
 have k3:St.Kd.str.isA "str"=true:=by decide
 have kn:kdW (.val (.str (Eb t ls ds)))=Gc St.Kd.str:=rfl
 have nn:isN (.val .non)=true:=rfl
 obtain⟨h1,h2⟩:=QB (Uq (t:=t) (ls:=ls) (ds:=ds))
 generalize Aa t ls ds=B at*
 generalize (GF t ls ds).map D.str=R at*
 generalize Eb t ls ds=X at*
 have eb:LN=(AM (xIf (Jm (eOp (o2 SQ) [eV 0,eC (.ty "str")])) IX BX)
  (AM (A6 1 (AB ES [eOp (o2 Bb) [eV 0,eC (.str "\n")]]))
  (AM (xIf (eOr (Jm (AB Dy [eV 1])) (eOp (o2 (SD true)) [AB CL [eV 1],eC .non])) IX BX)
  (AM (xIf (eOp (o2 wNe) [AB B6 [eV 1],eV 0]) IX BX)
  (AU (eV 1)))))):=rfl
 generalize Bb=WS at*
 simp[C8,eb,kn,k3,sp,rr,ib,fw,nn,e1',h1,h2]
end
end Mi
end
noncomputable section
namespace Mi
open PySem PySem.Spec L2
section
variable{S:Sto}{p:Nat}
def Zp{M:Nat}(hM:M<=16)(h:EF p S):∃t ls ds S',Ci [.ref p,.int M] S=Gc (Aa t ls ds,S')/\(CA t ls ds/\ds.length<=M/\(∀d∈ds,Sm d)/\sf t)/\((∀l∈ls,l.ow.sum=1)/\t.ho.sum=1)/\((ds.filter G5).length<=3/\FT t ls/\∃g:Nat,0<g/\g<=32/\∀r∈t.ho,Ok g g r)/\EF p S'/\∀n c,S[n]?=Gc c->n≠p->S'[n]?=Gc c:=by
 obtain⟨t,S1,e1,p1,ht,⟨hh,hhr⟩,g,g0,g1,g2⟩:=YJ h
 obtain⟨ls,S2,e2,p2,hf,hl⟩:=bp p1.pen ht
 have hi:=SH hf hl hh.1 g0 g1 g2
 obtain⟨s,l,m,as,S3,e3,hS,sm,hn⟩:=ZR (S:=S2) (t:=t) (ls:=ls) (x:=.tup []) (by lia)
 have lp:=p2.pen.lt
 have l02:S.length<=S2.length:=va p1.same.len p2.same.len
 have pen3:EF p S3:=by
  obtain⟨ds,e,hp⟩:=p2.pen
  exact⟨ds,sm.get e (by simp),hp⟩
 have hq:(S3++[Cl.lst []])[S3.length]?=Gc (.lst []):=wK
 obtain⟨rn,S4,e4,a4,b4,p4⟩:=Ap (pen3.app [Cl.lst []]) (n:=(M:Int)+1) (by lia) (by lia)
 have lt3:=hS.lts
 have pn:p∉s::l::m::as:=λz=>by have:=hn p z;lia
 have qn:S3.length∉s::l::m::as:=λz=>by have:=lt3 _ z;lia
 have hpq:S3.length≠p:=by have:=pen3.lt;lia
 have hS4:SAt S4 s l m as (st0 t ls):=(hS.Wj (.app)).same p4.same (by simpa using pn)
 have hq4:S4[S3.length]?=Gc (.lst []):=p4.get hq hpq
 obtain⟨rn,rfl⟩:=Il a4
 have rk:Lg (rn:Int)=true:=Fp (by lia) (by lia)
 have lqS:S.length<=S3.length:=va l02 sm.len
 generalize hQ:S3.length=q at*
 obtain⟨E',S',ef,ds,as',o6,o7,rfl,f1,f2,f3,f4,f5,f6,f7,f8,f9,f10⟩:=Hx (gs:=[]) (t:=tNm 6) (b:=AM (A6 7 (AB Ee [eV 0,eV 2,eV 4]))
  (xIf (eOr (eOp (o2 wNe) [eOp (o2 wIx) [eV 7,eC (.int 0)],eC (.str "throw")]) (eOp (o2 wLt) [eOp (o1 FI) [As [] 1 (C7 (eV 5)) (tNm 0) (eOp (o2 wEq) [eOp (o2 wIx) [eV 0,eC (.int 0)],eC (.str "throw")]) (eV 0)],eC (.int 3)])) (AM (EA (AB EW [eV 2,eV 4,eV 7]))
  (EA (Mq Ng (eV 5) [eV 7]))) BX))
  (I:=λrs E S'=>∃(ds:Wp AN) (as':Wp Nat) (o6 o7:vi D),E=[Gc (.ref p),Gc (.int M),Gc t.d,Gc (.tup (ls.map Ld.d)),Gc (.ref s),Gc (.ref q),o6,o7]/\S'[q]?=Gc (.lst (ds.map AN.d))/\EF p S'/\SAt S' s l m as' (runs t (st0 t ls) ds)/\(LP t (st0 t ls) ds/\(ds.filter G5).length<=3)/\ds.length+rs.length<=M/\p∉s::l::m::as'/\q∉s::l::m::as'/\(∀n∈s::l::m::as',S.length<=n)/\(∀n c,S[n]?=Gc c->n≠p->S'[n]?=Gc c)/\∀d∈ds,Sm d)
  (λ_ _ _ _=>AO) (ds:=OX 0 rn) (E:=[Gc (.ref p),Gc (.int M),Gc t.d,Gc (.tup (ls.map Ld.d)),Gc (.ref s),Gc (.ref q),none,none]) (S:=S4)
  ⟨[],as,none,none,rfl,hq4,p4.pen,hS4,⟨trivial,yB _⟩,by rw[Jj];simp;lia,pn,qn,λn z=>va l02 (hn n z),λn c e ne=>p4.get (B5.get (A:=[]) .app (sm.get (p2.get (p1.get e ne) ne) (by simp)) (by simp)) ne,λ_ z=>nomatch z⟩ (by
    rintro dd rs E T ⟨ds,as',o6,o7,rfl,i1,i2,i3,i4,i5,i6,i7,i8,i9,i10⟩
    simp only[xT]at i5
    have inv:=Pc ht hi i4.1 (by lia)
    rw[ACS]at inv
    obtain⟨d,T1,d1,d2,d3,d4⟩:=Zl i2 i3 i6 ht inv (by lia)
    have lS:S.length<=T1.length:=by have:=i8 s vp;have:=Af i3.root;have:=d2.same.len;lia
    have j3:=i3.same d2.same (by simpa using i6)
    have j1:T1[q]?=Gc (.lst (ds.map AN.d)):=d2.get i1 hpq
    have tc:=uY j1 (by lia)
    have w1:∀(c:Ev),eOr (eOp (o2 wNe) [eOp (o2 wIx) [eV 7,eC (.int 0)],eC (.str "throw")]) c [Gc (.ref p),Gc (.int M),Gc t.d,Gc (.tup (ls.map Ld.d)),Gc (.ref s),Gc (.ref q),Gc dd,Gc d.d] T1=if G5 d=true then c [Gc (.ref p),Gc (.int M),Gc t.d,Gc (.tup (ls.map Ld.d)),Gc (.ref s),Gc (.ref q),Gc dd,Gc d.d] T1 else Gc (.bl true,T1):=by
     intro c
     cases d<;>simp[AN.d,G5]
    by_cases hb:G5 d=false\/(ds.filter G5).length<3
    .obtain⟨T2,as2,k1,k2,k3,k4⟩:=pE j3 ht inv (by lia) d3
     have lt:=j3.lts
     have q2:T2[q]?=Gc (.lst (ds.map AN.d)):=k3.get j1 i7
     have hz:ds.length<sizeLine:=vd (show ds.length<50 by lia) (AI (by decide))
     refine⟨_,[Gc (.ref p),Gc (.int M),Gc t.d,Gc (.tup (ls.map Ld.d)),Gc (.ref s),Gc (.ref q),Gc dd,Gc d.d],T2.set q (.lst ((ds++[d]).map AN.d)),by simp;rfl,?_,ds++[d],as2,Gc dd,Gc d.d,rfl,vx (Af q2),?_,?_,⟨O2 i4.1 d3,by
      rw[ABi,wc]
      cases z:G5 d with
      |true=>
       have:=hb.resolve_left (by rw[z];simp)
       simp[z]
       lia
      |false=>simpa[z]using i4.2⟩,by simp;lia,?_,?_,?_,?_,λx hx=>(wF.mp hx).elim (i10 x) λz=>by rw[wN.mp z];exact d4⟩
     .have kk:=AQ q2
      have sq:=IG j1
      have hz':(ds.map AN.d).length<sizeLine:=by simpa using hz
      have hfin:(ds++[d]).map AN.d=ds.map AN.d++[d.d]:=by simp
      rw[hfin]
      generalize hDD:ds.map AN.d=DD at*
      cases ht':G5 d with
      |false=>
       simp[d1,-TN,w1,ht',k1,kk,hz']
      |true=>
       have h3:((ds.filter G5).length:Int)<3:=by
        have:=hb.resolve_left (by rw[ht'];simp)
        lia
       simp[d1,-TN,w1,ht',sq,tc,h3,k1,kk,hz']
     .obtain⟨pd,pe,ph⟩:=d2.pen
      exact⟨pd,by rw[vj hpq];exact k3.get pe i6,ph⟩
     .rw[Q4]
      exact k2.same (A:=[q]) (.set (by simp)) (by
       intro n hn z
       simp at hn;subst hn
       simp only[ve]at z i7
       rcases z with z|z|z|z
       .exact i7 (.inl z)
       .exact i7 (.inr (.inl z))
       .exact i7 (.inr (.inr (.inl z)))
       .rcases k4 _ z with w|w
        .exact i7 (.inr (.inr (.inr w)))
        .have:=Af j1;lia)
     .intro z
      simp only[ve]at z i6
      rcases z with z|z|z|z
      .exact i6 (.inl z)
      .exact i6 (.inr (.inl z))
      .exact i6 (.inr (.inr (.inl z)))
      .rcases k4 _ z with w|w
       .exact i6 (.inr (.inr (.inr w)))
       .have:=d2.pen.lt;lia
     .intro z
      simp only[ve]at z i7
      rcases z with z|z|z|z
      .exact i7 (.inl z)
      .exact i7 (.inr (.inl z))
      .exact i7 (.inr (.inr (.inl z)))
      .rcases k4 _ z with w|w
       .exact i7 (.inr (.inr (.inr w)))
       .have:=Af j1;lia
     .intro n z
      simp only[ve]at z i8
      rcases z with z|z|z|z
      .exact i8 n (.inl z)
      .exact i8 n (.inr (.inl z))
      .exact i8 n (.inr (.inr (.inl z)))
      .rcases k4 _ z with w|w
       .exact i8 n (.inr (.inr (.inr w)))
       .exact va lS w
     .intro n c e ne
      have ln:n<S.length:=Af e
      rw[vj (λz=>by have:=lqS;lia)]
      exact k3.get (d2.get (i9 n c e ne) ne) λz=>by have:=i8 n z;lia
    .have ht':G5 d=true:=by
      cases z:G5 d with
      |true=>rfl
      |false=>exact absurd (.inl z) hb
     have h3:¬((ds.filter G5).length:Int)<3:=by
      have:¬(ds.filter G5).length<3:=λz=>hb (.inr z)
      lia
     refine⟨_,[Gc (.ref p),Gc (.int M),Gc t.d,Gc (.tup (ls.map Ld.d)),Gc (.ref s),Gc (.ref q),Gc dd,Gc d.d],T1,by simp;rfl,?_,ds,as',Gc dd,Gc d.d,rfl,j1,d2.pen,j3,i4,by lia,i6,i7,i8,λn c e ne=>d2.get (i9 n c e ne) ne,i10⟩
     have sq:=IG j1
     generalize hDD:ds.map AN.d=DD at*
     simp[d1,-TN,w1,ht',sq,tc,h3])
 refine⟨t,ls,ds,S',?_,⟨⟨ht,⟨0,by lia,hi⟩,hl,λx hx=>⟨by have:=(hf.1 x hx).2.1;lia,(hf.1 x hx).2.2.1⟩,f4.1⟩,by simpa using f5,f10,hhr⟩,⟨λx hx=>(hf.1 x hx).2.2.2.2,hh.2⟩,⟨f4.2,hf,g,g0,g1,g2⟩,f2,f9⟩
 have df:=A1 f1
 simp[Ci,O3,e1,e2,e3,hQ,e4,rk,ef,df,Aa]
end
section
variable{S:Sto}
def aj{rs:Wp Rat}{G B K:Nat}(hG:0<G)(gK:G<2^K)(hK:2*K<=7990)(hr:∀r∈rs,Ok G B r)(hb:rs.length*B<2^K):DZ [.lst (rs.map aD)] S=Gc (aD rs.sum,S):=by
 obtain⟨o',e⟩:=QP (F:=Gi) (λS h1 h2 h3=>eP h1 h2 h3) (gs:=[]) (S:=S) AO (X:=Gc (.lst (rs.map aD))) (B:=B) hG gK hK (rs:=rs) (acc:=0) (m:=0) (o:=none) (by rw[Nat.zero_mul];exact Ok.zero) hr (by simpa using hb)
 have ez:(0:Rat)+rs.sum=rs.sum:=by grind
 rw[ez,YE]at e
 simp[DZ,OR,GV,e]
end
def Nz(ls:Wp Ld):Prop:=∀l∈ls,l.ow.sum=1
theorem P8{a b:Rat}:∀{ss os:Wp Rat},ss.length=os.length->(AAk (λs o=>s*a+o*b) ss os).sum=ss.sum*a+os.sum*b
 | [],[],_=>by simp;grind
 |s::ss,o::os,h=>by
  rw[ACY,wX,wX,wX,P8 (by simpa using h)]
  grind
def R9{x:Rat}{os ss:Wp Rat}(h:ss.length=os.length)(h1:ss.sum=1)(h2:os.sum=1):(HK x os ss).sum=1:=by
 unfold HK
 rw[P8 h,h1,h2]
 grind
def Vb{n m:Int}{ss os:Wp Rat}(h:ss.length=os.length)(h1:ss.sum=1)(h2:os.sum=1)(h0:0<n+m):(B8 n m ss os).sum=1:=by
 have hc:((n+m:Int):Rat)≠0:=by
  intro z
  have:=yj.mp z
  lia
 have e:(λ(s o:Rat)=>(s*n+o*m) / ((n+m:Int):Rat))=λs o=>s*((n:Rat) / ((n+m:Int):Rat))+o*((m:Rat) / ((n+m:Int):Rat)):=by
  funext s o
  grind
 unfold B8
 rw[e,P8 h,h1,h2]
 push_cast at hc⊢
 grind
theorem Tc{v:Rat}:∀{l:Wp Rat} {i:Nat},i<l.length->(l.set i v).sum=l.sum-l.getD i 0+v
 |a::l,0,_=>by
  rw[ADb,wX,wX]
  simp
  grind
 |a::l,i+1,h=>by
  rw[List.set_cons_succ,wX,wX,Tc (by simpa using h)]
  simp
  grind
def UT{p q:Nat}{x:Rat}{ss:Wp Rat}(hpq:p≠q)(hp:p<ss.length)(hq:q<ss.length):(FU p q x ss).sum=ss.sum:=by
 unfold FU
 rw[Tc (by simpa using hq),Tc hp]
 have:(ss.set p (ss.getD p 0-ss.getD p 0*x)).getD q 0=ss.getD q 0:=by
  rw[v8,vj hpq,<-v8]
 rw[this]
 grind
theorem YF{i:Nat}:∀{n:Nat},(Sw n i).sum=if i<n then 1 else 0
 |0=>by simp[Sw]
 |n+1=>by
  have ih:=YF (i:=i) (n:=n)
  unfold Sw at ih⊢
  rw[List.range_succ,yT,List.sum_append,ih]
  by_cases h:n=i
  .subst h;simp;grind
  .have:i<n+1↔i<n:=by lia
   simp[h,this]
   grind
section
variable{t:Tr}{k:Nat}{st:Stt}{d:AN}
def HE{ls:Wp Ld}(h:Nz ls){l:Nat}{n:Int}(hl:l<ls.length):Nz (less ls l n):=λx hx=>by
 rcases Kr hx hl with hx|rfl
 .exact h x hx
 .exact(h (AK ls l) (AS hl):)
def LG{ls:Wp Ld}(h:Nz ls){y:Ld}(hy:y.ow.sum=1):Nz (ls++[y]):=λx hx=>by
 rcases wF.mp hx with hx|hx
 .exact h x hx
 .rw[wN.mp hx];exact hy
def Rg(h:Ft t k st)(hc:Can t st d)(ho:Nz st.AA):Nz (step t st d).AA:=by
 cases d with
 |DX p kd n=>
  refine LG ho ?_
  rw[YF,wU hc.1]
 |Ig i j=>
  obtain⟨hij,hi,hj,h1,h2,h3⟩:=hc
  refine LG (HE (HE ho hi) (by rw[Bp];exact hj)) ?_
  exact Vb (by rw[h.own _ (AS hi),h.own _ (AS hj)]) (ho _ (AS hi)) (ho _ (AS hj)) (by lia)
 |swap i g kd n=>exact LG (HE ho hc.1) (ho (AK st.AA i) (AS hc.1):)
 |Cm u i g kd n=>exact LG (HE ho hc.1) (ho (AK st.AA i) (AS hc.1):)
 |Dq i n=>exact HE ho hc.1
 |thr i n ws=>
  intro x hx
  obtain⟨y,hy,rfl⟩:=vq.mp hx
  have hl:=hc.1
  have ly:y.ow.length=t.p:=by
   rcases Kr hy hl with hy|rfl
   .exact h.own y hy
   .exact(h.own (AK st.AA i) (AS hl):)
  exact R9 (by rw[ly,h.own _ (AS hl)]) (HE ho hl y hy) (ho _ (AS hl))
 |Et p q x=>
  intro y hy
  obtain⟨z,hz,rfl⟩:=vq.mp hy
  obtain⟨h1,h2,h3,_⟩:=hc
  have:=h.own z hz
  show(FU p q x z.ow).sum=1
  rw[UT h1 (by lia) (by lia)]
  exact ho z hz
def Xt(h:Ft t k st)(hc:Can t st d)(ho:Nz st.AA)(hh:st.hold.sum=1):(step t st d).hold.sum=1:=by
 cases d with
 |thr i n ws=>exact R9 (by rw[h.hold,h.own _ (AS hc.1)]) hh (ho _ (AS hc.1))
 |Et p q x=>
  obtain⟨h1,h2,h3,_⟩:=hc
  show(FU p q x st.hold).sum=1
  rw[UT h1 (by rw[h.hold];exact h2) (by rw[h.hold];exact h3)]
  exact hh
 |_=>exact hh
theorem Q7(ht:Hb t):∀{ds:Wp AN} {st:Stt} {k:Nat},Ft t k st->LP t st ds->k+ds.length<=17->Nz st.AA->st.hold.sum=1->(runs t st ds).hold.sum=1
 | [],st,k,h,_,_,o,e=>e
 |d::ds,st,k,h,g,hl,o,e=>Q7 ht (ds:=ds) (Pk ht h (by simp at hl;lia) g.1) g.2 (by simp at hl;lia) (Rg h g.1 o) (Xt h g.1 o e)
def CA.km{ls:Wp Ld}{ds:Wp AN}(h:CA t ls ds)(ho:Nz ls)(hh:t.ho.sum=1)(n:Nat):(runs t (st0 t ls) (ds.take n)).hold.sum=1:=by
 obtain⟨k,hk,z⟩:=h.lev
 exact Q7 h.tr z (JX h.good) (by simp;lia) ho hh
theorem Rq(ht:Hb t):∀{ds:Wp AN} {st:Stt} {k:Nat},Ft t k st->LP t st ds->k+ds.length<=17->Nz st.AA->Nz (runs t st ds).AA
 | [],st,k,h,_,_,o=>o
 |d::ds,st,k,h,g,hl,o=>Rq ht (ds:=ds) (Pk ht h (by simp at hl;lia) g.1) g.2 (by simp at hl;lia) (Rg h g.1 o)
def CA.ones{ls:Wp Ld}{ds:Wp AN}(h:CA t ls ds)(ho:Nz ls)(n:Nat):Nz (runs t (st0 t ls) (ds.take n)).AA:=by
 obtain⟨k,hk,z⟩:=h.lev
 exact Rq h.tr z (JX h.good) (by simp;lia) ho
end
section
variable{S:Sto}{t:Tr}{ls L:Wp Ld}{ds:Wp AN}{n p i q:Nat}{x:Rat}
def VH(h:CA t ls ds)(hn:n<=ds.length):GW [Aa t ls ds,.int n] S=Gc (A4 (runs t (st0 t ls) (ds.take n)).AA,S):=by
 have hl0:ls.length<=4:=h.four
 have hd:=h.len
 have ct:=Mr (ds:=ds.map AN.d) (n:=n) (by simp;lia)
 obtain⟨E',S',ef,i,o,f1,f2,rfl,rfl⟩:=Hx (gs:=[]) (t:=tNm 3) (b:=A6 2 (AB Ad [eV 2,eV 3]))
  (I:=λrs E S'=>∃(i:Nat) (o:vi D),rs=((ds.take n).drop i).map AN.d/\i<=n/\E=[Gc (Aa t ls ds),Gc (.int n),Gc (A4 (runs t (st0 t ls) (ds.take i)).AA),o]/\S'=S)
  (λ_ _ _ _=>AO) (ds:=(ds.take n).map AN.d) (E:=[Gc (Aa t ls ds),Gc (.int n),Gc (A4 ls),none]) (S:=S)
  ⟨0,none,by simp,yB _,by simp[runs,st0],rfl⟩ (by
    rintro dd rs E T ⟨i,o,i1,i2,rfl,rfl⟩
    have hlt:i<(ds.take n).length:=by
     rcases ACa i (ds.take n).length with w|w
     .exact w
     .rw[yO w]at i1;cases i1
    rw[xi hlt,v5]at i1
    injection i1 with z1 z2
    subst z1 z2
    have hlt':i<ds.length:=by simp at hlt;lia
    have hin:i<n:=by simp at hlt;lia
    have hg:(ds.take n)[i]=ds[i]:=List.getElem_take
    rw[hg]
    have can:=M8 h.good (vk hlt')
    have il0:(ds.take i).length<=16:=by simp;lia
    have il:16<=16:=vf _
    have e3:=ON (S:=T) (h.at i) (by lia) can
    have rt:=OT (t:=t) (st:=st0 t ls) (vk hlt')
    refine⟨_,[Gc (Aa t ls ds),Gc (.int n),Gc (A4 (runs t (st0 t ls) (ds.take (i+1))).AA),Gc ds[i].d],T,by simp;rfl,?_,i+1,Gc ds[i].d,rfl,hin,rfl,rfl⟩
    rw[rt]
    simp[e3])
 have hz:i=n:=by
  have:=congrArg zy f1
  simp at this
  lia
 subst hz
 have fh:=Lj (S:=S') (ls:=ls) (x:=t.d) (y:=.tup (ds.map AN.d)) (by lia)
 simp only[Aa]at ef⊢
 rw[AB2]at ef
 simp[GW,NX,fh,ct,ef]
end
theorem XJ{α:Type}{t:Tf}{b:Ex}{C:En}{m q:Nat}{e h:α->D}:∀{xs:Wp α} {acc:Wp D} {os:En} {S:Sto},os.length=m->S[q]?=Gc (.lst acc)->acc.length+xs.length<=1000->(∀x∈xs,∀os S acc,os.length=m->S[q]?=Gc (.lst acc)->acc.length<sizeLine->∃us us' S',t (e x) (C++os) S=Gc (C++us)/\b (C++us) S=Gc (.nx,C++us',S'.set q (.lst (acc++[h x])))/\us'.length=m/\B5 [] S S')->∃os' S',os'.length=m/\Mu [] t b (xs.map e) (C++os) S=Gc (.nx,C++os',S')/\S'[q]?=Gc (.lst (acc++xs.map h))/\B5 [q] S S'
 | [],acc,os,S,ho,hq,hz,H=>⟨os,S,ho,by rw[xQ,H0 AO],by simpa using hq,.refl⟩
 |x::xs,acc,os,S,ho,hq,hz,H=>by
  obtain⟨us,us',S1,e1,e2,hu,sm⟩:=H x vp os S acc ho hq (vd (show acc.length<1001 by simp at hz;lia) (by decide))
  have q1:=sm.get hq (by simp)
  obtain⟨os',S2,ho',e3,q2,s2⟩:=XJ (t:=t) (b:=b) (C:=C) (e:=e) (h:=h) (xs:=xs) (acc:=acc++[h x]) (os:=us') (S:=S1.set q (.lst (acc++[h x]))) hu (vx (Af q1)) (by simp at hz ⊢; lia) λx' hx=>H x' (vh _ hx)
  refine⟨os',S2,ho',?_,by simpa using q2,((sm.mono λ_ z=>(nomatch z)).trans (.set (by simp))).trans s2⟩
  rw[v5,Es AO,e1,An,e2,An,Lr,e3]
noncomputable def O8(t:Tr)(st:Stt)(x:Ld):Wp Rat:=SN (10-t.h) t.h x.ow st.hold
noncomputable def LF(t:Tr)(st:Stt)(x:Ld):Wp Rat:=(O8 t st x).map λr=>(x.n:Rat)*r
def HOk(t:Tr):Prop:=0<=t.h/\t.h<=9/\0<=t.l/\t.l<=9
def Ud{t:Tr}(hh:HOk t){st:Stt}{x:Ld}{G B:Nat}(h1:∀r∈x.ow,Ok G B r)(h2:∀r∈st.hold,Ok G B r):∀r∈O8 t st x,Ok (G*10) (B*10) r:=by
 intro r hr
 unfold O8 SN at hr
 rw[y8]at hr
 obtain⟨i,hi'⟩:=hr
 rw[zW]at hi'
 obtain⟨s,o,hs,ho,rfl⟩:=hi'
 obtain⟨a1,a2,_,_⟩:=hh
 have:=Ok.mix (a:=(10-t.h).toNat) (b:=t.h.toNat) (t:=10) (h1 s (wH hs)) (h2 o (wH ho)) (by lia) (by decide)
 rw[GA (by lia),GA (by lia)]at this
 have e:(((10-t.h:Int):Rat)+(t.h:Rat))=((10:Nat):Rat):=by push_cast;grind
 rw[e]
 exact this
def cE{t:Tr}(hh:HOk t){st:Stt}{x:Ld}{G B N:Nat}(h1:∀r∈x.ow,Ok G B r)(h2:∀r∈st.hold,Ok G B r)(n0:0<=x.n)(n1:x.n<=N):∀r∈LF t st x,Ok (G*10) (B*10*N) r:=by
 intro r hr
 obtain⟨y,hy,rfl⟩:=vq.mp hr
 exact(Ud hh h1 h2 y hy).uU n0 n1
section
variable{S:Sto}{t:Tr}{ls:Wp Ld}{ds:Wp AN}
def CA.fin(h:CA t ls ds):Ft t 16 (runs t (st0 t ls) ds):=by
 have:=h.at ds.length
 rwa [zT]at this
def So(h:CA t ls ds)(hh:HOk t):∃q S',FH [Aa t ls ds] S=Gc (.ref q,S')/\S'[q]?=Gc (.lst ((runs t (st0 t ls) ds).AA.map λx=>shD (LF t (runs t (st0 t ls) ds) x)))/\B5 [] S S'/\S.length<=q:=by
 obtain⟨S1,e1,s1⟩:=UM (S:=S) h (n:=ds.length) (vf _)
 rw[zT]at e1
 have inv:=h.fin
 have hlen:=inv.len
 have sz:=inv.sz
 have tp:=h.tr.2.1
 obtain⟨G,B,g0,gb,bb,k1,k2⟩:=inv.gb
 generalize runs t (st0 t ls) ds=st at*
 have hq:(S1++[Cl.lst []])[S1.length]?=Gc (.lst []):=wK
 have ez:MO (st.AA.map hD) (st.AA.map λx=>shD x.ow)=st.AA.map λx=>.tup [hD x,shD x.ow]:=by
  unfold MO
  rw[List.zip_map',wR]
  rfl
 have hh':=hh
 obtain⟨a1,a2,_,_⟩:=hh
 obtain⟨os',S2,ho',e2,q2,s2⟩:=XJ (t:=tTp [tTp [tNm 7,tNm 8],tNm 6]) (b:=AM (A6 9 (AB BV [eV 6,eOp (o2 Ra) [eC (.int 10),eV 1],eV 4,eV 1]))
  (EA (Mq Ng (eV 5) [eOp (o1 CD) [As [8] 1 (C7 (eV 9)) (tNm 1) Ai (AB Cc [Bh [eV 0,eC (.int 1)],eV 1])]]))) (C:=[Gc (Aa t ls ds),Gc (.int t.h),Gc (A4 st.AA),Gc (MD st.AA),Gc (shD st.hold),Gc (.ref S1.length)]) (m:=4) (q:=S1.length) (e:=λx:Ld=>D.tup [hD x,shD x.ow]) (h:=λx=>shD (LF t st x)) (xs:=st.AA) (acc:=[]) (os:=[none,none,none,none]) (S:=S1++[Cl.lst []]) rfl hq (by simp;lia) (by
    intro x hx os S0 acc ho hq0 hz
    obtain⟨o1,o2,o3,o4,rfl⟩:∃o1 o2 o3 o4,os=[o1,o2,o3,o4]:=by
     match os,ho with
     | [a,b,c,d],_=>exact⟨a,b,c,d,rfl⟩
    have px:=inv.pcs x hx
    have hw:(10-t.h).natAbs<2^4:=by show _<16;lia
    have hm:t.h.natAbs<2^4:=by show _<16;lia
    have ms:=ET (S:=S0) (w:=10-t.h) (m:=t.h) (j:=30+170*16) (n:=4) (sz.1 x hx) sz.2 hw hm (by lia) (by decide) (by rw[inv.own x hx];lia)
    have zp:∀r∈SN (10-t.h) t.h x.ow st.hold,Sz (30+170*16+4) r:=λr hr=>(Ud hh' (k1 x hx) k2 r hr).sz (yU g0 (by decide)) (by
     have:=Bg (wO gb bb) (show 10<2^4 by decide)
     exact this) (Bg bb (show 10<2^4 by decide))
    have cz:=BH (gs:=[]) (t:=tNm 1) (f:=AB Cc [Bh [eV 0,eC (.int 1)],eV 1]) (C:=[Gc (.int x.n)]) (m:=1) (e:=aD) (g:=λr=>aD ((x.n:Rat)*r)) (S:=S0) AO (xs:=SN (10-t.h) t.h x.ow st.hold) (acc:=[]) (os:=[none]) rfl (va (show _<=50 by rw[AAS,ACS,SN,Ct (inv.own x hx) inv.hold];lia) (AI (by decide))) (by
     intro r hr os ho
     obtain⟨o,rfl⟩:∃o,os=[o]:=by
      match os,ho with
      | [a],_=>exact⟨a,rfl⟩
     have l:=Yb (S:=S0) (RF (Fz px.1 px.2) (by decide)) (zp r hr) (by decide)
     rw[XG]at l
     refine⟨[Gc (aD r)],rfl,by simp,?_⟩
     simp[l])
    have ed:(SN (10-t.h) t.h x.ow st.hold).map (λr=>aD ((x.n:Rat)*r))=(LF t st x).map aD:=by
     unfold LF O8
     rw[wR];rfl
    rw[ed]at cz
    simp only[wg,v7]at cz
    refine⟨[Gc (shD x.ow),Gc (.int x.k),Gc (.int x.n),o4],[Gc (shD x.ow),Gc (.int x.k),Gc (.int x.n),Gc (shD (SN (10-t.h) t.h x.ow st.hold))],S0,by simp,?_,rfl,.refl⟩
    simp[ms,AQ hq0,cz,Nv,hz])
 refine⟨S1.length,S2,?_,by simpa using q2,?_,s1.len⟩
 .rw[<-ez]at e2
  simp only[wg,v7]at e2
  simp only[Aa]at e1 e2⊢
  have tdd:wIx (.val t.d) (.val (.int 4))=Gc (.val (.int t.h)):=by simp[Tr.d]
  have dt:∀T:Sto,dr T t.d=.val t.d:=λ_=>rfl
  have c4:atI [D.int (t.p:Int),D.int (t.k:Int),D.int (t.b:Int),shD t.ho,D.int t.h,D.int t.l] 4=Gc (.int t.h):=by simp
  have ast:asS (.val t.d)=Gc [D.int (t.p:Int),D.int (t.k:Int),D.int (t.b:Int),shD t.ho,D.int t.h,D.int t.l]:=rfl
  simp[FH,L8,dt,ast,e1,e2]
 .refine⟨va s1.len (va (by simp) s2.len),λn hn _=>?_⟩
  have l1:=s1.len
  rw[s2.keep n (by simp;lia) (by simp;lia),vg (by lia)]
  exact s1.keep n hn (by simp)
end
section
variable{S:Sto}{p:Nat}
structure Wk(t:Tr)(ls:Wp Ld)(ds:Wp AN)(n j:Nat):Prop where
 bk:CA t ls ds
 hh:HOk t
 ho:Nz ls/\t.ho.sum=1
 lv:∃m G B,m+ds.length<=n/\0<G/\G<=B/\B<2^(26+161*m+7*j)/\(∀x∈ls,∀r∈x.ow,Ok G B r)/\∀r∈t.ho,Ok G B r
def Vk{t:Tr}{ls:Wp Ld}(h:FT t ls)(hl:ls.length<=4){g:Nat}(g0:0<g)(g1:g<=32)(g2:∀r∈t.ho,Ok g g r):∃G,0<G/\G<2^26/\(∀x∈ls,∀r∈x.ow,Ok G G r)/\∀r∈t.ho,Ok G G r:=by
 obtain⟨ha,G,G0,G1,G2⟩:=h
 have hG:G<=32^4:=va G1 (wQ (by decide) hl)
 have hB:G*g<2^26:=by
  have:=y4 hG g1
  lia
 refine⟨G*g,yU G0 g0,hB,λx hx r hr=>(G2 x hx r hr).up (vf _),λr hr=>?_⟩
 have:=(g2 r hr).up (t:=G) (B':=G*g) (by rw[xk];exact vf _)
 rwa [xk g G]at this
end
noncomputable def flI(r:Rat):Int:=r.num / (r.den:Int)
def Nr{i:Int}:flI (i:Rat)=i:=by
 show(i:Rat).num / (((i:Rat).den:Nat):Int)=i
 simp
def Wx(r:Rat):r-(flI r:Rat)=((r.num % (r.den:Int):Int):Rat) / (((r.den:Int):Int):Rat):=by
 have h0:(((r.den:Int):Int):Rat)≠0:=by
  have:=IY r
  simpa using this
 have h1:r=(r.num:Rat) / (((r.den:Int):Int):Rat):=by
  have e:(((r.den:Int):Int):Rat)=(r.den:Rat):=Rat.intCast_natCast _
  rw[e]
  exact(C5 r).symm
 have h2:(r.num:Rat)=(((r.den:Int):Int):Rat)*((flI r:Int):Rat)+((r.num % (r.den:Int):Int):Rat):=by
  have:r.num=(r.den:Int)*flI r+r.num % (r.den:Int):=(Int.mul_ediv_add_emod _ _).symm
  exact_mod_cast congrArg (λi:Int=>(i:Rat)) this
 generalize (flI r:Rat)=f at*
 generalize ((r.num % (r.den:Int):Int):Rat)=m at*
 generalize (((r.den:Int):Int):Rat)=d at*
 generalize (r.num:Rat)=n at*
 grind
def RA{r d:Rat}(hg:0<d)(hz:0<=r*d):0<=r:=by
 rcases Rat.le_total (a:=0) (b:=r)with w|w
 .exact w
 .have:=yd w (AAm hg)
  rw[Rat.zero_mul]at this
  have e0:=Rat.le_antisymm this hz
  have:r=0:=by grind
  rw[this]
  exact AC8
def Ok.num{G B:Nat}{r:Rat}(hG:0<G)(h:Ok G B r):0<=r.num:=by
 obtain⟨z,e,_⟩:=h
 have hg:(0:Rat)<(G:Rat):=by exact_mod_cast hG
 have hz:(0:Rat)<=(z:Rat):=by exact_mod_cast yB z
 rw[AC9]
 exact RA hg (by rw[e];exact hz)
def Ok.fl{G B:Nat}{r:Rat}(hG:0<G)(h:Ok G B r):0<=flI r:=Int.ediv_nonneg (h.num hG) (by lia)
def Ok.sU{G B:Nat}{r:Rat}(hG:0<G)(h:Ok G B r):Ok G B (r-(flI r:Rat)):=by
 have f0:=h.fl hG
 have hf:=Wx r
 obtain⟨z,e,hz⟩:=h
 have hg:(0:Rat)<(G:Rat):=by exact_mod_cast hG
 have hge:(0:Rat)<=r-(flI r:Rat):=by
  rw[hf]
  have h1:(0:Int)<=r.num % (r.den:Int):=ym _ (by have:=den_pos r;lia)
  have h2:(0:Rat)<=((r.num % (r.den:Int):Int):Rat):=by exact_mod_cast h1
  have h3:(0:Rat)<(((r.den:Int):Int):Rat):=by exact_mod_cast (den_pos r)
  refine RA h3 ?_
  generalize (((r.den:Int):Int):Rat)=d at*
  have:((r.num % (r.den:Int):Int):Rat) / d*d=((r.num % (r.den:Int):Int):Rat):=by
   have:d≠0:=λz=>by rw[z]at h3;exact absurd h3 (Rat.not_lt.mpr AC8)
   grind
  rw[this]
  exact h2
 have e2:(r-(flI r:Rat))*(G:Rat)=(((z:Int)-flI r*(G:Int):Int):Rat):=by
  push_cast
  grind
 have h4:(0:Rat)<=(((z:Int)-flI r*(G:Int):Int):Rat):=by
  rw[<-e2]
  exact Rat.mul_nonneg hge (AAm hg)
 have h5:(0:Int)<=(z:Int)-flI r*(G:Int):=by exact_mod_cast h4
 have h6:(0:Int)<=flI r*(G:Int):=AC3 f0 (by lia)
 refine⟨((z:Int)-flI r*(G:Int)).toNat,?_,by lia⟩
 rw[e2]
 have:((((z:Int)-flI r*(G:Int)).toNat:Nat):Int)=(z:Int)-flI r*(G:Int):=by lia
 exact_mod_cast congrArg (λi:Int=>(i:Rat)) this.symm
theorem Ok.sum{G B:Nat}:∀{rs:Wp Rat},(∀r∈rs,Ok G B r)->Ok G (rs.length*B) rs.sum
 | [],_=>by simp;exact Ok.zero
 |r::rs,h=>by
  rw[wX,xT,Nat.succ_mul,ACP]
  exact(h r vp).add (Ok.sum λq hq=>h q (vh _ hq))
noncomputable def Az(t:Tr)(st:Stt)(x:Ld):Wp Rat:=(LF t st x).map λr=>r-(flI r:Rat)
noncomputable def Cy(t:Tr)(st:Stt)(x:Ld):Int:=x.n-((LF t st x).map flI).sum
noncomputable def qg(t:Tr)(st:Stt)(x:Ld):D:=.tup [.int x.k,.int (Cy t st x),shD ((Az t st x).map λr=>r*(((1:Int):Rat) / (Cy t st x:Rat)))]
noncomputable def NY(t:Tr)(st:Stt)(x:Ld):Wp D:=if 0<Cy t st x then [qg t st x]else []
theorem XU:∀{rs:Wp Rat},(rs.map λr=>r-(flI r:Rat)).sum=rs.sum-(((rs.map flI).sum:Int):Rat)
 | []=>by simp;grind
 |r::rs=>by
  rw[v5,wX,v5,wX,wX,XU]
  push_cast
  grind
theorem TX{c:Rat}:∀{rs:Wp Rat},(rs.map λr=>c*r).sum=c*rs.sum
 | []=>by simp
 |r::rs=>by
  rw[v5,wX,wX,TX]
  grind
def lI{rs:Wp Rat}(h:∀r∈rs,0<=flI r):0<=(rs.map flI).sum:=by
 induction rs with
 |nil=>simp
 |cons r rs ih=>
  rw[v5,wX]
  have:=h r vp
  have:=ih λq hq=>h q (vh _ hq)
  lia
def mQ{n:Int}(h:0<n):D.tup [.int 1,.int n]=aD (((1:Int):Rat) / (n:Rat)):=by
 rw[<-Ik h]
 have:OW 1 n=1:=by simp[OW]
 simp[amD,lowP,this]
def dy{t:Tr}{st:Stt}{x:Ld}(hh:HOk t)(h1:x.ow.sum=1)(h2:st.hold.sum=1)(hl:x.ow.length=st.hold.length):(LF t st x).sum=(x.n:Rat):=by
 unfold LF O8 SN
 rw[TX]
 have e10:(((10-t.h:Int):Rat)+(t.h:Rat))=10:=by push_cast;grind
 have e:(λ(s o:Rat)=>(s*((10-t.h:Int):Rat)+o*(t.h:Rat)) / (((10-t.h:Int):Rat)+(t.h:Rat)))=λs o=>s*(((10-t.h:Int):Rat) / 10)+o*((t.h:Rat) / 10):=by
  funext s o
  rw[e10]
  grind
 rw[e,P8 hl,h1,h2]
 have:(1:Rat)*(((10-t.h:Int):Rat) / 10)+1*((t.h:Rat) / 10)=1:=by
  have:((10-t.h:Int):Rat)=10-(t.h:Rat):=by push_cast;rfl
  rw[this]
  grind
 rw[this]
 grind
def YW{t:Tr}{st:Stt}{x:Ld}(hh:HOk t)(h1:x.ow.sum=1)(h2:st.hold.sum=1)(hl:x.ow.length=st.hold.length):(Az t st x).sum=(Cy t st x:Rat):=by
 unfold Az Cy
 rw[XU,dy hh h1 h2 hl]
 push_cast
 rfl
theorem Xj{α:Type}{gs:Gd}{t:Tf}{b:Ex}{C:En}{m q:Nat}{S0:Sto}{e:α->D}{h:α->Wp D}(hg:∀T,B5 [q] S0 T->gOk gs T):∀{xs:Wp α} {acc:Wp D} {os:En} {S:Sto},os.length=m->S[q]?=Gc (.lst acc)->B5 [q] S0 S->acc.length+xs.length<=1000->(∀x∈xs,(h x).length<=1)->(∀x∈xs,∀os S acc,os.length=m->S[q]?=Gc (.lst acc)->acc.length<sizeLine->B5 [q] S0 S->∃us us' S',t (e x) (C++os) S=Gc (C++us)/\b (C++us) S=Gc (.nx,C++us',S'.set q (.lst (acc++h x)))/\us'.length=m/\B5 [] S S')->∃os' S',os'.length=m/\Mu gs t b (xs.map e) (C++os) S=Gc (.nx,C++os',S')/\S'[q]?=Gc (.lst (acc++xs.flatMap h))/\B5 [q] S S'
 | [],acc,os,S,ho,hq,hs,hz,h1,H=>⟨os,S,ho,by rw[xQ,H0 (hg S hs)],by simpa using hq,.refl⟩
 |x::xs,acc,os,S,ho,hq,hs,hz,h1,H=>by
  obtain⟨us,us',S1,e1,e2,hu,sm⟩:=H x vp os S acc ho hq (vd (show acc.length<1001 by simp at hz;lia) (by decide)) hs
  have q1:=sm.get hq (by simp)
  have s1:B5 [q] S (S1.set q (.lst (acc++h x))):=(sm.mono λ_ z=>(nomatch z)).trans (.set (by simp))
  have hx:=h1 x vp
  obtain⟨os',S2,ho',e3,q2,s2⟩:=Xj hg (t:=t) (b:=b) (C:=C) (e:=e) (h:=h) (xs:=xs) (acc:=acc++h x) (os:=us') (S:=S1.set q (.lst (acc++h x))) hu (vx (Af q1)) (hs.trans s1) (by simp at hz ⊢; lia) (λx' hx=>h1 x' (vh _ hx)) λx' hx=>H x' (vh _ hx)
  refine⟨os',S2,ho',?_,by simpa using q2,s1.trans s2⟩
  rw[v5,Es (hg S hs),e1,An,e2,An,Lr,e3]
section
variable{S:Sto}{t:Tr}{ls:Wp Ld}{ds:Wp AN}
def gd{r:Rat}{k:Nat}(h:Sz k r)(hk:k<=8000):Aj [aD r] S=Gc (.int (flI r),S):=by
 have h1:0<(r.den:Int):=den_pos r
 have h2:((r.den:Nat):Int).natAbs<F2:=by
  rw[wx]
  exact Cp h.2 hk
 unfold aD flI
 generalize hd:((r.den:Nat):Int)=d at*
 simp[Aj,IL,h1,h2]
def gB(h:CA t ls ds)(hh:HOk t):∃G B:Nat,0<G/\G<2^2760/\B<2^2905/\∀x∈(runs t (st0 t ls) ds).AA,∀r∈LF t (runs t (st0 t ls) ds) x,Ok G B r:=by
 have inv:=h.fin
 obtain⟨G,B,g0,gb,bb,k1,k2⟩:=inv.gb
 refine⟨G*10,B*10*2^147,by lia,?_,?_,λx hx=>cE hh (k1 x hx) k2 (inv.pcs x hx).1 ?_⟩
 .have:G<2^(30+170*16):=wO gb bb
  exact vd (Bg this (show 10<2^4 by decide)) (wQ (by decide) (by decide))
 .have:=Bg (Bg bb (show 10<2^4 by decide)) (show 2^147<2^148 by exact xh (by decide) (by decide))
  exact vd this (wQ (by decide) (by decide))
 .have:=(inv.pcs x hx).2
  have e:((2^147:Nat):Int)=2^(131+16):=by decide
  lia
end
section
variable{S:Sto}{t:Tr}{ls:Wp Ld}{ds:Wp AN}
def jK{rs:Wp Rat}(hl:rs.length<=50)(hz:∀r∈rs,Sz 2906 r):Bk [] (tNm 0) Ai (AB Ea [eV 0,Bh [AB Aj [eV 0],eC (.int 1)]]) (rs.map aD) [] [none] S=Gc ((rs.map λr=>r-(flI r:Rat)).map aD,S):=by
 have c:=BH (gs:=[]) (t:=tNm 0) (f:=AB Ea [eV 0,Bh [AB Aj [eV 0],eC (.int 1)]]) (C:=[]) (m:=1) (e:=aD) (g:=λr=>aD (r-(flI r:Rat))) (S:=S) AO (xs:=rs) (acc:=[]) (os:=[none]) rfl (va (show _<=50 by simpa using hl) (AI (by decide))) (by
  intro r hr os ho
  obtain⟨o,rfl⟩:∃o,os=[o]:=by
   match os,ho with
   | [a],_=>exact⟨a,rfl⟩
  have z:=hz r hr
  have w:=gd (S:=S) z (by decide)
  have zf:Sz 2906 (flI r:Rat):=RF (wO (by
   unfold flI
   exact ABl _ _) z.1) (by decide)
  have l:=jm (S:=S) z zf (by decide)
  rw[XG]at l
  refine⟨[Gc (aD r)],rfl,by simp,?_⟩
  generalize aD (r-(flI r:Rat))=R at*
  generalize flI r=f at*
  generalize aD r=R2 at*
  simp[w,l])
 rw[wR]
 exact c
def jI{rs:Wp Rat}{n:Int}(h0:0<n)(hn:n.natAbs<2^150)(hl:rs.length<=50)(hz:∀r∈rs,Sz 2906 r):Bk [] (tNm 1) Ai (AB Cc [eV 1,Bh [eC (.int 1),eV 0]]) (rs.map aD) [] [Gc (.int n),none] S=Gc ((rs.map λr=>r*(((1:Int):Rat) / (n:Rat))).map aD,S):=by
 have zn:Sz 150 (((1:Int):Rat) / (n:Rat)):=NW h0 (by decide) hn
 have c:=BH (gs:=[]) (t:=tNm 1) (f:=AB Cc [eV 1,Bh [eC (.int 1),eV 0]]) (C:=[Gc (.int n)]) (m:=1) (e:=aD) (g:=λr=>aD (r*(((1:Int):Rat) / (n:Rat)))) (S:=S) AO (xs:=rs) (acc:=[]) (os:=[none]) rfl (va (show _<=50 by simpa using hl) (AI (by decide))) (by
  intro r hr os ho
  obtain⟨o,rfl⟩:∃o,os=[o]:=by
   match os,ho with
   | [a],_=>exact⟨a,rfl⟩
  have l:=Yb (S:=S) (hz r hr) zn (by decide)
  rw[<-mQ h0]at l
  refine⟨[Gc (aD r)],rfl,by simp,?_⟩
  generalize aD (r*(((1:Int):Rat) / (n:Rat)))=R at*
  generalize aD r=R2 at*
  simp[l])
 rw[wR]
 exact c
structure R4(t:Tr)(st:Stt)(x:Ld):Prop where
 len:(LF t st x).length<=4
 uP:(LF t st x).length=t.p
 ok:∃G B:Nat,0<G/\G<2^2760/\B<2^2905/\∀r∈LF t st x,Ok G B r
 sum:(Az t st x).sum=(Cy t st x:Rat)
 n0:0<=x.n
 n1:x.n<2^147
def TZ(h:CA t ls ds)(hh:HOk t)(ho:Nz ls/\t.ho.sum=1):∀x∈(runs t (st0 t ls) ds).AA,R4 t (runs t (st0 t ls) ds) x:=by
 intro x hx
 have inv:=h.fin
 have tp:=h.tr.2.1
 have on:=h.ones ho.1 ds.length
 have hs:=h.km ho.1 ho.2 ds.length
 rw[zT]at on hs
 obtain⟨G,B,g0,gg,bb,k⟩:=gB h hh
 have hl:(LF t (runs t (st0 t ls) ds) x).length=t.p:=by
  unfold LF O8
  rw[wY,SN,Ct (inv.own x hx) inv.hold]
 exact⟨by lia,hl,⟨G,B,g0,gg,bb,k x hx⟩,YW hh (on x hx) hs (by rw[inv.own x hx,inv.hold]),(inv.pcs x hx).1,(inv.pcs x hx).2⟩
def R4.sz{st:Stt}{x:Ld}(h:R4 t st x):∀r∈LF t st x,Sz 2906 r:=by
 obtain⟨G,B,g0,gg,bb,k⟩:=h.ok
 exact λr hr=>(k r hr).sz g0 (yN gg (xh (by decide) (by decide))) (yN bb (xh (by decide) (by decide)))
def R4.fl{st:Stt}{x:Ld}(h:R4 t st x):∀r∈LF t st x,0<=flI r:=by
 obtain⟨G,B,g0,gg,bb,k⟩:=h.ok
 exact λr hr=>(k r hr).fl g0
def R4.sok{st:Stt}{x:Ld}(h:R4 t st x):∃G B:Nat,0<G/\G<2^2760/\B<2^2905/\∀r∈Az t st x,Ok G B r:=by
 obtain⟨G,B,g0,gg,bb,k⟩:=h.ok
 refine⟨G,B,g0,gg,bb,λr hr=>?_⟩
 obtain⟨y,hy,rfl⟩:=vq.mp hr
 exact(k y hy).sU g0
def R4.ssz{st:Stt}{x:Ld}(h:R4 t st x):∀r∈Az t st x,Sz 2906 r:=by
 obtain⟨G,B,g0,gg,bb,k⟩:=h.sok
 exact λr hr=>(k r hr).sz g0 (yN gg (xh (by decide) (by decide))) (yN bb (xh (by decide) (by decide)))
def R4.left{st:Stt}{x:Ld}(h:R4 t st x):Cy t st x<=x.n:=by
 have:=lI h.fl
 unfold Cy
 lia
def R4.total{st:Stt}{x:Ld}(h:R4 t st x):DZ [.lst ((Az t st x).map aD)] S=Gc (aD (Cy t st x:Rat),S):=by
 obtain⟨G,B,g0,gg,bb,k⟩:=h.sok
 have hl:(Az t st x).length<=4:=by
  unfold Az
  rw[wY]
  exact h.len
 have tt:=aj (S:=S) (rs:=Az t st x) (K:=2910) g0 (yN gg (xh (by decide) (by decide))) (by decide) k (by
  have h1:(Az t st x).length*B<=4*2^2905:=y4 hl (ye bb)
  have h2:4*2^2905=2^2907:=by rw[show(2907:Nat)=2905+2 by rfl,zV]
  rw[h2]at h1
  exact wO h1 (xh (by decide) (by decide)))
 rw[h.sum]at tt
 exact tt
def Xu:=AM (A6 6 (As [] 1 (C7 (eV 3)) (tNm 0) Ai (AB Ea [eV 0,Bh [AB Aj [eV 0],eC (.int 1)]]))) (AM (A6 7 (AB Aj [AB DZ [eV 6]])) (xIf (eOp (o2 wGt) [eV 7,eC (.int 0)]) (EA (Mq Ng (eV 2) [Bh [eV 4,eV 7,eOp (o1 CD) [As [7] 1 (C7 (eV 6)) (tNm 1) Ai (AB Cc [eV 1,Bh [eC (.int 1),eV 0]])]]])) BX))
def bJ{st:Stt}{x:Ld}{q:Nat}{acc:Wp D}{a0 a1 o6 o7:vi D}(h:R4 t st x)(hq:S[q]?=Gc (.lst acc))(hz:acc.length<sizeLine):∃u6 u7,Xu [a0,a1,Gc (.ref q),Gc (shD (LF t st x)),Gc (.int x.k),Gc (.int x.n),o6,o7] S=Gc (.nx,[a0,a1,Gc (.ref q),Gc (shD (LF t st x)),Gc (.int x.k),Gc (.int x.n),u6,u7],S.set q (.lst (acc++NY t st x))):=by
 have c1:=jK (S:=S) (rs:=LF t st x) (by have:=h.len;lia) h.sz
 have tt:=h.total (S:=S)
 have h1:=h.left
 have h0:=h.n1
 have bl:∀z:Int,0<z->z<=x.n->z.natAbs<2^150:=λz z0 z1=>by
  have:z<2^147:=xJ z1 h0
  have e:(z.natAbs:Int)<((2^150:Nat):Int):=by
   rw[AC4 (by lia)]
   exact ze this (by decide)
  lia
 by_cases hp:0<Cy t st x
 .have w:=gd (S:=S) (r:=(Cy t st x:Rat)) (k:=150) (RF (bl _ hp h1) (by decide)) (by decide)
  rw[Nr]at w
  have c2:=jI (S:=S) (rs:=Az t st x) hp (bl _ hp h1) (by
   have:=h.len
   unfold Az
   rw[wY]
   lia) h.ssz
  refine⟨Gc (.lst ((Az t st x).map aD)),Gc (.int (Cy t st x)),?_⟩
  have eo:NY t st x=[.tup [.int x.k,.int (Cy t st x),.tup (((Az t st x).map λr=>r*(((1:Int):Rat) / (Cy t st x:Rat))).map aD)]]:=by
   unfold NY
   rw[wU hp]
   rfl
  rw[eo]
  have c1':Bk [] (tNm 0) Ai (AB Ea [eV 0,Bh [AB Aj [eV 0],eC (.int 1)]]) ((LF t st x).map aD) [] [none] S=Gc ((Az t st x).map aD,S):=c1
  generalize ((Az t st x).map λr=>r*(((1:Int):Rat) / (Cy t st x:Rat))).map aD=R3 at*
  generalize (Az t st x).map aD=R1 at*
  generalize aD (Cy t st x:Rat)=R2 at*
  generalize Cy t st x=z at*
  simp[Xu,Nv,c1',tt,w,hp,Vn,c2,AQ hq,hz]
 .have w:=gd (S:=S) (r:=(Cy t st x:Rat)) (k:=8000) (by
   have zs:Sz 2910 (Az t st x).sum:=by
    obtain⟨G,B,g0,gg,bb,k⟩:=h.sok
    have hl:(Az t st x).length<=4:=by
     unfold Az
     rw[wY]
     exact h.len
    have o:Ok G ((Az t st x).length*B) (Az t st x).sum:=Ok.sum k
    refine o.sz g0 (yN gg (xh (by decide) (by decide))) ?_
    have h1:(Az t st x).length*B<=4*2^2905:=y4 hl (ye bb)
    have h2:4*2^2905=2^2907:=by rw[show(2907:Nat)=2905+2 by rfl,zV]
    rw[h2]at h1
    exact wO h1 (xh (by decide) (by decide))
   rw[h.sum]at zs
   exact zs.mono (by decide)) (by decide)
  rw[Nr]at w
  refine⟨Gc (.lst ((Az t st x).map aD)),Gc (.int (Cy t st x)),?_⟩
  have eo:NY t st x=[]:=by
   unfold NY
   rw[wy hp]
  rw[eo,yJ,set_same hq]
  have c1':Bk [] (tNm 0) Ai (AB Ea [eV 0,Bh [AB Aj [eV 0],eC (.int 1)]]) ((LF t st x).map aD) [] [none] S=Gc ((Az t st x).map aD,S):=c1
  generalize (Az t st x).map aD=R1 at*
  generalize aD (Cy t st x:Rat)=R2 at*
  generalize Cy t st x=z at*
  simp[Xu,Nv,c1',tt,w,hp]
def MH(h:CA t ls ds)(hh:HOk t)(ho:Nz ls/\t.ho.sum=1):∃S',EM [Aa t ls ds] S=Gc (.tup ((runs t (st0 t ls) ds).AA.flatMap (NY t (runs t (st0 t ls) ds))),S')/\B5 [] S S':=by
 have hm:=TZ h hh ho
 have hb:=VH (S:=S) h (n:=ds.length) (vf _)
 rw[zT]at hb
 obtain⟨qd,S1,e1,c1,s1,l1⟩:=So (S:=S++[Cl.lst []]) h hh
 have inv:=h.fin
 have hlen:=inv.len
 generalize runs t (st0 t ls) ds=st at*
 have hq:S1[S.length]?=Gc (.lst []):=s1.get wK (by simp)
 have hne:qd≠S.length:=by simp at l1;lia
 obtain⟨os',S2,ho',e2,q2,s2⟩:=Xj (gs:=[(qd,st.AA.map λx=>shD (LF t st x))]) (S0:=S1) (t:=tTp [tTp [tNm 4,tNm 5],tNm 3]) (b:=Xu) (C:=[Gc (Aa t ls ds),Gc (A4 st.AA),Gc (.ref S.length)]) (m:=5) (q:=S.length) (e:=λx:Ld=>D.tup [hD x,shD (LF t st x)]) (h:=NY t st) (λT hT g hg=>by
  rw[wN.mp hg]
  exact AQ (hT.get c1 (by simpa using hne))) (xs:=st.AA) (acc:=[]) (os:=[none,none,none,none,none]) (S:=S1) rfl hq .refl (by simp;lia) (λx _=>by unfold NY;split<;>simp) (by
  intro x hx os T acc ho hq0 hz hT
  obtain⟨o1,o2,o3,o4,o5,rfl⟩:∃o1 o2 o3 o4 o5,os=[o1,o2,o3,o4,o5]:=by
   match os,ho with
   | [a,b,c,d,e],_=>exact⟨a,b,c,d,e,rfl⟩
  obtain⟨u6,u7,e⟩:=bJ (S:=T) (a0:=Gc (Aa t ls ds)) (a1:=Gc (A4 st.AA)) (o6:=o4) (o7:=o5) (hm x hx) hq0 hz
  exact⟨[Gc (shD (LF t st x)),Gc (.int x.k),Gc (.int x.n),o4,o5],[Gc (shD (LF t st x)),Gc (.int x.k),Gc (.int x.n),u6,u7],T,by simp,e,rfl,.refl⟩)
 refine⟨S2,?_,?_⟩
 .have ez:MO (st.AA.map hD) (st.AA.map λx=>shD (LF t st x))=st.AA.map λx=>.tup [hD x,shD (LF t st x)]:=by
   unfold MO
   rw[List.zip_map',wR]
   rfl
  rw[<-ez]at e2
  simp only[wg,v7]at e2 q2
  have sq:=IG c1
  have dq:=A1 q2
  have eb:LK=(AM (A6 1 (AB GW [eV 0,eOp (o1 FI) [eOp (o2 wIx) [eV 0,eC (.int 2)]]]))
  (AM (A6 2 (J4 []))
  (AM (Ml (VZ (eV 1) (AB FH [eV 0])) (tTp [tTp [tNm 4,tNm 5],tNm 3]) Xu)
  (AU (eOp (o1 CD) [eV 2]))))):=rfl
  have sh:∀T,sqD T (A4 st.AA)=Gc (st.AA.map hD,[]):=λ_=>rfl
  have il:FI (.val (.tup (ds.map AN.d)))=Gc (.val (.int ds.length)):=by simp
  unfold EM
  rw[eb]
  generalize hHD:A4 st.AA=HD at*
  generalize st.AA.flatMap (NY t st)=R at*
  generalize hDU:st.AA.map (λx=>shD (LF t st x))=DU at*
  simp only[Aa]at e1 e2 hb⊢
  simp[hb,e1,sh,sq,e2,dq]
 .refine⟨va (by simp) (va s1.len s2.len),λn hn _=>?_⟩
  have l1:=s1.len
  simp at l1
  rw[s2.keep n (by lia) (by simp;lia),s1.keep n (by simp;lia) (by simp),vg hn]
end
noncomputable def ovl(t:Tr)(st:Stt)(x:Ld):Wp Ld:=if 0<Cy t st x then [⟨x.k,Cy t st x,(Az t st x).map λr=>r*(((1:Int):Rat) / (Cy t st x:Rat))⟩]else []
noncomputable def ovs(t:Tr)(st:Stt):Wp Ld:=st.AA.flatMap (ovl t st)
def XY{t:Tr}{st:Stt}:st.AA.flatMap (NY t st)=(ovs t st).map Ld.d:=by
 unfold ovs
 rw[List.map_flatMap]
 congr 1
 funext x
 unfold NY ovl
 split<;>rfl
def QC{t:Tr}{st:Stt}{y:Ld}(h:y∈ovs t st):∃x∈st.AA,0<Cy t st x/\y=⟨x.k,Cy t st x,(Az t st x).map λr=>r*(((1:Int):Rat) / (Cy t st x:Rat))⟩:=by
 obtain⟨x,hx,hy⟩:=List.mem_flatMap.mp h
 unfold ovl at hy
 split at hy
 .exact⟨x,hx,by assumption,by simpa using hy⟩
 .cases hy
def Y7(r:Rat):r-(flI r:Rat)<1:=by
 have d0:=den_pos r
 have h1:r.num % (r.den:Int)<r.den:=y3 _ d0
 rw[Wx]
 have hd:(0:Rat)<(((r.den:Int):Int):Rat):=by exact_mod_cast d0
 rw[Rat.div_lt_iff hd,Rat.one_mul]
 exact_mod_cast h1
def Ok.small{G B:Nat}{r:Rat}(hG:0<G)(h:Ok G B r)(g:r<=1):Ok G G r:=by
 obtain⟨z,e,hz⟩:=h
 refine⟨z,e,?_⟩
 have hg:(0:Rat)<=(G:Rat):=by exact_mod_cast yB G
 have:=yd g hg
 rw[e,Rat.one_mul]at this
 exact_mod_cast this
def Ok.part{G:Nat}{s:Rat}{l:Int}(h:Ok G G s)(h0:0<l)(h1:l<=4):Ok (G*12) (G*12) (s*(((1:Int):Rat) / (l:Rat))):=by
 obtain⟨z,e,hz⟩:=h
 have k:∀(m:Nat),(m:Int)*l=12->m<=12->Ok (G*12) (G*12) (s*(((1:Int):Rat) / (l:Rat))):=λm hm hl=>by
  refine⟨z*m,?_,y4 hz hl⟩
  have l0:(l:Rat)≠0:=by
   have:l≠0:=by lia
   exact_mod_cast this
  have hm':(m:Rat)*(l:Rat)=12:=by exact_mod_cast congrArg (λi:Int=>(i:Rat)) hm
  push_cast
  rw[<-e]
  generalize (l:Rat)=L at*
  generalize (m:Rat)=M at*
  generalize (G:Rat)=g at*
  rw[<-hm']
  grind
 have:l=1\/l=2\/l=3\/l=4:=by lia
 rcases this with rfl|rfl|rfl|rfl
 .exact k 12 (by decide) (by decide)
 .exact k 6 (by decide) (by decide)
 .exact k 4 (by decide) (by decide)
 .exact k 3 (by decide) (by decide)
theorem PQ:∀{rs:Wp Rat},(∀r∈rs,r<=1)->rs.sum<=(rs.length:Rat)
 | [],_=>by simp
 |r::rs,h=>by
  have a:=h r vp
  have b:=PQ (rs:=rs) λq hq=>h q (vh _ hq)
  rw[wX,xT]
  push_cast
  grind
section
variable{t:Tr}{ls:Wp Ld}{ds:Wp AN}{st:Stt}{G B:Nat}
structure Stl(t:Tr)(st:Stt)(G:Nat)(x:Ld):Prop where
 ok:∀r∈Az t st x,Ok (G*10) (G*10) r
 l4:Cy t st x<=4
 l0:0<=Cy t st x
def dZ(hh:HOk t)(hG:0<G)(h1:∀x∈st.AA,∀r∈x.ow,Ok G B r)(h2:∀r∈st.hold,Ok G B r)(hm:∀x∈st.AA,R4 t st x):∀x∈st.AA,Stl t st G x:=by
 intro x hx
 have H:=hm x hx
 have n1:x.n<=((2^147:Nat):Int):=by
  have:=H.n1
  have e:((2^147:Nat):Int)=2^147:=by decide
  lia
 have due:=cE hh (h1 x hx) h2 H.n0 n1
 have g10:0<G*10:=by lia
 have ok:∀r∈Az t st x,Ok (G*10) (G*10) r:=λr hr=>by
  obtain⟨y,hy,rfl⟩:=vq.mp hr
  exact((due y hy).sU g10).small g10 (AAm (Y7 y))
 have le1:∀r∈Az t st x,r<=1:=λr hr=>by
  obtain⟨y,hy,rfl⟩:=vq.mp hr
  exact AAm (Y7 y)
 have nn:∀r∈Az t st x,0<=r:=λr hr=>(ok r hr).nn g10
 have s:=PQ le1
 have ln:(Az t st x).length<=4:=by
  unfold Az
  rw[wY]
  exact H.len
 rw[H.sum]at s
 refine⟨ok,?_,?_⟩
 .have:Cy t st x<=((Az t st x).length:Int):=by exact_mod_cast s
  lia
 .have z:=H.sum
  have:(0:Rat)<=(Az t st x).sum:=by
   rcases h:Az t st x with _|⟨r,rs⟩
   .simp
   .rw[h]at nn
    exact Rat.le_trans (nn r vp) (Xv nn vp)
  rw[z]at this
  exact_mod_cast this
def cy(hs:∀x∈st.AA,Stl t st G x):∀y∈ovs t st,0<y.n/\y.n<=4/\∀r∈y.ow,Ok (G*10*12) (G*10*12) r:=λy hy=>by
 obtain⟨x,hx,h0,rfl⟩:=QC hy
 refine⟨h0,(hs x hx).l4,λr hr=>?_⟩
 obtain⟨q,hq,rfl⟩:=vq.mp hr
 exact((hs x hx).ok q hq).part h0 (hs x hx).l4
def bH(hm:∀x∈st.AA,R4 t st x):Nz (ovs t st):=λy hy=>by
 obtain⟨x,hx,h0,rfl⟩:=QC hy
 show((Az t st x).map λr=>r*(((1:Int):Rat) / (Cy t st x:Rat))).sum=1
 have e:(Az t st x).map (λr=>r*(((1:Int):Rat) / (Cy t st x:Rat)))=(Az t st x).map λr=>(((1:Int):Rat) / (Cy t st x:Rat))*r:=ADJ λr _=>by grind
 rw[e,TX,(hm x hx).sum]
 have:(Cy t st x:Rat)≠0:=by
  have:Cy t st x≠0:=by lia
  exact_mod_cast this
 grind
def gy{y:Ld}(hm:∀x∈st.AA,R4 t st x)(hy:y∈ovs t st):y.ow.length=t.p:=by
 obtain⟨x,hx,h0,rfl⟩:=QC hy
 show((Az t st x).map _).length=t.p
 unfold Az
 rw[wY,wY]
 exact(hm x hx).uP
end
section
variable{S:Sto}{t:Tr}{ls:Wp Ld}{ds:Wp AN}{st:Stt}{n p:Nat}
noncomputable def nxT(t:Tr)(st:Stt):Tr:={t with ho:=st.hold}
def lvl{m l j:Nat}(h:m+l<=16)(hj:j<=3):∃k,k+l<=17/\26+161*m+7*j<=30+170*k/\(l<=3->k+l<=16):=by
 by_cases c:7*j<=4+9*m
 .exact⟨m,by lia,by lia,λ_=>h⟩
 .exact⟨m+1,by lia,by lia,λ_=>by lia⟩
def dD{G B k:Nat}(bk:CA t ls ds)(g0:0<G)(gb:G<=B)(bb:B<2^(30+170*k))(h1:∀x∈ls,∀r∈x.ow,Ok G B r)(h2:∀r∈t.ho,Ok G B r):SIG t k G B (st0 t ls):=by
 obtain⟨k',_,z⟩:=bk.lev
 exact⟨by have:=bk.four;show ls.length<=_;lia,λx hx=>⟨z.kind x hx,(bk.pc0 x hx).1,Ze (bk.pc0 x hx).2,z.own x hx,h1 x hx⟩,z.hold,yB _,g0,gb,bb,h2⟩
def eS{j:Nat}(w:Wk t ls ds n j)(hn:n<=16)(hj:j+1<=3)(hst:runs t (st0 t ls) ds=st)(hl:(ovs t st).length<=4):Wk (nxT t st) (ovs t st) [] n (j+1):=by
 obtain⟨bk,hh,ho,m,G,B,hm0,g0,gb,bb,o1,o2⟩:=w
 obtain⟨k,hk,hb,_⟩:=lvl (m:=m) (l:=ds.length) (j:=j) (by lia) (by lia)
 have sg:=dD (k:=k) bk g0 gb (vd bb (Bn hb)) o1 o2
 obtain⟨T,G1,B1,rfl,t0,tb,ub,h1⟩:=Uw bk.tr sg bk.good hk
 rw[hst]at h1
 have hm:=TZ bk hh ho
 rw[hst]at hm
 have gs:=dZ hh h1.g0 (λx hx=>(h1.lok x hx).ok) h1.hok hm
 have o:=cy gs
 have hs:=bk.km ho.1 ho.2 ds.length
 rw[zT,hst]at hs
 have ho2:Nz (ovs t st):=bH hm
 have bit:B1*120<2^(26+161*(m+ds.length)+7*(j+1)):=by
  have a:B1<2^(26+161*m+7*j+161*ds.length):=by
   refine wO ub ?_
   rw[zV 2 (26+161*m+7*j)]
   exact ABQ bb (y2 (by simp))
  exact vd (Bg a (show 120<2^7 by decide)) (Bn (by lia))
 have g120:G*T*10*12=G*T*120:=by lia
 have hk0:∀r∈st.hold,Ok (G*T*120) (B1*120) r:=λr hr=>(h1.hok r hr).up (vf _)
 have hk1:∀y∈ovs t st,∀r∈y.ow,Ok (G*T*120) (B1*120) r:=λy hy r hr=>by
  have:=(o y hy).2.2 r hr
  rw[g120]at this
  exact this.mono (wC _ h1.gb)
 obtain⟨k2,hk2,hb2,hk3⟩:=lvl (m:=m+ds.length) (l:=0) (j:=j+1) (by lia) (by lia)
 have iv:Ft (nxT t st) k2 (st0 (nxT t st) (ovs t st)):=by
  refine SIG.inv (G:=G*T*120) (B:=B1*120) ⟨by show(ovs t st).length<=_;lia,λy hy=>?_,h1.hold,yB _,by have:=h1.g0;lia,wC _ h1.gb,vd bit (Bn hb2),hk0⟩
  have oy:=o y hy
  refine⟨?_,zd oy.1,Ze (xJ oy.2.1 (by decide)),(show y.ow.length=t.p from gy hm hy),hk1 y hy⟩
  obtain⟨x,hx,_,rfl⟩:=QC hy
  exact(h1.lok x hx).kd
 exact⟨⟨bk.tr,⟨k2,hk3 (by lia),iv⟩,hl,λy hy=>⟨zd (o y hy).1,xJ (o y hy).2.1 (by decide)⟩,trivial⟩,hh,⟨ho2,hs⟩,m+ds.length,G*T*120,B1*120,hm0,by have:=h1.g0;lia,wC _ h1.gb,bit,hk1,hk0⟩
def Qp{r:Rx}{f:Ex}{r2:Rx}{E E':En}{S S':Sto}(h:r E S=none)(e:f E S=Gc (.nx,E',S')):Zr r f r2 E S=r2 E' S':=by
 unfold Zr
 rw[h]
 simp only
 rw[e]
 rfl
def bC{r:Rx}{f:Ex}{r2:Rx}{E:En}{S:Sto}{z:Tg×En×Sto}(h:r E S=Gc z):Zr r f r2 E S=Gc z:=by
 unfold Zr
 rw[h]
def ZA(h:CA t ls ds)(hh:HOk t)(ho:Nz ls/\t.ho.sum=1)(hst:runs t (st0 t ls) ds=st)(hl:(ovs t st).length<=4):∃S',Aw [Aa t ls ds] S=Gc (Aa (nxT t st) (ovs t st) [],S')/\B5 [] S S':=by
 obtain⟨S1,e1,s1⟩:=MH (S:=S) h hh ho
 have r1:=NU (S:=S) h
 obtain⟨S2,e2,s2⟩:=UM (S:=S1) h (n:=ds.length) (vf _)
 rw[zT]at e2
 rw[hst]at e1 e2
 rw[XY]at e1
 refine⟨S2,?_,s1.trans s2⟩
 have h4:¬(4:Int)<((ovs t st).map Ld.d).length:=by simp;lia
 have as1:asS (.val t.d)=Gc [.int t.p,.int t.k,.int t.b,shD t.ho,.int t.h,.int t.l]:=rfl
 have dt:∀T,dr T t.d=.val t.d:=λ_=>rfl
 have tt:t.d=.tup [.int t.p,.int t.k,.int t.b,shD t.ho,.int t.h,.int t.l]:=rfl
 have nt:(nxT t st).d=.tup [.int t.p,.int t.k,.int t.b,shD st.hold,.int t.h,.int t.l]:=rfl
 simp only[Aa,tt,nt]at e1 e2 r1⊢
 generalize (ovs t st).map Ld.d=O at*
 simp[Aw,Hd,r1,e1,BD,h4,e2]
def X7(h:CA t ls ds)(hh:HOk t)(ho:Nz ls/\t.ho.sum=1)(hst:runs t (st0 t ls) ds=st)(hl:4<(ovs t st).length):∃S',Aw [Aa t ls ds] S=none/\BC [Aa t ls ds] S=Gc (⟨"TooMany",none⟩,S')/\B5 [] S S':=by
 obtain⟨S1,e1,s1⟩:=MH (S:=S) h hh ho
 have r1:=NU (S:=S) h
 rw[hst,XY]at e1
 have h4:(4:Int)<((ovs t st).map Ld.d).length:=by simp;lia
 generalize (ovs t st).map Ld.d=O at*
 generalize Aa t ls ds=bk at*
 refine⟨S1,?_,?_,s1⟩
 .have xs:∀E S,IX E S=none:=λ_ _=>rfl
  simp[Aw,Hd,r1,e1,BD,h4,xs]
 .unfold BC
  rw[QX]
  show(Fh [Gc bk,none,none,none,none,none,none,none,none,none,none] S).map _=_
  have hr:Fh [Gc bk,none,none,none,none,none,none,none,none,none,none] S=Gc (⟨"TooMany",none⟩,[Gc bk,Gc (.tup O),none,none,none,none,none,none,none,none,none],S1):=by
   unfold Fh
   rw[Qp (E':=[Gc bk,none,none,none,none,none,none,none,none,none,none]) (S':=S) rfl (by simp[r1])]
   rw[Qp (E':=[Gc bk,Gc (.tup O),none,none,none,none,none,none,none,none,none]) (S':=S1) rfl (by simp[e1])]
   refine bC ?_
   have e3:(eOp (o2 wGt) [eOp (o1 FI) [eV 1],eC BD]) [Gc bk,Gc (.tup O),none,none,none,none,none,none,none,none,none] S1=Gc (.bl true,S1):=by simp[BD,h4]
   unfold rIf
   rw[e3]
   show T7 _ _ _ _=_
   unfold T7
   simp
  rw[hr]
  rfl
end
section
variable{t:Tr}{k:Nat}{st:Stt}
def Xo{G B:Nat}(ht:Hb t)(hs:SIG t k G B st)(hk:k<=16){d:AN}(hc:Can t st d):∃T G' B',G'=G*T/\0<T/\B*T<=B'/\B'<=B*2^(145+k)/\SIG t (k+1) G' B' (step t st d):=by
 obtain⟨_,L,_,_,g0,g1,g2,hh⟩:=id hs
 have h:=hs.inv
 have g2':B<2^(30+170*(k+1)):=vd g2 (Bn (by lia))
 have hlen:=h.len
 have hnm:=h.nm
 cases d with
 |DX p kd n=>
  obtain⟨h1,h2,h3,h4⟩:=hc
  refine⟨1,G,B,(xF _).symm,by decide,by rw[xF];exact vf _,xV _ (ABB _),?_⟩
  refine SIG.of (by simp[step];lia) (JU (λx hx=>(L x hx).up1) ⟨h2,by show 0<=n;lia,Ze h4,by simp[Sw],cI g1⟩) h.hold (xG hnm) g0 g1 g2' hh
 |Ig i j=>
  obtain⟨hij,hi,hj,h1,h2,h3⟩:=hc
  have li:=L _ (AS hi)
  have lj:=L _ (AS hj)
  have tl:((AK st.AA i).n+(AK st.AA j).n).toNat<2^(132+k):=by
   have a:=li.n1;have b:=lj.n1
   have e:(2:Int)^(132+k)=2^(131+k)*2:=by rw[show 132+k=(131+k)+1 by lia,ACb]
   have:(((AK st.AA i).n+(AK st.AA j).n).toNat:Int)<((2^(132+k):Nat):Int):=by
    rw[wL (by lia)]
    push_cast
    rw[e];lia
   exact_mod_cast this
  have t0:0<((AK st.AA i).n+(AK st.AA j).n).toNat:=by lia
  refine⟨((AK st.AA i).n+(AK st.AA j).n).toNat,G*((AK st.AA i).n+(AK st.AA j).n).toNat,B*((AK st.AA i).n+(AK st.AA j).n).toNat,rfl,t0,vf _,xt _ (ye (vd tl (Bn (by lia)))),?_⟩
  refine SIG.of (by simp[step,Bp];lia) (JU ?_ ⟨li.kd,by show 0<=(AK st.AA i).n+(AK st.AA j).n;lia,?_,?_,RN h1 h2 li.ok lj.ok⟩) h.hold (xG hnm) (yU g0 t0) (wC _ g1) (PB g2 tl (by lia)) (λr hr=>(hh r hr).up (vf _))
  .have e0:AK (less st.AA i (AK st.AA i).n) j=AK st.AA j:=by
    unfold AK less
    rw[v8,vj hij,<-v8]
   have A:=Dk (P:=LOk t (k+1) (G*((AK st.AA i).n+(AK st.AA j).n).toNat) (B*((AK st.AA i).n+(AK st.AA j).n).toNat)) (n:=(AK st.AA i).n) hi (λx hx=>(L x hx).up (vf _)) ((li.up (vf _)).less (by lia) (AC6 _))
   have A2:=Dk (st:={st with AA:=less st.AA i (AK st.AA i).n}) (i:=j) (n:=(AK st.AA j).n) (by simpa[Bp]using hj) A (by
    show LOk _ _ _ _ ⟨(AK (less st.AA i (AK st.AA i).n) j).k,(AK (less st.AA i (AK st.AA i).n) j).n-_,(AK (less st.AA i (AK st.AA i).n) j).ow⟩
    rw[e0]
    exact(lj.up (vf _)).less (by lia) (AC6 _))
   exact A2
  .show(AK st.AA i).n+(AK st.AA j).n<2^(131+(k+1))
   have a:=li.n1;have b:=lj.n1
   rw[show 131+(k+1)=(131+k)+1 by lia,ACb];lia
  .exact Ct li.own lj.own
 |swap i g kd n=>
  obtain⟨hi,h1,h2,h3,h4,h5,h6⟩:=hc
  have li:=L _ (AS hi)
  refine⟨1,G,B,(xF _).symm,by decide,by rw[xF];exact vf _,xV _ (ABB _),?_⟩
  refine SIG.of (by simp[step,Bp];lia) (JU (Dk hi (λx hx=>(L x hx).up1) (li.up1.less (by lia) h2)) ⟨h3,by show 0<=n;lia,Ze h6,li.own,li.ok⟩) h.hold (xG hnm) g0 g1 g2' hh
 |Cm u i g kd n=>
  obtain⟨hi,h1,h2,h3,h4,h5,h6,h7⟩:=hc
  have li:=L _ (AS hi)
  refine⟨1,G,B,(xF _).symm,by decide,by rw[xF];exact vf _,xV _ (ABB _),?_⟩
  refine SIG.of (by simp[step,Bp];lia) (JU (Dk hi (λx hx=>(L x hx).up1) (li.up1.less (by lia) h2)) ⟨h3,by show 0<=n;lia,Ze h6,li.own,li.ok⟩) h.hold (by simp[step];lia) g0 g1 g2' hh
 |Dq i n=>
  obtain⟨hi,h1,h2⟩:=hc
  have li:=L _ (AS hi)
  refine⟨1,G,B,(xF _).symm,by decide,by rw[xF];exact vf _,xV _ (ABB _),?_⟩
  refine SIG.of (by simp[step,Bp];lia) (Dk hi (λx hx=>(L x hx).up1) (li.up1.less (by lia) h2)) h.hold (xG hnm) g0 g1 g2' hh
 |thr i n ws=>
  obtain⟨hi,h1,h2,h3,h4⟩:=hc
  have li:=L _ (AS hi)
  have W:=Jg ht h (by lia) h3 h4
  have wl:(C0 t st.AA ws).toNat<2^(145+k):=by
   have:((C0 t st.AA ws).toNat:Int)<((2^(145+k):Nat):Int):=by
    rw[wL (by lia)];push_cast;exact W.2
   exact_mod_cast this
  have bo:=λ{ss:Wp Rat} (hs:∀r∈ss,Ok G B r)=>Qt ht h (by lia) h3 h4 hi h1 h2 li.ok hs
  refine⟨(C0 t st.AA ws).toNat,G*(C0 t st.AA ws).toNat,B*(C0 t st.AA ws).toNat,rfl,by lia,vf _,xt _ (ye (vd wl (Bn (by lia)))),?_⟩
  refine SIG.of (by simp[step,Bp];lia) ?_ (Ct h.hold li.own) (xG hnm) (yU g0 (by lia)) (wC _ g1) (PB g2 wl (by lia)) (bo hh)
  intro x hx
  obtain⟨y,hy,rfl⟩:=vq.mp hx
  have ly:=Dk (P:=LOk t k G B) hi L (li.less (n:=n) (by lia) h2) y hy
  exact⟨ly.kd,ly.n0,ly.up1.n1,Ct ly.own li.own,bo ly.ok⟩
 |Et p q x=>
  obtain⟨h1,h2,h3,h4,h5,h6⟩:=hc
  have dp:=x.den_pos
  refine⟨x.den,G*x.den,2*B*x.den,rfl,dp,wC _ (by lia),by
   rw[show 2*B*x.den=B*(2*x.den) by rw[<-xY,xk 2 B]]
   exact xt _ (va (show 2*x.den<=24 by lia) (va (show 24<=2^145 by decide) (Bn (by lia)))),?_⟩
  refine SIG.of (by simp[step];lia) ?_ (by simp[step,FU,h.hold]) (xG hnm) (yU g0 dp) (wC _ (by lia)) ?_ (QT (by rw[h.hold];exact h2) (by rw[h.hold];exact h3) h4 h5 hh)
  .intro y hy
   obtain⟨z,hz,rfl⟩:=vq.mp hy
   have lz:=L z hz
   exact⟨lz.kd,lz.n0,lz.up1.n1,by simp[FU,lz.own],QT (by rw[lz.own];exact h2) (by rw[lz.own];exact h3) h4 h5 lz.ok⟩
  .have:=PB (B:=B) (T:=2*x.den) (j:=5) g2 (by lia) (by lia)
   rw[show 2*B*x.den=B*(2*x.den) by rw[<-xY,xk 2 B]]
   exact this
theorem Qk(ht:Hb t):∀{ds:Wp AN} {st:Stt} {k G B:Nat},SIG t k G B st->LP t st ds->k+ds.length<=12->∃T G' B',G'=G*T/\0<T/\B*T<=B'/\B'<=B*2^(156*ds.length)/\SIG t (k+ds.length) G' B' (runs t st ds)
 | [],st,k,G,B,h,_,_=>⟨1,G,B,(xF _).symm,by decide,by rw[xF];exact vf _,by simp,h⟩
 |d::ds,st,k,G,B,h,g,hl=>by
  obtain⟨T,G1,B1,rfl,t0,tb,ub,h1⟩:=Xo ht h (by simp at hl;lia) g.1
  obtain⟨T2,G2,B2,rfl,t2,tb2,ub2,h2⟩:=Qk ht (ds:=ds) h1 g.2 (by simp at hl;lia)
  refine⟨T*T2,_,B2,xY ..,yU t0 t2,va ?_ tb2,?_,?_⟩
  .rw[<-xY]
   exact wC _ tb
  .refine va ub2 (va (wC _ ub) ?_)
   rw[xY,<-zV]
   exact xt _ (wQ (by decide) (by simp at hl ⊢; lia))
  .rw[show k+(d::ds).length=k+1+ds.length by simp;lia]
   exact h2
end
def Raw(t:Tr):AN->Prop
 | .DX _ _ n=>n<2^131
 | .Ig _ _=>ABE
 | .swap _ _ _ n=>n<2^131
 | .Cm u _ _ _ n=>n<2^131/\0<=u/\u<=9
 | .Dq _ _=>ABE
 | .thr _ _ ws=>ws.length=t.k+1/\∀w∈ws,1<=w/\w<=99
 | .Et _ _ x=>0<x.num/\x.num<=x.den/\x.den<=12
noncomputable def isB(t:Tr):AN->xD
 | .DX p k n=>decide (p<t.p) && (decide (k<t.k) && decide (1<=n))
 | .Ig a b=> !(a==b)
 | .swap _ g k n=>decide (1<=g) && (decide (k<t.k) && decide (1<=n))
 | .Cm _ _ g k n=>decide (1<=g) && (decide (k<t.k) && decide (1<=n))
 | .Dq _ n=>decide (1<=n)
 | .thr _ n _=>decide (1<=n)
 | .Et p q _=>decide (p<t.p) && (decide (q<t.p) && !(p==q))
def pq(h:Wf t d):Raw t d/\isB t d=true:=by
 cases d with
 |DX p k n=>exact⟨h.2.2.2,by simp[isB,h.1,h.2.1,h.2.2.1]⟩
 |Ig x y=>exact⟨trivial,by simp[isB,show x≠y from h]⟩
 |swap l g k n=>exact⟨h.2.2.2,by simp[isB,h.1,h.2.1,h.2.2.1]⟩
 |Cm u l g k n=>exact⟨⟨h.2.2.2.1,h.2.2.2.2⟩,by simp[isB,h.1,h.2.1,h.2.2.1]⟩
 |Dq l n=>exact⟨trivial,by simp[isB,show 1<=n from h]⟩
 |thr l n ws=>exact⟨h.2,by simp[isB,h.1]⟩
 |Et p q x=>exact⟨h.2.2.2,by simp[isB,h.1,h.2.1,h.2.2.1]⟩
section
variable{S:Sto}{t:Tr}{w:Str}
def Kc(h1:((at? E i).isNone && decide (i<E.length))=true)(h2:at? E j=Gc (.str p))(h3:tbl.lookup p=Gc G):ke tbl i j fs E S=AU (AB G fs) E S:=by
 unfold ke
 rw[wU h1,h2,An]
 dsimp only
 rw[h3,An]
@[simp] def iO:List.lookup (Str.ofString "partner") Fo=some E5:=rfl
@[simp] def q9:List.lookup (Str.ofString "kind") Fo=some Dv:=rfl
@[simp] def qa:List.lookup (Str.ofString "load") Fo=some Cj:=rfl
@[simp] def jc:List.lookup (Str.ofString "number") Fo=some CV:=rfl
@[simp] def ky:List.lookup (Str.ofString "pieces") Fo=some FC:=rfl
@[simp] def lE:List.lookup (Str.ofString "worths") Fo=some FA:=rfl
@[simp] def nj:List.lookup (Str.ofString "share") Fo=some C4:=rfl
def lZ{i:Nat}:Al [t.d,.str "partner",.int i] S=Gc (.bl (decide (i<t.p)),S):=by
 have e:=within_int (S:=S) (i:=i) (j:=0) (k:=(t.p:Int)-1)
 have q:(decide ((0:Int)<=i) && decide ((i:Int)<=(t.p:Int)-1))=decide (i<t.p):=by
  rw[AAU];simp;lia
 rw[q]at e
 simp[Al,C1,Kc,E5,Jr,Tr.d,e]
def jV{i:Nat}:Al [t.d,.str "kind",.int i] S=Gc (.bl (decide (i<t.k)),S):=by
 have e:=within_int (S:=S) (i:=i) (j:=0) (k:=(t.k:Int)-1)
 have q:(decide ((0:Int)<=i) && decide ((i:Int)<=(t.k:Int)-1))=decide (i<t.k):=by
  rw[AAU];simp;lia
 rw[q]at e
 simp[Al,C1,Kc,Dv,KA,Tr.d,e]
def jN{i:Nat}:Al [t.d,.str "load",.int i] S=Gc (.bl true,S):=by
 have e:=Ja (S:=S) (i:=i) (j:=0)
 have q:decide ((0:Int)<=i)=true:=by simp
 rw[q]at e
 generalize t.d=T
 simp[Al,C1,Kc,Cj,Gk,e]
def lR(h0:0<=u)(h1:u<=9):Al [t.d,.str "number",.int u] S=Gc (.bl true,S):=by
 have e:=within_int (S:=S) (i:=u) (j:=0) (k:=9)
 generalize t.d=T
 simp[Al,C1,Kc,CV,GL,e,h0,h1]
def lh:Al [t.d,.str "pieces",.int n] S=Gc (.bl (decide (1<=n)),S):=by
 have e:=Ja (S:=S) (i:=n) (j:=1)
 generalize t.d=T
 simp[Al,C1,Kc,FC,Jv,e]
def mR{ws:Wp Int}(h:ws.length=t.k+1)(hk:t.k<=5)(hw:∀w∈ws,1<=w/\w<=99):Al [t.d,.str "worths",.tup (ws.map .int)] S=Gc (.bl true,S):=by
 have k3:St.Kd.tup.isA "tuple"=true:=by decide
 obtain⟨bs,e1,e2⟩:=mw (S:=S) (f:=AB Am [eV 0,eI 1,eI 99]) (e:=D.int) (C:=[]) (os:=[none]) (xs:=ws) (gs:=[]) (t:=tNm 0) AO (by lia) rfl (by
  intro r hr' os ho
  obtain⟨a,rfl⟩:=J3 ho
  have:=within_int (S:=S) (i:=r) (j:=1) (k:=99)
  exact⟨[Gc (.int r)],rfl,by simp,by simp[this,hw r hr']⟩)
 have it:AY [.tup (ws.map .int),.int ((t.k:Int)+1)] S=Gc (.bl true,S):=by
  have:((ws.length:Int)==(t.k:Int)+1)=true:=by rw[h];simp
  simp[AY,CJ,kdW,k3,this]
 simp only[v7]at e1
 obtain⟨b',e3,e4⟩:=yq.mp e2
 have v:Eu [.tup (ws.map .int),.int ((t.k:Int)+1)] S=Gc (.bl true,S):=by
  simp[Eu,Jo,it]
  simp[Vn,e1,e3,e4]
 simp[Al,C1,Kc,FA,Ju,Tr.d,v]
def mV(h0:0<x.num)(h1:x.num<=x.den)(h2:x.den<=12):Al [t.d,.str "share",aD x] S=Gc (.bl true,S):=by
 have nn:0<=x:=AC9.mp (by lia)
 have l1:x<=1:=by rw[Rat.le_iff];simpa using h1
 have e:=Rn (S:=S) nn l1
 have h2':(x.den:Int)<=12:=by exact_mod_cast h2
 generalize t.d=T
 have e':C3 [.tup [.int x.num,.int x.den]] S=Gc (.bl true,S):=e
 simp[Al,C1,Kc,C4,HC,aD,e',h0,h2']
@[simp] def sJ{t:Tf}:Bk [] t c f [] acc E S=some (acc,S):=EG AO
def fG{t:Tf}(h:acc.length<20)(e:t d E S=Gc E1)(g:f E1 S=Gc (y,S)):Bk [] t Ai f (d::ds) acc E S=Bk [] t Ai f ds (acc++[y]) E1 S:=by
 rw[Hy AO (vd h (AI (by decide))) e GI,g,An]
def pC:=AB Al [eV 0,eV 3,eIx (eV 1) (eOp (o2 BF) [eV 2,eI 1])]
def pT:=AM (xIf (Jm (eOp (o1 ZP) [As [0,1] 2 (iA (eV 3)) (tTp [tNm 2,tNm 3]) Ai pC])) (AU (eC (.bl false))) BX) (AU (eOr (eOp (o2 (wIn true)) [eV 2,eC CB]) (eOp (o2 wNe) [eIx (eV 1) (eI 1),eIx (eV 1) (eI 2)])))
def Zm(hf:yg w Ao=Gc (.tup form))(hl:xs.length=form.length):Dx [T,.tup (.str w::xs)] S=(pT [Gc T,Gc (.tup (.str w::xs)),Gc (.str w),Gc (.tup form)] S).map λr=>(flD r.1,r.2.2):=by
 have h1:(((form.length:Nat):Int)+1==0)=false:=yn.mpr (by lia)
 have eb:Nk=(AM (xIf (eOr (Jm (eOp (o2 SQ) [eV 1,eC (.ty "tuple")])) (eOp (o2 wEq) [eOp (o1 FI) [eV 1],eI 0])) (AU (eC (.bl false))) BX)
  (AM (A6 2 (eIx (eV 1) (eI 0)))
  (AM (xIf (eOr (Jm (eOp (o2 SQ) [eV 2,eC (.ty "str")])) (eOp (o1 (HN true Ao)) [eV 2])) (AU (eC (.bl false))) BX)
  (AM (A6 3 (eOp (o1 (SM Ao)) [eV 2]))
  (AM (xIf (eOp (o2 wNe) [eOp (o1 FI) [eV 1],eOp (o2 BF) [eOp (o1 FI) [eV 3],eI 1]]) (AU (eC (.bl false))) BX)
  pT))))):=rfl
 have k1:St.Kd.tup.isA "tuple"=true:=by decide
 have k2:St.Kd.str.isA "str"=true:=by decide
 have t1:HN true Ao (.val (.str w))=Gc (.val (.bl false)):=by
  show Gc (Wv.val (.bl (!(yg w Ao).isSome)))=_
  rw[hf];rfl
 have t2:SM Ao (.val (.str w))=Gc (.val (.tup form)):=by
  show(yg w Ao).map Wv.val=_
  rw[hf];rfl
 simp[Dx,eb,k1,k2,kdW,t1,t2,h1,hl]
def ZX{bs:Wp xD}(hc:Bk [] (tTp [tNm 2,tNm 3]) Ai pC (QY 0 form) [] [Gc T,Gc (.tup (.str w::xs)),none,none] S=Gc (bs.map .bl,S))(hu:bs.all id=true->(eOr (eOp (o2 (wIn true)) [eV 2,eC CB]) (eOp (o2 wNe) [eIx (eV 1) (eI 1),eIx (eV 1) (eI 2)])) [Gc T,Gc (.tup (.str w::xs)),Gc (.str w),Gc (.tup form)] S=Gc (.bl u,S)):pT [Gc T,Gc (.tup (.str w::xs)),Gc (.str w),Gc (.tup form)] S=Gc (.ret (.bl (bs.all id && u)),[Gc T,Gc (.tup (.str w::xs)),Gc (.str w),Gc (.tup form)],S):=by
 have b1:bls (bs.map D.bl)=Gc bs:=by have:=QG (λx:xD=>x) (xs:=bs);simpa using this
 generalize hz:(eOr (eOp (o2 (wIn true)) [eV 2,eC CB]) (eOp (o2 wNe) [eIx (eV 1) (eI 1),eIx (eV 1) (eI 2)]))=Z at hu
 cases q:bs.all id with
 |false=>simp[pT,Vn,hc,b1,q]
 |true=>simp[pT,Vn,hc,b1,q,hz,hu q]
end
section
variable{S:Sto}{t:Tr}{d:AN}
def PR(T:D)(S:Sto):Wp D->Wp D->Wp xD->Prop
 | [],ys,bs=>ys=[]/\bs=[]
 |f::fs,ys,bs=>∃y ys' b bs',ys=y::ys'/\bs=b::bs'/\Al [T,f,y] S=Gc (.bl b,S)/\PR T S fs ys' bs'
theorem UE:∀{form ys} {bs} {k} {acc} {o2 o3},PR T S form ys bs->L.drop (k+1)=ys->acc.length+form.length<=20->Bk [] (tTp [tNm 2,tNm 3]) Ai pC (QY k form) acc [Gc T,Gc (.tup L),o2,o3] S=Gc (acc++bs.map .bl,S)
 | [],ys,bs,k,acc,o2,o3,h,hd,hl=>by
   obtain⟨rfl,rfl⟩:=h
   simp[QY]
 |f::fs,ys,bs,k,acc,o2,o3,h,hd,hl=>by
  obtain⟨y,ys',b,bs',rfl,rfl,hp,h⟩:=h
  have a:atI L ((k:Int)+1)=Gc y:=by
   have:L[k+1]?=Gc y:=by
    have:=congrArg (λz=>z[0]?) hd
    simpa using this
   have:=DM (n:=k+1) this
   exact_mod_cast this
  have hd':L.drop (k+1+1)=ys':=by
   have:=congrArg List.tail hd
   simpa using this
  simp only[QY]
  rw[fG (E1:=[Gc T,Gc (.tup L),Gc (.int k),Gc f]) (y:=.bl b) (by simp at hl;lia) (by simp) (by simp[pC,a,hp]),UE h hd' (by simp at hl ⊢; lia)]
  simp
noncomputable def formOf:AN->Wp D
 | .DX .. =>[.str "partner",.str "kind",.str "pieces"]
 | .Ig .. =>[.str "load",.str "load"]
 | .swap .. =>[.str "load",.str "pieces",.str "kind",.str "pieces"]
 | .Cm .. =>[.str "number",.str "load",.str "pieces",.str "kind",.str "pieces"]
 | .Dq .. =>[.str "load",.str "pieces"]
 | .thr .. =>[.str "load",.str "pieces",.str "worths"]
 | .Et .. =>[.str "partner",.str "partner",.str "share"]
def cL{a b:Nat}:(!((a:Int)==(b:Int)))= !(a==b):=by rw[Ta]
def KW(hf:yg w Ao=Gc (.tup form))(hl:form.length<=20)(hp:PR T S form xs bs)(hlen:xs.length=form.length)(hu:(eOr (eOp (o2 (wIn true)) [eV 2,eC CB]) (eOp (o2 wNe) [eIx (eV 1) (eI 1),eIx (eV 1) (eI 2)])) [Gc T,Gc (.tup (.str w::xs)),Gc (.str w),Gc (.tup form)] S=Gc (.bl u,S)):Dx [T,.tup (.str w::xs)] S=Gc (.bl (bs.all id && u),S):=by
 rw[Zm hf hlen,ZX (by have:=UE (L:=.str w::xs) (k:=0) (acc:=[]) (o2:=none) (o3:=none) hp rfl (by simpa using hl);simpa using this) λ_=>hu]
 rfl
def Vw(ht:Hb t)(h:Raw t d):Dx [t.d,d.d] S=Gc (.bl (isB t d),S):=by
 obtain⟨t1,t2,t3,t4,t5,t6⟩:=ht
 have pp:=λi:Nat=>lZ (S:=S) (t:=t) (i:=i)
 have pk:=λi:Nat=>jV (S:=S) (t:=t) (i:=i)
 have pl:=λi:Nat=>jN (S:=S) (t:=t) (i:=i)
 have pn:=λn:Int=>lh (S:=S) (t:=t) (n:=n)
 have kU:dr S CB=.val CB:=rfl
 cases d with
 |DX p k n=>
  have:=KW (T:=t.d) (w:="bring") (xs:=[.int p,.int k,.int n]) (bs:=[decide (p<t.p),decide (k<t.k),decide (1<=n)]) (u:=true) (S:=S) (form:=formOf (.DX p k n)) (rfl) (by simp[formOf]) ⟨_,_,_,_,rfl,rfl,pp p,_,_,_,_,rfl,rfl,pk k,_,_,_,_,rfl,rfl,pn n,rfl,rfl⟩ rfl (by
   generalize t.d=T
   have e:wIn true (.val (.str "bring")) (.val CB)=Gc (.val (.bl true)):=rfl
   simp[kU,e])
  rw[show(AN.DX p k n).d=.tup (.str "bring" :: [.int p,.int k,.int n])from rfl,this]
  simp[isB]
 |Ig a b=>
  have:=KW (T:=t.d) (w:="pool") (xs:=[.int a,.int b]) (bs:=[true,true]) (u:= !(a==b)) (S:=S) (form:=formOf (.Ig a b)) (rfl) (by simp[formOf]) ⟨_,_,_,_,rfl,rfl,pl a,_,_,_,_,rfl,rfl,pl b,rfl,rfl⟩ rfl (by
   generalize t.d=T
   have e:wIn true (.val (.str "pool")) (.val CB)=Gc (.val (.bl false)):=rfl
   simp[kU,e,cL])
  rw[show(AN.Ig a b).d=.tup (.str "pool" :: [.int a,.int b])from rfl,this]
  simp[isB]
 |swap l g k n=>
  have:=KW (T:=t.d) (w:="swap") (xs:=[.int l,.int g,.int k,.int n]) (bs:=[true,decide (1<=g),decide (k<t.k),decide (1<=n)]) (u:=true) (S:=S) (form:=formOf (.swap l g k n)) (rfl) (by simp[formOf]) ⟨_,_,_,_,rfl,rfl,pl l,_,_,_,_,rfl,rfl,pn g,_,_,_,_,rfl,rfl,pk k,_,_,_,_,rfl,rfl,pn n,rfl,rfl⟩ rfl (by
   generalize t.d=T
   have e:wIn true (.val (.str "swap")) (.val CB)=Gc (.val (.bl true)):=rfl
   simp[kU,e])
  rw[show(AN.swap l g k n).d=.tup (.str "swap" :: [.int l,.int g,.int k,.int n])from rfl,this]
  simp[isB]
 |Cm u l g k n=>
  have:=KW (T:=t.d) (w:="trade") (xs:=[.int u,.int l,.int g,.int k,.int n]) (bs:=[true,true,decide (1<=g),decide (k<t.k),decide (1<=n)]) (u:=true) (S:=S) (form:=formOf (.Cm u l g k n)) (rfl) (by simp[formOf]) ⟨_,_,_,_,rfl,rfl,lR h.2.1 h.2.2,_,_,_,_,rfl,rfl,pl l,_,_,_,_,rfl,rfl,pn g,_,_,_,_,rfl,rfl,pk k,_,_,_,_,rfl,rfl,pn n,rfl,rfl⟩ rfl (by
   generalize t.d=T
   have e:wIn true (.val (.str "trade")) (.val CB)=Gc (.val (.bl true)):=rfl
   simp[kU,e])
  rw[show(AN.Cm u l g k n).d=.tup (.str "trade" :: [.int u,.int l,.int g,.int k,.int n])from rfl,this]
  simp[isB]
 |Dq l n=>
  have:=KW (T:=t.d) (w:="spoil") (xs:=[.int l,.int n]) (bs:=[true,decide (1<=n)]) (u:=true) (S:=S) (form:=formOf (.Dq l n)) (rfl) (by simp[formOf]) ⟨_,_,_,_,rfl,rfl,pl l,_,_,_,_,rfl,rfl,pn n,rfl,rfl⟩ rfl (by
   generalize t.d=T
   have e:wIn true (.val (.str "spoil")) (.val CB)=Gc (.val (.bl true)):=rfl
   simp[kU,e])
  rw[show(AN.Dq l n).d=.tup (.str "spoil" :: [.int l,.int n])from rfl,this]
  simp[isB]
 |thr l n ws=>
  have:=KW (T:=t.d) (w:="throw") (xs:=[.int l,.int n,.tup (ws.map .int)]) (bs:=[true,decide (1<=n),true]) (u:=true) (S:=S) (form:=formOf (.thr l n ws)) (rfl) (by simp[formOf]) ⟨_,_,_,_,rfl,rfl,pl l,_,_,_,_,rfl,rfl,pn n,_,_,_,_,rfl,rfl,mR h.1 t4 h.2,rfl,rfl⟩ rfl (by
   generalize t.d=T
   have e:wIn true (.val (.str "throw")) (.val CB)=Gc (.val (.bl true)):=rfl
   simp[kU,e])
  rw[show(AN.thr l n ws).d=.tup (.str "throw" :: [.int l,.int n,.tup (ws.map .int)])from rfl,this]
  simp[isB]
 |Et p q x=>
  have:=KW (T:=t.d) (w:="sell") (xs:=[.int p,.int q,aD x]) (bs:=[decide (p<t.p),decide (q<t.p),true]) (u:= !(p==q)) (S:=S) (form:=formOf (.Et p q x)) (rfl) (by simp[formOf]) ⟨_,_,_,_,rfl,rfl,pp p,_,_,_,_,rfl,rfl,pp q,_,_,_,_,rfl,rfl,mV h.1 h.2.1 h.2.2,rfl,rfl⟩ rfl (by
   generalize t.d=T
   have e:wIn true (.val (.str "sell")) (.val CB)=Gc (.val (.bl false)):=rfl
   simp[kU,e,cL])
  rw[show(AN.Et p q x).d=.tup (.str "sell" :: [.int p,.int q,aD x])from rfl,this]
  simp[isB,Bool.and_assoc]
end
section
variable{S:Sto}{t:Tr}{ls:Wp Ld}{ds:Wp AN}{st:Stt}{d:AN}
def j0(h:Can t st d):Wf t d:=(dG h).1
theorem YK:∀{ds} {st:Stt},LP t st ds->∀d∈ds,Wf t d
 | [],st,_,d,hd=>by cases hd
 |x::ds,st,h,d,hd=>by
  rcases ve.mp hd with rfl|hd
  .exact j0 h.1
  .exact YK h.2 d hd
noncomputable def iq(ds:Wp AN):Nat:=(ds.filter G5).length
def fW{os:En}(ho:os.length=1)(hl:ds.length<=50):Bk [] (tNm 0) (eOp (o2 wEq) [eIx (eV 0) (eI 0),eC (.str "throw")]) (eV 0) (ds.map AN.d) [] os S=Gc ((ds.filter G5).map AN.d,S):=by
 have:=EC (gs:=[]) (t:=tNm 0) (c:=eOp (o2 wEq) [eIx (eV 0) (eI 0),eC (.str "throw")]) (f:=eV 0) (C:=[]) (m:=1) (e:=AN.d) (g:=AN.d) (b:=G5) (S:=S) AO (xs:=ds) (acc:=[]) (os:=os) ho (AI (by simp;lia)) (by
  intro x hx os ho
  obtain⟨a,rfl⟩:=J3 ho
  exact⟨[Gc x.d],rfl,by simp,Ul x _ rfl,by simp⟩)
 simpa using this
def SG(ht:Hb t)(hw:∀d∈ds,Wf t d)(hl:ds.length<=50):EZ [t.d,.tup (ds.map AN.d)] S=Gc (.bl (decide (ds.length<=20) && decide (iq ds<=3)),S):=by
 have k3:St.Kd.tup.isA "tuple"=true:=by decide
 have d1:dr S GZ=.val (.int 20):=rfl
 have d2:dr S Fg=.val (.int 3):=rfl
 by_cases c:ds.length<=20
 .obtain⟨bs,e1,e2⟩:=mw (S:=S) (f:=AB Dx [eV 0,eV 1]) (e:=AN.d) (C:=[Gc t.d]) (os:=[none]) (xs:=ds) (gs:=[]) (t:=tNm 1) AO (by lia) rfl (by
   intro x hx os ho
   obtain⟨a,rfl⟩:=J3 ho
   have⟨r,i⟩:=pq (hw x hx)
   have e:=Vw (S:=S) ht r
   rw[i]at e
   exact⟨[Gc x.d],rfl,by simp,by simp[e]⟩)
  obtain⟨b',e3,e4⟩:=yq.mp e2
  have tc:=fW (S:=S) (os:=[none]) rfl hl
  have c1:¬(20:Int)<ds.length:=by lia
  have c2:decide ((((ds.filter G5).length:Nat):Int)<=3)=decide (iq ds<=3):=by
   unfold iq
   rw[AAU];simp;lia
  generalize t.d=T at*
  simp[EZ,Hk,kdW,k3,d1,d2,c,c1,Vn]
  try simp only[wg,v7]at e1
  simp[e1,e3,e4,tc,d2,c2]
 .have c1:(20:Int)<ds.length:=by lia
  generalize t.d=T
  simp[EZ,Hk,kdW,k3,d1,d2,c,c1]
def VW(ht:Hb t)(hh:t.ho.length=t.p/\t.ho.sum=1)(hr:HOk t){G B:Nat}(g0:0<G)(g1:G<2^2760)(hb:4*B<2^2760)(g2:∀r∈t.ho,Ok G B r):Gf [t.d] S=Gc (.bl true,S):=by
 obtain⟨t1,t2,t3,t4,t5,t6⟩:=ht
 obtain⟨r1,r2,r3,r4⟩:=hr
 have O:=Rp (S:=S) (K:=2760) hh.1 t2 g0 g1 (by decide) g2 hb hh.2
 have k3:St.Kd.tup.isA "tuple"=true:=by decide
 have it:AY [t.d,.int 6] S=Gc (.bl true,S):=by
  simp[AY,CJ,Tr.d,kdW,k3]
 have w1:=within_int (S:=S) (i:=t.p) (j:=1) (k:=4)
 have w2:=within_int (S:=S) (i:=t.k) (j:=1) (k:=5)
 have w3:=within_int (S:=S) (i:=t.b) (j:=1) (k:=20)
 have w4:=within_int (S:=S) (i:=t.h) (j:=0) (k:=9)
 have w5:=within_int (S:=S) (i:=t.l) (j:=0) (k:=9)
 have q1:(decide ((1:Int)<=t.p) && decide ((t.p:Int)<=4))=true:=by simp;lia
 have q2:(decide ((1:Int)<=t.k) && decide ((t.k:Int)<=5))=true:=by simp;lia
 have q3:(decide ((1:Int)<=t.b) && decide ((t.b:Int)<=20))=true:=by simp;lia
 have q4:(decide ((0:Int)<=t.h) && decide (t.h<=9))=true:=by simp;lia
 have q5:(decide ((0:Int)<=t.l) && decide (t.l<=9))=true:=by simp;lia
 rw[q1]at w1
 rw[q2]at w2
 rw[q3]at w3
 rw[q4]at w4
 rw[q5]at w5
 have td:t.d=.tup [.int t.p,.int t.k,.int t.b,shD t.ho,.int t.h,.int t.l]:=rfl
 rw[td]at it⊢
 generalize shD t.ho=ho at*
 simp[Gf,MA,it,w1,w2,w3,w4,w5,O]
def Sl(ht:Hb t)(hl:ls.length<=4)(ha:∀x∈ls,x.k<t.k/\0<x.n/\x.ow.length=t.p/\x.ow.sum=1){G B:Nat}(g0:0<G)(g1:G<2^2760)(hb:4*B<2^2760)(g2:∀x∈ls,∀r∈x.ow,Ok G B r):Fq [t.d,.tup (ls.map Ld.d)] S=Gc (.bl true,S):=by
 have k3:St.Kd.tup.isA "tuple"=true:=by decide
 have d1:dr S BD=.val (.int 4):=rfl
 obtain⟨bs,e1,e2⟩:=mw (S:=S) (f:=Fi (AB Eg [eV 0,eV 1]) (eOp (o2 wGt) [eIx (eV 1) (eI 1),eI 0])) (e:=Ld.d) (C:=[Gc t.d]) (os:=[none]) (xs:=ls) (gs:=[]) (t:=tNm 1) AO (by lia) rfl (by
  intro x hx os ho
  obtain⟨a,rfl⟩:=J3 ho
  obtain⟨h1,h2,h4,h5⟩:=ha x hx
  have e:=Vq (S:=S) (K:=2760) ht h1 (by lia) h4 g0 g1 (by decide) (g2 x hx) hb h5
  have n0:(0:Int)<x.n:=by lia
  have ix:asS (dr S x.d)=Gc [.int x.k,.int x.n,shD x.ow]:=rfl
  refine⟨[Gc x.d],rfl,by simp,?_⟩
  generalize x.d=X at*
  generalize t.d=T at*
  simp[e,ix,n0])
 obtain⟨b',e3,e4⟩:=yq.mp e2
 have c1:¬(4:Int)<ls.length:=by lia
 generalize t.d=T at*
 generalize hz:Fi (AB Eg [eV 0,eV 1]) (eOp (o2 wGt) [eIx (eV 1) (eI 1),eI 0])=Z at e1
 have eb:K4=(AM (xIf (eOr (Jm (eOp (o2 SQ) [eV 1,eC (.ty "tuple")])) (eOp (o2 wGt) [eOp (o1 FI) [eV 1],eC BD])) (AU (eC (.bl false))) BX)
  (AU (eOp (o1 ZP) [As [0] 1 (C7 (eV 1)) (tNm 1) Ai Z]))):=by rw[<-hz];rfl
 simp only[wg,v7]at e1
 simp[Fq,eb,kdW,k3,d1,c1,Vn,e1,e3,e4]
def aF(bk:CA t ls ds)(hh:HOk t)(ho:Nz ls/\t.ho.sum=1)(hp:∀x∈ls,0<x.n)(h3:iq ds<=3):Dy [Aa t ls ds] S=Gc (.bl true,S):=by
 obtain⟨k,hk,z⟩:=bk.lev
 obtain⟨G,B,sg⟩:=z.sig
 have gb:B<2^2750:=vd sg.bb (Bn (by lia))
 have p1:2^2760=2^2750*2^10:=by rw[<-zV]
 have g1:G<2^2760:=by have:=sg.gb;lia
 have b4:4*B<2^2760:=by lia
 have e1:=VW (S:=S) bk.tr ⟨sg.hold,ho.2⟩ hh sg.g0 g1 b4 sg.hok
 have e2:=Sl (S:=S) bk.tr bk.four (λx hx=>⟨(sg.lok x hx).kd,hp x hx,(sg.lok x hx).own,ho.1 x hx⟩) sg.g0 g1 b4 λx hx=>(sg.lok x hx).ok
 have e3:=SG (S:=S) bk.tr (YK bk.good) (by have:=bk.len;lia)
 have c1:ds.length<=20:=by have:=bk.len;lia
 have k3:St.Kd.tup.isA "tuple"=true:=by decide
 have it:AY [Aa t ls ds,.int 3] S=Gc (.bl true,S):=by
  simp[AY,CJ,Aa,kdW,k3]
 have c2:(decide (ds.length<=20) && decide (iq ds<=3))=true:=by simp[c1,h3]
 rw[c2]at e3
 simp only[Aa]at it⊢
 generalize t.d=T at*
 simp[Dy,NP,it,e1,e2,e3]
end
end Mi
end
noncomputable section
namespace Mi
open PySem PySem.Spec L2 PySem.NumText
structure GBk(t:Tr)(ls:Wp Ld)(ds:Wp AN):Prop where
 wr:WrB t ls ds
 bk:CA t ls ds
 ib:∀S,Dy [Aa t ls ds] S=Gc (.bl true,S)
section
variable{t:Tr}{ls:Wp Ld}{ds:Wp AN}{st:Stt}{d:AN}
def mD{G B:Nat}{r:Rat}(h:Ok G B r)(g0:0<G)(gb:G<=B)(bb:B<2^1920):WrA r:=by
 have s:=h.sz (k:=1920) g0 (wO gb bb) bb
 have n0:=Ok.num g0 h
 exact⟨n0,by have:=s.1;lia,s.2⟩
def V0{i:Int}(h0:0<=i)(h1:i<2^200):WrI i:=⟨h0,by
 have e:((2^200:Nat):Int)=2^200:=by decide
 have:i.toNat<2^200:=Int.ofNat_lt.mp (by rw[wL h0,e];exact h1)
 exact vd this (wQ (by decide) (by decide))⟩
def SK{n:Nat}(h:n<=1000):WrI (n:Int):=V0 (by lia) (xJ (show(n:Int)<=1000 by lia) (by decide))
def UW:vY "partner" ∈Gg/\vY "kind" ∈Gg/\vY "load" ∈Gg/\vY "number" ∈Gg/\vY "pieces" ∈Gg/\vY "partners" ∈Gg/\vY "kinds" ∈Gg/\vY "beasts" ∈Gg/\vY "hire" ∈Gg/\vY "part" ∈Gg:=by decide+kernel
def gi(ht:Hb t)(h:Ft t 16 st)(c:Can t st d):∀z∈dpz d,z.ok:=by
 obtain⟨p1,p2,p3,p4,p5,_⟩:=UW
 obtain⟨t1,t2,t3,t4,t5,t6⟩:=ht
 have hl:=h.len
 have pc:=h.pcs
 have big:(2:Int)^131<2^200:=by decide
 have lim:∀{i:Nat} {g:Int},i<st.AA.length->g<=(AK st.AA i).n->g<2^200:=λ{i g} hi hg=>xJ hg (ze (pc _ (AS hi)).2 (by decide))
 cases d with
 |DX p k n=>
  obtain⟨h1,h2,h3,h4⟩:=c
  intro z hz
  simp only[dpz,ve,vo,wW]at hz
  rcases hz with rfl|rfl|rfl
  .exact⟨p1,SK (by lia)⟩
  .exact⟨p2,SK (by lia)⟩
  .exact⟨p5,V0 (by lia) (ze h4 big)⟩
 |Ig a b=>
  obtain⟨_,h1,h2,_⟩:=c
  intro z hz
  simp only[dpz,ve,vo,wW]at hz
  rcases hz with rfl|rfl
  .exact⟨p3,SK (by lia)⟩
  .exact⟨p3,SK (by lia)⟩
 |swap l g k n=>
  obtain⟨h1,h2,h3,h4,h5,h6,h7⟩:=c
  intro z hz
  simp only[dpz,ve,vo,wW]at hz
  rcases hz with rfl|rfl|rfl|rfl
  .exact⟨p3,SK (by lia)⟩
  .exact⟨p5,V0 (by lia) (lim h1 h3)⟩
  .exact⟨p2,SK (by lia)⟩
  .exact⟨p5,V0 (by lia) (ze h7 big)⟩
 |Cm u l g k n=>
  obtain⟨h1,h2,h3,h4,h5,h6,h7,_,h8,h9⟩:=c
  intro z hz
  simp only[dpz,ve,vo,wW]at hz
  rcases hz with rfl|rfl|rfl|rfl|rfl
  .exact⟨p4,V0 h8 (xJ h9 (by decide))⟩
  .exact⟨p3,SK (by lia)⟩
  .exact⟨p5,V0 (by lia) (lim h1 h3)⟩
  .exact⟨p2,SK (by lia)⟩
  .exact⟨p5,V0 (by lia) (ze h7 big)⟩
 |Dq l n=>
  obtain⟨h1,h2,h3⟩:=c
  intro z hz
  simp only[dpz,ve,vo,wW]at hz
  rcases hz with rfl|rfl
  .exact⟨p3,SK (by lia)⟩
  .exact⟨p5,V0 (by lia) (lim h1 h3)⟩
 |thr l n ws=>
  obtain⟨h1,h2,h3,h4,h5⟩:=c
  intro z hz
  simp only[dpz,ve,vo,wW]at hz
  rcases hz with rfl|rfl|rfl
  .exact⟨p3,SK (by lia)⟩
  .exact⟨p5,V0 (by lia) (lim h1 h3)⟩
  .exact⟨λw hw=>by have:=h5 w hw;exact V0 (by lia) (xJ (show w<=99 by lia) (by decide)),by lia,by lia⟩
 |Et p q s=>
  obtain⟨h1,h2,h3,h4,h5,h6⟩:=c
  intro z hz
  simp only[dpz,ve,vo,wW]at hz
  rcases hz with rfl|rfl|rfl
  .exact⟨p1,SK (by lia)⟩
  .exact⟨p1,SK (by lia)⟩
  .refine⟨by lia,?_,wO h6 (by decide+kernel)⟩
   have:s.num.toNat<=12:=by lia
   exact wO this (by decide+kernel)
def XM{G B:Nat}(bk:CA t ls ds)(hh:HOk t)(ho:Nz ls/\t.ho.sum=1)(hp:∀x∈ls,0<x.n)(h3:iq ds<=3)(g0:0<G)(gb:G<=B)(bb:B<2^1920)(o1:∀x∈ls,∀r∈x.ow,Ok G B r)(o2:∀r∈t.ho,Ok G B r):GBk t ls ds:=by
 obtain⟨p1,p2,p3,p4,p5,p6,p7,p8,p9,p10⟩:=UW
 obtain⟨t1,t2,t3,t4,t5,t6⟩:=bk.tr
 obtain⟨k,hk,z⟩:=bk.lev
 have hold:=z.hold
 have own:=z.own
 have kind:=z.kind
 refine⟨⟨λz hz=>?_,λx hx z hz=>?_,λd hd=>?_,by have:=bk.four;lia,by have:=bk.len;lia⟩,bk,λS=>aF bk hh ho hp h3⟩
 .obtain⟨a1,a2,a3,a4⟩:=hh
  have hl:t.ho.length=t.p:=hold
  simp only[trP,ve,vo,wW]at hz
  rcases hz with rfl|rfl|rfl|rfl|rfl|rfl
  .exact⟨p6,SK (by lia)⟩
  .exact⟨p7,SK (by lia)⟩
  .exact⟨p8,SK (by lia)⟩
  .exact⟨p9,V0 (by lia) (xJ a2 (by decide))⟩
  .exact⟨p10,V0 (by lia) (xJ a4 (by decide))⟩
  .exact⟨λr hr=>mD (o2 r hr) g0 gb bb,by lia,by lia⟩
 .have ow:x.ow.length=t.p:=own x hx
  have kd:x.k<t.k:=kind x hx
  have pc:=bk.pc0 x hx
  simp only[ldP,ve,vo,wW]at hz
  rcases hz with rfl|rfl|rfl
  .exact⟨p2,SK (by lia)⟩
  .exact⟨p5,V0 pc.1 (ze pc.2 (by decide))⟩
  .exact⟨λr hr=>mD (o1 x hx r hr) g0 gb bb,by lia,by lia⟩
 .obtain⟨i,hi⟩:=List.getElem?_of_mem hd
  exact gi bk.tr (bk.at i) (M8 bk.good hi)
end
end Mi
end
noncomputable section
namespace Mi
open PySem PySem.Spec L2 PySem.NumText
section
variable{S:Sto}{t:Tr}{ls:Wp Ld}{ds:Wp AN}{p:Nat}
structure Dr(t:Tr)(ls:Wp Ld)(ds:Wp AN):Prop where
 gb:GBk t ls ds
 wk:Wk t ls ds ds.length 0
 len:ds.length<=12
 fin:∃G,0<G/\G<2^26/\(∀x∈ls,∀r∈x.ow,Ok G G r)/\∀r∈t.ho,Ok G G r
def drawn{M:Nat}(hM:M<=12)(h:EF p S):∃t ls ds S',Ci [.ref p,.int M] S=Gc (Aa t ls ds,S')/\Dr t ls ds/\EF p S':=by
 obtain⟨t,ls,ds,S',e,⟨bk,hl,_,hr⟩,⟨h1,h2⟩,⟨h3,hf,g,g0,g1,g2⟩,pen,_⟩:=Zp (show M<=16 by lia) h
 obtain⟨G,f0,f1,f2,f3⟩:=Vk hf bk.four g0 g1 g2
 have hh:HOk t:=⟨hr.1,hr.2.1,hr.2.2.1,hr.2.2.2⟩
 have ho:Nz ls/\t.ho.sum=1:=⟨h1,h2⟩
 exact⟨t,ls,ds,S',e,⟨XM bk hh ho (λx hx=>by have:=(hf.1 x hx).2.1;lia) h3 f0 (vf _) (yN f1 (by decide+kernel)) f2 f3,⟨bk,hh,ho,0,G,G,by lia,f0,vf _,f1,f2,f3⟩,by lia,G,f0,f1,f2,f3⟩,pen⟩
def ZY(d:Dr t ls ds){st:Stt}(hst:runs t (st0 t ls) ds=st)(hl:(ovs t st).length<=4):GBk (nxT t st) (ovs t st) []:=by
 have w2:=eS d.wk (by have:=d.len;lia) (by decide) hst hl
 obtain⟨G,f0,f1,f2,f3⟩:=d.fin
 have bk:=d.gb.bk
 have sg:=dD (k:=0) bk f0 (vf _) (vd f1 (Bn (by decide))) f2 f3
 obtain⟨T,G1,B1,rfl,t0,tb,ub,h1⟩:=Qk bk.tr sg bk.good (by have:=d.len;lia)
 rw[hst]at h1
 have hm:=TZ bk d.wk.hh d.wk.ho
 rw[hst]at hm
 have gs:=dZ d.wk.hh h1.g0 (λx hx=>(h1.lok x hx).ok) h1.hok hm
 have o:=cy gs
 have g120:G*T*10*12=G*T*120:=by lia
 have bit:B1*120<2^1920:=by
  have a:B1<2^(26+156*ds.length):=by
   refine wO ub ?_
   rw[zV 2 26]
   exact ABQ f1 (y2 (by simp))
  exact vd (Bg a (show 120<2^7 by decide)) (Bn (by have:=d.len;lia))
 exact XM w2.bk w2.hh w2.ho (λy hy=>(o y hy).1) (yB _) (G:=G*T*120) (B:=B1*120) (by have:=h1.g0;lia) (wC _ h1.gb) bit (λy hy r hr=>by
  have:=(o y hy).2.2 r hr
  rw[g120]at this
  exact this.mono (wC _ h1.gb)) λr hr=>(h1.hok r hr).up (vf _)
def Ti(d:Dr t ls ds):∃t' ls' ds' S',Fy [Aa t ls ds] S=Gc (Aa t' ls' ds',S')/\GBk t' ls' ds'/\B5 [] S S':=by
 generalize hst:runs t (st0 t ls) ds=st
 have eb:Oq=(ZO (AU (AB Aw [eV 0])) (RK BC [eV 0]) (gOr ["TooMany"] "TooMany" (AU (eV 0)) gNo)):=rfl
 by_cases hl:(ovs t st).length<=4
 .obtain⟨S1,e,s⟩:=ZA (S:=S) d.gb.bk d.wk.hh d.wk.ho hst hl
  refine⟨_,_,_,S1,?_,ZY d hst hl,s⟩
  generalize Aa (nxT t st) (ovs t st) []=NB at*
  generalize Aa t ls ds=B at*
  have x:(ZO (AU (AB Aw [eV 0])) (RK BC [eV 0]) (gOr ["TooMany"] "TooMany" (AU (eV 0)) gNo)) [Gc B] S=Gc (.ret NB,[Gc B],S1):=by
   unfold ZO
   have:(AU (AB Aw [eV 0])) [Gc B] S=Gc (.ret NB,[Gc B],S1):=by simp[e]
   rw[this]
  generalize ZO (AU (AB Aw [eV 0])) (RK BC [eV 0]) (gOr ["TooMany"] "TooMany" (AU (eV 0)) gNo)=X at*
  simp[Fy,eb,x]
 .obtain⟨S1,e1,e2,s⟩:=X7 (S:=S) d.gb.bk d.wk.hh d.wk.ho hst (by lia)
  refine⟨t,ls,ds,S1,?_,d.gb,s⟩
  generalize Aa t ls ds=B at*
  have x:(ZO (AU (AB Aw [eV 0])) (RK BC [eV 0]) (gOr ["TooMany"] "TooMany" (AU (eV 0)) gNo)) [Gc B] S=Gc (.ret B,[Gc B],S1):=by
   unfold ZO
   have a:(AU (AB Aw [eV 0])) [Gc B] S=none:=by simp[e1]
   have b:(RK BC [eV 0]) [Gc B] S=Gc (⟨"TooMany",none⟩,[Gc B],S1):=by
    show((evs [eV 0] [Gc B] S).bind λq=>(BC q.1 q.2).map λz=>(z.1,[Gc B],z.2))=_
    simp[e2]
   have c:gOr ["TooMany"] "TooMany" (AU (eV 0)) gNo ⟨"TooMany",none⟩=AU (eV 0):=by simp[gOr]
   rw[a]
   simp only
   rw[b,An]
   simp only
   rw[c]
   simp
  generalize ZO (AU (AB Aw [eV 0])) (RK BC [eV 0]) (gOr ["TooMany"] "TooMany" (AU (eV 0)) gNo)=X at*
  simp[Fy,eb,x]
noncomputable def tr1:Tr:=⟨1,1,1,[1],0,0⟩
def Ym:GBk tr1 [] []:=by
 have o:∀r∈tr1.ho,Ok 1 1 r:=λr hr=>by
  have:r=1:=by simpa[tr1]using hr
  subst this
  exact⟨1,by simp,vf _⟩
 have ff:FT tr1 []:=⟨λl hl=>(nomatch hl),1,by decide,by decide,λl hl=>(nomatch hl)⟩
 have ht:Hb tr1:=⟨by decide,by decide,by decide,by decide,by decide,by decide⟩
 have iv:=SH (t:=tr1) ff (by decide) rfl (g:=1) (by decide) (by decide) o
 have bk:CA tr1 [] []:=⟨ht,⟨0,by decide,iv⟩,by decide,λl hl=>(nomatch hl),trivial⟩
 exact XM bk ⟨by decide,by decide,by decide,by decide⟩ ⟨λl hl=>(nomatch hl),by show(1:Rat)+0=1;grind⟩ (λx hx=>(nomatch hx)) (yB _) (G:=1) (B:=1) (by decide) (vf _) (by decide+kernel) (λx hx=>(nomatch hx)) o
end
end Mi
end
noncomputable section
namespace Mi
open PySem PySem.Spec L2 PySem.NumText
section
variable{S:Sto}{t:Tr}{ls:Wp Ld}{ds:Wp AN}{p:Nat}
def S9:(D.str x).py.depth<=n+1:=by
 simp only[D.py,ABP]
 lia
def aS:(D.str "bring").lay=true/\(D.str "pool").lay=true/\(D.str "swap").lay=true/\(D.str "trade").lay=true/\(D.str "spoil").lay=true/\(D.str "throw").lay=true/\(D.str "sell").lay=true:=by decide+kernel
def aR{d:AN}:d.d.lay=true:=by
 obtain⟨w1,w2,w3,w4,w5,w6,w7⟩:=aS
 have hw:∀ws:Wp Int,(D.tup (ws.map D.int)).lay=true:=λws=>Hm λ_ _=>rfl
 have ha:∀r:Rat,(aD r).lay=true:=λ_=>rfl
 have hi:∀i:Int,(D.int i).lay=true:=λ_=>rfl
 have ht:∀ds:Wp D,(D.tup ds).lay=D.Qf ds:=λ_=>rfl
 have hc:∀(d:D) (ds:Wp D),D.Qf (d::ds)=(d.lay && D.Qf ds):=λ_ _=>rfl
 have hn:D.Qf []=true:=rfl
 cases d with
 |thr l n ws=>
  have:=hw ws
  generalize hq:D.tup (ws.map D.int)=q at*
  simp only[AN.d,hq,ht,hc,hn,hi,w6,this,Bool.and_self]
 |_=>simp only[AN.d,ht,hc,hn,hi,ha,w1,w2,w3,w4,w5,w7,Bool.and_self]
def ji{d:AN}:d.d.py.depth<=3:=by
 cases d with
 |thr l n ws=>
  refine OC (n:=2) λe he=>?_
  simp only[ve,vo,wW]at he
  rcases he with rfl|rfl|rfl|rfl
  .exact S9
  .exact JA
  .exact JA
  .refine OC (n:=1) λe he=>?_
   obtain⟨w,_,rfl⟩:=vq.mp he
   exact JA
 |Et p q s=>
  refine OC (n:=2) λe he=>?_
  simp only[ve,vo,wW]at he
  rcases he with rfl|rfl|rfl|rfl
  .exact S9
  .exact JA
  .exact JA
  .exact sY
 |_=>
  refine OC (n:=2) λe he=>?_
  simp only[ve,vo,wW]at he
  first
   |(rcases he with rfl|rfl|rfl|rfl|rfl|rfl<;>first|exact S9|exact JA)
   |(rcases he with rfl|rfl|rfl|rfl|rfl<;>first|exact S9|exact JA)
   |(rcases he with rfl|rfl|rfl|rfl<;>first|exact S9|exact JA)
   |(rcases he with rfl|rfl|rfl<;>first|exact S9|exact JA)
def kH:t.d.lay=true:=by
 show(true && (true && (true && ((shD t.ho).lay && (true && (true && true))))))=true
 rw[dX];rfl
def tS:t.d.py.depth<=4:=OC (n:=3) λe he=>by
 simp only[ve,vo,wW]at he
 rcases he with rfl|rfl|rfl|rfl|rfl|rfl
 .exact JA
 .exact JA
 .exact JA
 .exact sS
 .exact JA
 .exact JA
def U3:(Aa t ls ds).lay=true:=by
 show(t.d.lay && ((D.tup (ls.map Ld.d)).lay && ((D.tup (ds.map AN.d)).lay && true)))=true
 rw[kH,show(D.tup (ls.map Ld.d)).lay=true from Hm λ_ _=>kz,show(D.tup (ds.map AN.d)).lay=true from Hm λ_ _=>aR]
 rfl
def XB:KI (Aa t ls ds) (Aa t ls ds)=true:=Nt U3 (va (OC (n:=5) λe he=>by
 simp only[ve,vo,wW]at he
 rcases he with rfl|rfl|rfl
 .exact va tS (by decide)
 .refine OC (n:=4) λe he=>?_
  obtain⟨w,_,rfl⟩:=vq.mp he
  exact tZ
 .refine OC (n:=4) λe he=>?_
  obtain⟨w,_,rfl⟩:=vq.mp he
  exact va ji (by decide)) (by decide))
def Zu:deq (Aa t ls ds) (Aa t ls ds)=true:=QI U3
def EF.keep{p:Nat}{S S':Sto}(h:EF p S)(g:B5 [] S S'):EF p S':=by
 obtain⟨ds,e,hd⟩:=h
 exact⟨ds,g.get e (by simp),hd⟩
def Rb(h:GBk t ls ds):∃S',DB [Aa t ls ds] S=Gc (.str (Eb t ls ds),S')/\B5 [] S S':=by
 have r:=NU (S:=S) h.bk
 obtain⟨S1,e1,s1⟩:=MK (S:=S) h.wr
 have e1':B6 [Aa t ls ds] S=Gc (.str (Eb t ls ds),S1):=e1
 refine⟨S1,?_,s1⟩
 generalize Aa t ls ds=B at*
 generalize Eb t ls ds=X at*
 simp[DB,K5,r,e1']
def amB:=xIf (eOp (o2 wNe) [AB BM [eV 6],eOp (o2 BF) [eOp (o2 BF) [eOp (o1 ED) [eIx (eV 6) (eI 0)],eC (.str "/")],eOp (o1 ED) [eIx (eV 6) (eI 1)]]]) (AU (eC (.bl false))) BX
def js{r:Rat}{x0 x1 x2 x3 x4 x5:vi D}(hw:WrA r):∃S',amB [x0,x1,x2,x3,x4,x5,Gc (aD r)] S=Gc (.nx,[x0,x1,x2,x3,x4,x5,Gc (aD r)],S')/\B5 [] S S':=by
 obtain⟨S1,e1,s1⟩:=G7 (S:=S) hw
 refine⟨S1,?_,s1⟩
 have a1:=aG (i:=r.num) ⟨hw.1,hw.2.1⟩
 have a2:=Rj (n:=r.den) (k:=1920) hw.2.2 (vf _) (by decide)
 have al:=JI hw
 have l1:(nS r.num.toNat).length+(vY "/").length<=sizeLine:=by
  have:=Pp hw.2.1
  rw[RZ]
  exact AI (show _+1<=1000 by lia)
 have l2:(nS r.num.toNat++vY "/").length+(nS r.den).length<=sizeLine:=by
  rw[<-wd,RZ]
  exact va al (by decide)
 have am:nS r.num.toNat++vY "/" ++nS r.den=amS r:=by rw[RZ];rfl
 obtain⟨h1,h2⟩:=QB (Yl (x:=r))
 rw[<-am]at e1 h1 h2
 have ad:aD r=.tup [.int r.num,.int r.den]:=rfl
 rw[ad]at e1⊢
 unfold amB
 generalize nS r.num.toNat=N1 at*
 generalize nS r.den=N2 at*
 generalize r.num=I1 at*
 generalize (r.den:Int)=I2 at*
 generalize ED=W at*
 generalize hE:N1++vY "/" ++N2=N3 at*
 simp[e1,a1,a2,l1,l2,hE,h1,h2]
noncomputable def q7:Rat:=mkRat (10^39) 7
def UZ:q7.num=10^39/\q7.den=7:=by decide+kernel
def bw:WrA 0/\WrA q7:=by
 refine⟨⟨by decide,by decide+kernel,by decide+kernel⟩,?_⟩
 unfold WrA
 rw[UZ.1,UZ.2]
 exact⟨by decide+kernel,by decide+kernel,by decide+kernel⟩
def bkB:=AM (A6 5 (AB Bm [eV 4])) (AM (xIf (eOr (eOp (o2 wNe) [AB DB [eV 4],eV 5]) (eOp (o2 wNe) [AB C8 [eV 5],eV 4])) (AU (eC (.bl false))) BX) (AM (xIf (eOp (o2 wNe) [As [] 1 (C7 (eIx (eV 4) (eI 2))) (tNm 0) Ai (AB BA [eV 0]),As [] 1 (C7 (eIx (eV 4) (eI 2))) (tNm 0) Ai (AB Ac [eV 0])]) (AU (eC (.bl false))) BX) (Ml (C7 (eOp (o2 BF) [eIx (eIx (eV 4) (eI 0)) (eI 3),Bh [Bh [eI 0,eI 1],Bh [eOp (o2 VY) [eI 10,eI 39],eI 7]]])) (tNm 6) amB)))
def UR{x0 x1 x2 x3 x5 x6:vi D}(h:GBk t ls ds):∃y5 y6 S',bkB [x0,x1,x2,x3,Gc (Aa t ls ds),x5,x6] S=Gc (.nx,[x0,x1,x2,x3,Gc (Aa t ls ds),y5,y6],S')/\B5 [] S S':=by
 have w:=h.wr
 have e0:=Zj (S:=S) w
 change Bm [Aa t ls ds] S=Gc (.str (Eb t ls ds),S)at e0
 obtain⟨S1,e1,s1⟩:=Rb (S:=S) h
 obtain⟨S2,e2,s2⟩:=Rm (S:=S1) w h.ib h.bk
 obtain⟨S3,e3,s3⟩:=GD (gs:=[]) (t:=tNm 0) (f:=AB BA [eV 0]) (C:=[]) (m:=1) (e:=AN.d) (g:=λd=>.str (Cq (BO d) (dpz d))) (S0:=S2) (λ_ _=>AO) (xs:=ds) (acc:=[]) (os:=[none]) (S:=S2) rfl .refl (AI (by have:=w.d20;simp;lia)) (by
  intro x hx os T ho hT
  obtain⟨o,rfl⟩:=J3 ho
  obtain⟨T1,e,s⟩:=MJ (S:=T) (w.dd x hx)
  exact⟨[Gc x.d],T1,rfl,by simp,by simp[e],hT.trans s⟩)
 have e4:=BH (gs:=[]) (t:=tNm 0) (f:=AB Ac [eV 0]) (C:=[]) (m:=1) (e:=AN.d) (g:=λd=>.str (Cq (BO d) (dpz d))) (S:=S3) AO (xs:=ds) (acc:=[]) (os:=[none]) rfl (AI (by have:=w.d20;simp;lia)) (by
  intro x hx os ho
  obtain⟨o,rfl⟩:=J3 ho
  have e:=US (S:=S3) (w.dd x hx)
  exact⟨[Gc x.d],rfl,by simp,by simp[e]⟩)
 simp only[v7]at e3 e4
 obtain⟨h1,h2⟩:=QB (Uq (t:=t) (ls:=ls) (ds:=ds))
 have h3:=XB (t:=t) (ls:=ls) (ds:=ds)
 have h4:=Zu (t:=t) (ls:=ls) (ds:=ds)
 have ll:(D.lst (ds.map λd=>D.str (Cq (BO d) (dpz d)))).lay=true:=Hm λd _=>W8 (Pw (Ky.2.2 d))
 have l1:KI (D.lst (ds.map λd=>D.str (Cq (BO d) (dpz d)))) (D.lst (ds.map λd=>D.str (Cq (BO d) (dpz d))))=true:=Nt ll (va (qy (n:=1) λe he=>by
  obtain⟨d,_,rfl⟩:=vq.mp he
  exact S9) (by decide))
 have l2:=QI ll
 have ho:(∀r∈t.ho,WrA r)/\0<t.ho.length/\t.ho.length<=10:=w.tr (.ams t.ho) (by simp[trP])
 obtain⟨E',S4,ef,u6,_,rfl,s4⟩:=Hx (gs:=[]) (t:=tNm 6) (b:=amB)
  (I:=λrs E S'=>∃(u6:vi D),(∀d∈rs,∃r,d=aD r/\WrA r)/\E=[x0,x1,x2,x3,Gc (Aa t ls ds),Gc (.str (Eb t ls ds)),u6]/\B5 [] S3 S')
  (λ_ _ _ _=>AO) (ds:=t.ho.map aD++[aD 0,aD q7]) (E:=[x0,x1,x2,x3,Gc (Aa t ls ds),Gc (.str (Eb t ls ds)),x6]) (S:=S3)
  ⟨x6,by
    intro d hd
    simp only[wF,vq,ve,vo,wW]at hd
    rcases hd with⟨r,hr,rfl⟩|rfl|rfl
    .exact⟨r,rfl,ho.1 r hr⟩
    .exact⟨0,rfl,bw.1⟩
    .exact⟨q7,rfl,bw.2⟩,rfl,.refl⟩ (by
    rintro dd rs E T ⟨u6,i0,rfl,i1⟩
    obtain⟨r,rfl,hr⟩:=i0 dd vp
    obtain⟨T2,e,g2⟩:=js (S:=T) (x0:=x0) (x1:=x1) (x2:=x2) (x3:=x3) (x4:=Gc (Aa t ls ds)) (x5:=Gc (.str (Eb t ls ds))) hr
    exact⟨_,_,T2,by simp,e,Gc (aD r),λd hd=>i0 d (vh _ hd),rfl,i1.trans g2⟩)
 have q1:xIf (eOr (eOp (o2 wNe) [AB DB [eV 4],eV 5]) (eOp (o2 wNe) [AB C8 [eV 5],eV 4])) (AU (eC (.bl false))) BX [x0,x1,x2,x3,Gc (Aa t ls ds),Gc (.str (Eb t ls ds)),x6] S=Gc (.nx,[x0,x1,x2,x3,Gc (Aa t ls ds),Gc (.str (Eb t ls ds)),x6],S2):=by
  have rb:dr S2 (Aa t ls ds)=.val (Aa t ls ds):=rfl
  have rf:fz (.val (Aa t ls ds))=Aa t ls ds:=rfl
  generalize Aa t ls ds=B at*
  generalize Eb t ls ds=X at*
  simp[e1,e2,h1,h2,h3,h4,rb,rf]
 have as0:asS (.val (Aa t ls ds))=Gc [t.d,.tup (ls.map Ld.d),.tup (ds.map AN.d)]:=rfl
 have rb:∀T,dr T (Aa t ls ds)=.val (Aa t ls ds):=λ_=>rfl
 have q2:xIf (eOp (o2 wNe) [As [] 1 (C7 (eIx (eV 4) (eI 2))) (tNm 0) Ai (AB BA [eV 0]),As [] 1 (C7 (eIx (eV 4) (eI 2))) (tNm 0) Ai (AB Ac [eV 0])]) (AU (eC (.bl false))) BX [x0,x1,x2,x3,Gc (Aa t ls ds),Gc (.str (Eb t ls ds)),x6] S2=Gc (.nx,[x0,x1,x2,x3,Gc (Aa t ls ds),Gc (.str (Eb t ls ds)),x6],S3):=by
  generalize Aa t ls ds=B at*
  generalize Eb t ls ds=X at*
  generalize (ds.map λd=>D.str (Cq (BO d) (dpz d)))=L at*
  generalize ds.map AN.d=DD at*
  generalize ls.map Ld.d=LL at*
  generalize t.d=TT at*
  simp[as0,rb,Vn,e3,e4,l1,l2]
 have q3:Ml (C7 (eOp (o2 BF) [eIx (eIx (eV 4) (eI 0)) (eI 3),Bh [Bh [eI 0,eI 1],Bh [eOp (o2 VY) [eI 10,eI 39],eI 7]]])) (tNm 6) amB [x0,x1,x2,x3,Gc (Aa t ls ds),Gc (.str (Eb t ls ds)),x6] S3=Gc (.nx,[x0,x1,x2,x3,Gc (Aa t ls ds),Gc (.str (Eb t ls ds)),u6],S4):=by
  have z0:aD 0=.tup [.int 0,.int 1]:=rfl
  have z7:aD q7=.tup [.int (10^39),.int 7]:=by
   show D.tup [.int q7.num,.int (q7.den:Int)]=_
   rw[UZ.1,UZ.2]
   rfl
  have p39:(10:Int)^39=1000000000000000000000000000000000000000:=by decide+kernel
  rw[z0,z7,p39]at ef
  have as1:asS (.val t.d)=Gc [.int t.p,.int t.k,.int t.b,.tup (t.ho.map aD),.int t.h,.int t.l]:=rfl
  have dt:∀T,dr T t.d=.val t.d:=λ_=>rfl
  have lz:(t.ho.map aD).length+2<=sizeLine:=AI (by simp;lia)
  have lz2:(t.ho.map aD).length+(1+1)<=sizeLine:=lz
  generalize Aa t ls ds=B at*
  generalize Eb t ls ds=X at*
  generalize ls.map Ld.d=LL at*
  generalize t.ho.map aD=HO at*
  generalize t.d=TT at*
  simp[as0,rb,as1,dt,lz,lz2,ef]
 refine⟨Gc (.str (Eb t ls ds)),u6,S4,?_,((s1.trans s2).trans s3).trans s4⟩
 have q0:A6 5 (AB Bm [eV 4]) [x0,x1,x2,x3,Gc (Aa t ls ds),x5,x6] S=Gc (.nx,[x0,x1,x2,x3,Gc (Aa t ls ds),Gc (.str (Eb t ls ds)),x6],S):=by
  generalize Aa t ls ds=B at*
  generalize Eb t ls ds=X at*
  simp[e0]
 unfold bkB
 rw[LJ,q0,An,Lr,LJ,q1,An,Lr,LJ,q2,An,Lr,q3]
end
end Mi
end
noncomputable section
namespace Mi
open PySem PySem.Spec L2 PySem.NumText
def mM:=AM (A6 2 (AB Ij [AB DK [eV 0,eV 1]])) (AM (A6 3 (AB Ci [eV 2,eI 12])) (Ml (C7 (Bh [eV 3,AB Fy [eV 3],Bh [Bh [eI 1,eI 1,eI 1,Bh [Bh [eI 1,eI 1]],eI 0,eI 0],Bh [],Bh []],AB Ci [eV 2,eI 4]])) (tNm 4) bkB))
def kG{S:Sto}{ns:Wp Int}{k:Nat}{o2 o3 o4 o5 o6:vi D}:∃u2 u3 u4 u5 u6 S',mM [Gc (.scr ns),Gc (.int k),o2,o3,o4,o5,o6] S=Gc (.nx,[Gc (.scr ns),Gc (.int k),u2,u3,u4,u5,u6],S'):=by
 obtain⟨c,e0⟩:=gT (S:=S) (ns:=ns) (k:=k)
 obtain⟨p,S1,e1,hp,_,_⟩:=ja (S:=S) c
 obtain⟨t,ls,ds,S2,e2,hd,hp2⟩:=drawn (M:=12) (by decide) hp
 obtain⟨t',ls',ds',S3,e3,hn,s3⟩:=Ti (S:=S2) hd
 obtain⟨t'',ls'',ds'',S4,e4,hd4,_⟩:=drawn (M:=4) (by decide) (hp2.keep s3)
 obtain⟨a5,a6,T1,f1,_⟩:=UR (S:=S4) (x0:=Gc (.scr ns)) (x1:=Gc (.int k)) (x2:=Gc (.ref p)) (x3:=Gc (Aa t ls ds)) (x5:=o5) (x6:=o6) hd.gb
 obtain⟨b5,b6,T2,f2,_⟩:=UR (S:=T1) (x0:=Gc (.scr ns)) (x1:=Gc (.int k)) (x2:=Gc (.ref p)) (x3:=Gc (Aa t ls ds)) (x5:=a5) (x6:=a6) hn
 obtain⟨c5,c6,T3,f3,_⟩:=UR (S:=T2) (x0:=Gc (.scr ns)) (x1:=Gc (.int k)) (x2:=Gc (.ref p)) (x3:=Gc (Aa t ls ds)) (x5:=b5) (x6:=b6) Ym
 obtain⟨d5,d6,T4,f4,_⟩:=UR (S:=T3) (x0:=Gc (.scr ns)) (x1:=Gc (.int k)) (x2:=Gc (.ref p)) (x3:=Gc (Aa t ls ds)) (x5:=c5) (x6:=c6) hd4.gb
 refine⟨Gc (.ref p),Gc (Aa t ls ds),Gc (Aa t'' ls'' ds''),d5,d6,T4,?_⟩
 have e2':Ci [.ref p,.int 12] S1=Gc (Aa t ls ds,S2):=e2
 have e4':Ci [.ref p,.int 4] S3=Gc (Aa t'' ls'' ds'',S4):=e4
 have cb:Aa tr1 [] []=.tup [.tup [.int 1,.int 1,.int 1,.tup [.tup [.int 1,.int 1]],.int 0,.int 0],.tup [],.tup []]:=rfl
 rw[cb]at f3
 generalize Aa t ls ds=B1 at*
 generalize Aa t' ls' ds'=B2 at*
 generalize Aa t'' ls'' ds''=B3 at*
 generalize hBK:bkB=BK at*
 simp[mM,hBK,e0,e1,e2',e3,e4',Es,H0,f1,f2,f3,f4]
def k6(ns:Wp Int)(h:ns.length<=63):∃S',SY [.scr ns] []=Gc (.bl true,S'):=by
 obtain⟨n,hn,hn2⟩:∃n:Nat,(if(if(3:Int)<ns.length then(3:Int)else ns.length)>1 then(if(3:Int)<ns.length then(3:Int)else ns.length)else 1)=(n:Int)/\n<=3:=by
  refine⟨(if(if(3:Int)<ns.length then(3:Int)else ns.length)>1 then(if(3:Int)<ns.length then(3:Int)else ns.length)else 1).toNat,?_,?_⟩
  .split<;>split<;>lia
  .split<;>split<;>lia
 have rn:Lg (n:Int)=true:=Fp (by lia) (by lia)
 obtain⟨E',S',ef,q1,q2,q3,q4,q5,q6,_,rfl⟩:=Hx (gs:=[]) (t:=tNm 1) (b:=mM)
  (I:=λrs E S'=>∃(o1 o2 o3 o4 o5 o6:vi D),(∀d∈rs,∃k:Nat,d=.int k)/\E=[Gc (.scr ns),o1,o2,o3,o4,o5,o6])
  (λ_ _ _ _=>AO) (ds:=OX 0 n) (E:=[Gc (.scr ns),none,none,none,none,none,none]) (S:=[])
  ⟨none,none,none,none,none,none,by
    intro d hd
    obtain⟨k,_,rfl⟩:=vq.mp hd
    exact⟨k,by simp⟩,rfl⟩ (by
    rintro dd rs E T ⟨o1,o2,o3,o4,o5,o6,i1,rfl⟩
    obtain⟨k,rfl⟩:=i1 dd vp
    obtain⟨u2,u3,u4,u5,u6,T2,e⟩:=kG (S:=T) (ns:=ns) (k:=k) (o2:=o2) (o3:=o3) (o4:=o4) (o5:=o5) (o6:=o6)
    exact⟨_,_,T2,by simp,e,Gc (.int k),u2,u3,u4,u5,u6,λd hd=>i1 d (vh _ hd),rfl⟩)
 refine⟨S',?_⟩
 have eb:Xe=AM (Ml (Ts [eOp (o2 m9) [eI 1,eOp (o2 iT) [eOp (o1 FI) [eV 0],eI 3]]]) (tNm 1) mM) (AU (eC (.bl true))):=rfl
 unfold SY
 rw[eb]
 generalize hOB:mM=OB at*
 simp[hn,rn,ef]
end Mi
end
noncomputable section
namespace Mi
open PySem PySem.Spec L2
def lM{K:vZ}{h:xZ}{mg:Str->vi vm}{xs:Wp Str}{y:Str}{C':vy}(X:K.In h)(G:h.Ns mainGlobals mg)(e:xn K mainGlobals y=Gc (Gc (.ref C')))(t:∀x∈xs,∃C b,xn K mainGlobals x=Gc (Gc (.ref C))/\AAB K (.ref C) (.ref C')=Gc b/\(x==y)=b):XmD K mg xs y:=pI X G e λx hx=>by
 obtain⟨C,b,h1,h2,h3⟩:=t x hx
 exact⟨C,h1,by rw[h3];exact h2⟩
def je{K:vZ}{xs:Wp Str}{x y:Str}{C C':vy}{b:xD}(h1:xn K mainGlobals x=Gc (Gc (.ref C)))(h2:AAB K (.ref C) (.ref C')=Gc b)(h3:(x==y)=b)(t:∀z∈xs,∃C b,xn K mainGlobals z=Gc (Gc (.ref C))/\AAB K (.ref C) (.ref C')=Gc b/\(z==y)=b):∀z∈x::xs,∃C b,xn K mainGlobals z=Gc (Gc (.ref C))/\AAB K (.ref C) (.ref C')=Gc b/\(z==y)=b:=λz m=>by
 rcases ve.mp m with e|m
 .rw[e];exact⟨C,b,h1,h2,h3⟩
 .exact t z m
section
variable{P:xK}{w:xy}{K:vZ}{mg:Str->vi vm}{base:xZ}
def Hf:Ak ["_law_script","_law_k","_law_pen_here","_law_book_here","_law_one","_law_text","_law_amount"] ["_law_script"] (AE HV):=scM
def Vo:AJ ["_law_script","_law_k","_law_pen_here","_law_book_here","_law_one","_law_text","_law_amount"] (AE HV) ["_law_deed_here"] (ixC [] 1) (Gm HV 0):=csM
def VS:(["_law_deed_here"]:Wp Str).Nodup:=by decide+kernel
def VD:AJ ["_law_script","_law_k","_law_pen_here","_law_book_here","_law_one","_law_text","_law_amount"] (AE HV) ["_law_deed_here"] (ixC [] 1) (Gm HV 1):=csM
def Ve:(["_law_deed_here"]:Wp Str).Nodup:=by decide+kernel
def jR{f:vy}{fd:AAc}(F:Fun K "law" "law" HV f fd)(T:All w K mg):OO P w K mg base CX0 17 f fd ["_law_script"] (spD K 1 SY):=by
 have B:=T.bt
 have CN:=CN P base T
 have DJ:=DJ P base T
 have IJ:=IJ P base T
 have He:=He P base T
 have OU:=OU P base T
 have Ht:=Ht P base T
 have Jh:=Jh P base T
 have L4:=L4 P base T
 have CF:=CF P base T
 have GP:=GP P base T
 refine k8 (k:=16) F Hf rfl λcdv A outer s H E hr=>?_
 have hu:=TY hr
 exact(AW (U8 AAT rfl (YI rfl B.range (AD (Ck (Yo rfl) rfl B.max boot_max (AD AX (AD (Ck (ZD rfl) rfl B.min boot_min (AD (Ck HQ rfl B.len AC2 (AD (AG 0) AF)) (AD AX AF))) AF))) AF)) (CZ 1 Hf.nd) (AW (Fd 2 (deM OU hr (AD (deM Ht hr (AD (AG 0) (AD (AG 1) AF))) AF)) Hf.nd)
      (AW (Fd 3 (deM Jh hr (AD (AG 2) (AD AX AF))) Hf.nd)
      (AZ (U8 AAT rfl (Ed (Gn (AD (AG 3) (AD (deM L4 hr (AD (AG 3) AF)) (AD (Gn (AD (Gn (AD AX (AD AX (AD AX (AD (Gn (AD (Gn (AD AX (AD AX AF))) AF)) (AD AX (AD AX AF))))))) (AD (Gn AF) (AD (Gn AF) AF)))) (AD (deM Jh hr (AD (AG 2) (AD AX AF))) AF)))))) (CZ 4 Hf.nd) (AW (Fd 5 (deM GP hr (AD (AG 4) AF)) Hf.nd)
      (AW (JT (DW.dt (Vf (Ec (MB hu) (deM IJ hr (AD (AG 4) AF)) (AG 5)) (Ov (Ec (MB hu) (deM He hr (AD (AG 5) AF)) (AG 4))))) (AZ (A7 RM)) Cw)
      (AW (JT (Ec (MB hu) (DP [] 1 ["_law_deed_here"] rfl Vo (Ed (FN Mh (AG 4) AX)) (λs H fp=>⟨CZ 0 VS,DL,deM DJ hr (AD (AG 0) AF)⟩)) (DP [] 1 ["_law_deed_here"] rfl VD (Ed (FN Mh (AG 4) AX)) (λs H fp=>⟨CZ 0 Ve,DL,deM CF hr (AD (AG 0) AF)⟩))) (AZ (A7 RM)) Cw)
      (AZ (U8 AAT rfl (Ed (Dt Br (FN Mh (FN Mh (AG 4) AX) AX) (Gn (AD (Gn (AD AX (AD AX AF))) (AD (Gn (AD (Dt Pq AX AX) (AD AX AF))) AF))))) (CZ 6 Hf.nd) (AZ (JT (Ec (MB hu) (deM CN hr (AD (AG 6) AF)) (Dt Br (Dt Br (Cf D4 rfl B.str AAj (AD (FN Mh (AG 6) AX) AF)) B9) (Cf D4 rfl B.str AAj (AD (FN Mh (AG 6) AX) AF)))) (AZ (A7 RM)) Cw))))))))))))
      (AZ (A7 RM)))
def jH{l:AA1}{fa:vy}(hfa:mg "law"=Gc (.ref fa))(T:All w K mg):∃fd:AAc,(∀(s:vw) (v:vm),BindsTo s fd ⟨[v],[]⟩ [("_law_script",v)])/\∀base:xZ,K.In base->base.Ns mainGlobals mg->OO l.prog w K mg base CX0 17 fa fd ["_law_script"] (gn K):=by
 obtain⟨f,fd,F,hm⟩:=T.HV.ex
 have e:=hfa.symm.trans hm
 cases e
 refine⟨fd,λs v=>?_,λbase _ _=>?_⟩
 .obtain⟨oc,od,kV,doc,pm,an,cdv,ct,osl,hfd,_⟩:=F.ex
  subst hfd
  exact .of_eq rfl
 .exact jM (jR (P:=l.prog) (w:=w) (base:=base) F T) λns hl=>k6 ns hl
end
def walk{l:AA1}{q:xK}{loose:Wp Str}{XP:(Str->vi vm)->xZ->Prop}{YP:xy->xZ->Prop}{d:DefRec}{K:Params->vZ}(hn:l.most=Gc 63)(hdf:d.params.defaults=[])(hY:∀(w:xy) (h:xZ),YP w h->(K w.params).In h)(hd:d.name="law")(F:∀(w:xy) (mg:Str->vi vm) (h:xZ),(K w.params).In h->h.Ns mainGlobals mg->All w (K w.params) mg):PySem.W.WalkO q loose XP YP l.row.toRowW d [] (λf vs=>PySem.call f vs):=
 L2.gS (n:=63) (k:=17) (x:="_law_script") (CX:=λ_=>CX0) (sp:=λw=>gn (K w.params)) hn (by decide) hdf ⟨rfl,by decide,by decide⟩ hY (λw mg fa h KX G hmg=>jH (by rw[<-hd];exact hmg) (F w mg h KX G)) (λ_ _ a ns hl _ hS=>⟨a,ns,rfl,hS,hl,λ_=>rfl⟩) λ_ _ _ _ _ z=>z
end Mi
end
noncomputable section
structure PySem.W.Fast:Prop where
 (tw3026386138844349366 tw17777947376542117473 tw11364888769352147845 tw6572956958216642313 tw5250043890536685281 tw16287902234333091100 tw14034978969046309875 tw8491950997892286550 tw839795243097633141 tw4059739798055984548 tw16879691667038816295 tw2119772981858650226 tw14094567537908956586 tw8758430150313377454 tw13617182218699113097 tw3461401174596547303 tw1075367685889411588 tw15450996059582299585 tw16660587981050447098 tw10885614492897485213 tw4299979982288538010 tw13337213167830856240 tw3031897279756057927 tw15529663422971403989 tw13032748568713756600 tw1352214062501586004 tw1532056690946358630 tw4367500145396320545 tw13760887672645932692 tw10187764962684693933 tw7714079031923543883 tw12050531358363772126 tw11077668394728435362 tw5324582432291981176 tw15258757483658572923 tw9340557607535111532 tw7217668647119123634 tw4389284395317132876 tw2119740222187427458 tw4274496474462258693 tw17961334783338263249 tw10163823255297340417 tw3879063257767183605 tw7417227899222591377 tw13142029673688284194 tw6550168602102127604 tw512607616502615455 tw17574577111633518538 tw12530861072459094988 tw12243227880188475671 tw14460353470854977423 tw12788056563247351191 tw10864118394179672117 tw3984259720678371128 tw4361552740176918300 tw9411762784815989498 tw4201930144983284477 tw18261032296956658881 tw1541872538417861710 tw8715073915030680269 tw10806147171238753978 tw2346609679812312784 tw443523213977667116 tw5626077504351564494 tw9152121210224000994 tw11600832495153158785 tw5506348713475865036 tw12626901859564802436 tw2099790084889208541 tw2352567094889467840 tw5894662901873939773 tw8120949296018406041 tw8338835444399416965 tw9202908778324161796 tw3016557511470928104 tw16499093702210967438 tw15360088483048363405 tw15433061811127939606 tw16191498580310377578 tw3414801003211895776 tw11904827783566600243 tw15268331279409262663 tw6168875042857115600 tw1770795142878173012 tw1251805936273272955 tw12168719962853876886 tw13159297670161639447 tw10131280280449141253 tw12004336463933582608 tw2463336271292421726 tw15199211111207323762 tw12139087333734590584 tw5614718331618033478 tw15033803985543469740 tw776487335426851921 tw11514117473473133291 tw13352059364040896350 tw6083099782552069884 tw16250210533377698715 tw3379037212469682000 tw3996435460734424763 tw11285834795136530154 tw3867838539562164540 tw10381785739140084441 tw9142347381731877978 tw3775872530665801793 tw5113150612299003069 tw2757430027981535732 tw7611241809352443930 tw18183092507590165357 tw427591405469641391 tw3838398381845209796 tw10624569972922837786 tw1587659966664155266 tw16482107004649586319 tw15189007263052725721 tw6686562251431641883 tw5605727548694304704 tw3502064279232515348 tw11287248416763542279 tw17137497489502117057 tw16250035788224200177 tw6234414605624497517 tw1755727340895179263 tw5240869180667031336 tw15552054186646368388 tw11010080852087890859 tw15922671762052139036 tw7190066450684800849 tw1215028354055820145 tw697007618692456884 tw8770102150953236680 tw16114903059186267906 tw16844147402928597390
 tw1024894222512622371 tw17643010854880584190 tw3317625730082425466 tw13973556851850554700 tw9204137767888484398 tw17826201810539299973 tw10213980533732795700 tw6055850229755604984 tw11508847685191905423 tw3244364921309685708 tw10276559797236155023 tw6640737698068955583 tw1914604355336872233 tw4709588863068029812 tw908327976260374313 tw11593984848408980333 tw6941665127588752251 tw13525866185893898437 tw2401107888966401627 tw12148857740660228924 tw1582632124509706679 tw11025651694225957413 tw11708876715852049005 tw16496693535311501431 tw287828507346255648 tw10780997750400062108 tw12474373896706383082 tw4910764666873963024 tw16233801676030243295 tw12931922180607444080 tw10822798168932448198 tw9867313944717168835 tw5942212329073440773 tw12582755852146212609 tw8687607197282492928 tw17621130176715337696 tw14926291801445881106 tw6957852691718182226 tw160411866054291907 tw16114497902285314976 tw13371394636332327751 tw15447433129783477964 tw14301891962139156136 tw16049162637827693470 tw17293161680854171941 tw8051242166163956345 tw7178272719536960928 tw1506266257233936896 tw8463975552776342348 tw15671163243802514576 tw2461759146729918795 tw10619109240538484215 tw8759594621501354525 tw7393182017672407591 tw843692843486931955 tw18136813863335741171 tw7541679456786640928 tw8311213575146209661 tw20227995308048478 tw9865247288120586075 tw12515091476094437066 tw14282277277152007844 tw4536198719174769103 tw8891600108071838444 tw10465492368839294032 tw8008747878743425782 tw18238508340679128867 tw18414092338977999006 tw2189881925411860964 tw15961976235431739820 tw15558200993282783911 tw9929057047423102011 tw10443000570864216545 tw10733342540142321011 tw9265953827224241156 tw6663409784210144651 tw11440123356830548127 tw13585782396392540465 tw15722602107139661882 tw17242043057813241793 tw1226039950984746596 tw64961101764036748 tw6323481398522813046 tw9150754176529475768 tw6145489213856051289 tw4797492904214459287 tw11999998403870269004 tw13087181542138038869 tw2327986769661852995 tw1564908217499798001 tw7572772021690379153 tw14799564878936962912 tw12518274777694763064 tw16263791644384828284 tw9225210004343077124 tw1105052217559917222 tw9358050570738369996 tw15920593173979759235 tw11620709618751432363 tw553830779246816083 tw12334708332688373054 tw12972817429697581460 tw12759673533346419349 tw18178712407658273314 tw2260716642240200159 tw7348687561881349439 tw6817586149250371117 tw10627740908630877268 tw10988984398502969916 tw12936540640410333709 tw11708130239304882323 tw2918182179542286200 tw14315546910871608192 tw6342375053447805745 tw1858177177665605026 tw3201048524654298812 tw8256952479971916087 tw6772985274981103054 tw9257793308438710245 tw4354687149740607751 tw17247089254864543762 tw3315089483749514818 tw18305205202323205332 tw7053242104628085636 tw4237374519118394020 tw4725222294583154313 tw13173156661934891842 tw1292923187426136054 tw11891122281158131341 tw14330400772345967852 tw14421277148905081130 tw4024616203887281375 tw14745465453736653562 tw3076156576516715451
 tw6264439562287225116 tw10225328515817900731 tw10638620653712555110 tw1175073297514213806 tw3130541748249748900 tw8306992732529597568 tw4805759595933401572 tw13424181784566505943 tw9314825556197343227 tw11019094025728899651 tw4287717863794721382 tw4368680518497641780 tw18070068572408956326 tw12673114569324937507 tw48457581004929399 tw17683191977347107198 tw11420172259264302341 tw6552745373346981086 tw10624717943136065942 tw11768539957386132874 tw319814169831519899 tw18206233184872091278 tw8039046610834069176 tw9115162295423694207 tw9106709784415354892 tw14449202097709898200 tw15235164936205200738 tw9966179502654161401 tw17505956339454709928 tw1285569698003799007 tw16045006677011461793 tw5197877099749377008 tw16657011184896457618 tw6124289227911581237 tw6567238452060772935 tw467681899764903683 tw13093199011249076240 tw1001970456169970719 tw5292487683322707016 tw6736568072186405944 tw9550471009743694949 tw7959394487061012560 tw7185996694863864845 tw8256896112643046722 tw1139880185785207738 tw6827056309743752849 tw8152528410357899731 tw14588819550797694135 tw8508563552162863924 tw10853067240825079619 tw14024187686712782401 tw7459422201812313122 tw15024303368206009389 tw6069930798243223761 tw13962588231187897430 tw5543145186845621217 tw13171080666157611224 tw5556005117017678769 tw5794126366723173555 tw5213005899808251554 tw6626235057923734785 tw3810457266083035533 tw16751510726327342338 tw12524276858043525366 tw8420307541129275626 tw359437343301121249 tw3799458359196716615 tw1465328704494002875 tw1232603694678357021 tw13855697977627178280 tw16616728052814010152 tw3263410275419596881 tw14483648780929420668 tw13646829513393857859 tw3222567695187080995 tw4457600396110826739 tw9638821664373553727 tw18209777573506596257 tw3053048583774471908 tw550066214485988045 tw6526035935481728097 tw12142587430375523008 tw17819359574781301205 tw17801621227559813430 tw5347636779554309044 tw8224259196070228673 tw11790720484988779067 tw2413354457662517989 tw13645405560331022812 tw16129915624957949997 tw15551579665540086655 tw16118423685946808128 tw16705846264036903908 tw6435446135706528571 tw4252694105769704621 tw7988221429513072687 tw12819060543003770566 tw13860822487133837641 tw10638890561547305056 tw4430235727877605311 tw7449496830340465787 tw10863880566026149092 tw18095252207690035565 tw6525220520106393422 tw14782905479637534082 tw4645283677132355133 tw17605904367680670925 tw6431311602943447350 tw10541022271699858737 tw3202179894279203502 tw16314658537195187785 tw11520035525483275192 tw8632318473268522652 tw9167844308962826052 tw14299898888322642540 tw14141677515303544494 tw7849238986547898970 tw6266181201774386669 tw17018833068339993534 tw5093807907913580256 tw6875881428166608606 tw5893209187570295968 tw17045773482915756978 tw2596123179858365330 tw16375250212572045098 tw8467942125638109611 tw6966014297106405911 tw14682556880552185196 tw262383320435915303 tw16402932662655954109 tw15259157476518846275 tw5406465741342714058 tw5109364225397357405 tw17953138508402819172 tw862840891211253266
 tw8442580456373686325 tw5113419872014140773 tw6461656238711242741 tw8071002452065227835 tw9283309284395150787 tw7948213920836646301 tw17280543691652084440 tw6348759245681128926 tw9065509913652073764 tw12242154615872439050 tw12748674483881733662 tw17221546919187756088 tw4025523460337334107 tw16449600933092762743 tw6295133226460496627 tw1733852616188720347 tw10736086163975593736 tw14921836771870092972 tw10060515695252885507 tw7897323110584812937 tw13337387459820132505 tw15366122879370345944 tw18179990898717807124 tw3816055592897372905 tw6485877871835386597 tw16373990962602781168 tw7097123116109245549 tw6975677769617451591 tw3625975991555812223 tw10571667819233997436 tw18427153412178132265 tw11131657498108104006 tw10237946331525301119 tw5700867086341560233 tw18191138500822061705 tw12484480908573410554 tw3770389474943062838 tw3711913469430184606 tw7471722554117812886 tw480028995653478233 tw15751917354046769366 tw7737522466267472596 tw4141933383417338140 tw8293876142979182812 tw1015626837031002319 tw1830872040649025203 tw3550955156006957628 tw1364742059121335642 tw14280474220999730390 tw6708653769673375180 tw9273688171892923759 tw4545039577016922319 tw11100827627453731381 tw7484582929568484547 tw3634372042714780483 tw16147097251907286578 tw5337211793168398877 tw17277151717757586617 tw7125428679607148305 tw16165764291050104115 tw16346799088865349975 tw1627258078718503444 tw3713523197676088360 tw3264533336282212100 tw12941763204076066419 tw7905234069139325432 tw8946120003903652686 tw5888684191504412 tw10168191400127884112 tw11782929598937435105 tw532270629184370785 tw15052180962777664235 tw9611932575000243730 tw786663148005672546 tw1421223011487169748 tw17503879327702429610 tw13172702976957621241 tw2238868432214615059 tw18204151571558416342 tw11635028971712691508 tw4797678603996678641 tw2395003280878884952 tw2795967737574243778 tw12066843426464861231 tw1146576491151777128 tw7734029743113308249 tw4328284062868143503 tw9652873872999751461 tw252811934940265250 tw438132104573368286 tw12388370154030967866 tw5009122175862479220 tw11905261160235046929 tw10653651680559159897 tw5302966634421108988 tw2610877108693695449 tw15537636065895323826 tw15104607453768399153 tw14295671147612033015 tw4601497707604743174 tw10608566511257656759 tw4623429236817827891 tw1285976957648133446 tw622945116604119170 tw14519257754818093315 tw220761907766384445 tw3738784329539945649 tw14312314988791423429 tw15704451753006750214 tw671113052594030155 tw1900568705651171011 tw12326125662015854342 tw3868229323267511333 tw1297905358456343267 tw5822163164377751504 tw4782251754411541731 tw2371228730350542203 tw576087758024535190 tw3252430663786476153 tw8061846588271928197 tw6643529125938681534 tw11886553267960263244 tw9671042043790895166 tw15589418003021130777 tw13928606667910016405 tw15667720681823391316 tw12792610953784183957 tw7788826585163487649 tw13443586334433517281 tw17369930710276806980 tw6204966591673233202 tw16964672356473869484 tw13303429030978334860 tw14761620701601532988 tw5142775271724191455
 tw13434034951781854446 tw18006084800630390429 tw17343733770785480241 tw6109362847583243980 tw9121249311630067794 tw4273161877979674689 tw1849823010650776302 tw16932367767019677421 tw9233653080093793431 tw16261623248005785263 tw7453348991712188837 tw86732164929845813 tw3844935282321918983 tw15357190889018946569 tw17513946221863003767 tw8236825893305401402 tw17970007437452870276 tw1684413003105434153 tw3885245221080641083 tw2527817181205888458 tw16453508412661899467 tw13939531334110262197 tw10427479970970064735 tw1364969002599712567 tw15406726878451498213 tw561777648206730635 tw7853747781869810264 tw8664719531385189098 tw9645316527426151187 tw8272389762274549342 tw14600467743496415579 tw11323355418665067315 tw11468815841083739697 tw15173464820440998951 tw16120415242114693575 tw7464577095107149779 tw2746689921826556952 tw8687563746295342491 tw14613453907543744591 tw10013281220891437629 tw15808001903832355019 tw12515243170919017397 tw17602210592697959614 tw6499485604912197499 tw17738265971360144353 tw13123735429189096775 tw11730305618198617279 tw13228080943546214049 tw14499097480720299537 tw10261377572527739187 tw7801360903215063989 tw12234860655621663232 tw11588310747822931883 tw9060697122384379666 tw6530089074744798385 tw15385516586073885295 tw8299537549397164755 tw12793955898491192588 tw15646458651783422250 tw13463087808670144022 tw1106417828194281662 tw14635404151106806830 tw4190308000930108542 tw3590456639538475701 tw15933506932579228455 tw635943031535203646 tw15169871793358153934 tw2366222388320261406 tw13230909811217344863 tw59583116056744884 tw6826975754120269076 tw6179310404343742866 tw8014333779980988327 tw4977202345547606270 tw9957262198216686370 tw18170129780863469760 tw18083702226505647058 tw1117530419979295143 tw12121149827475612540 tw4475508112380313782 tw3602436149618650753 tw1960093340975410824 tw655339019854844533 tw2802014109334942971 tw16722149806999525937 tw17262776914266695799 tw791021877532325178 tw345007103528933204 tw10569417395284640745 tw16820326815926975915 tw8602388889420220002 tw14912409762174831811 tw15017376426308097389 tw17284299381513333214 tw315960910961773855 tw6731018470695350326 tw2962132433763382642 tw893983988481502815 tw14664255292064939744 tw10095811155445049447 tw4062946003681443864 tw6142095128473371726 tw10239460088111224997 tw1830725688446901137 tw8088603365178445211 tw17579489472862282066 tw3778342262726486397 tw17351104528818865765 tw12449746916944475980 tw16762201530025677642 tw3704556507326623202 tw16547629939106994197 tw16061161684525943480 tw1238556891364782778 tw15525244985608395157 tw7752823485220674393 tw6108833320061547106 tw18436927688932283084 tw16258214080276653875 tw15579854874837020356 tw6660247794754863399 tw11976622880811974273 tw15019222911011380006 tw8955100864051437887 tw12822082833442528897 tw17811187449571118221 tw12341408131281081495 tw15314920867443649446 tw10897090738588981625 tw2250291980057371788 tw67545288569430179 tw13971662338319854337 tw10423248786066708607 tw583932245925466147
 tw12324349769901447230 tw9548419466928367978 tw3713315933880366525 tw10396160682410493657 tw4027187542767697106 tw11583770010180581997 tw6788375151692847646 tw10216545521996262837 tw3889937849267570951 tw15034205417940325603 tw5310086829915211562 tw13056233478587395709 tw15632409485829198674 tw16524722824533099660 tw7198969308750365110 tw18248641056278895765 tw6686631794036307469 tw12436623499524632384 tw9600221247812127366 tw18117087933838859641 tw5156056262329992483 tw4563032211997307844 tw4511561342579516786 tw4506996252112717484:ABE)
open PySem PySem.W PyProof.Rows
local macro_rules| `(tactic|walk_at $s)=>do
 let i (w:yo):Lean.Ident:=Lean.mkIdent w.toName
 let p (f:Lean.Name) (l:yo):AC1 (ACU `tactic):=do
  let hs:=(l.splitOn " ").map λx=>x.splitOn ":"
  let h<-hs.mapM fun
   | [w]=>pure (i w)
   |x=> `(?$(i x.head!))
  hs.foldlM (fun
   |t,[w,c]=> `(tactic|($t;case $(i w):ident=>walk_at $(Lean.Syntax.mkStrLit c)))
   |t,_=>pure t) (<- `(tactic|((try dsimp only[L2.KOf]);refine' $(AAi (Lean.mkIdent f) h.toArray))))
 match s.getString with
 | "t"=> `(tactic|repeat' first|exact Mi.iC|exact Mi.iB|exact Mi.mK|exact Mi.eW|exact Paired.nil|refine' Paired.cons ⟨⟨_,rfl⟩,?_⟩ ?_|refine' Paired.cons ?_ ?_|(refine' Mi.gQ ?l ?z ?_;(case l=>k_is);(case z=>decide)))
 | "k"=>p `Mi.jr "KX G e:K r:t"
 | "h"=> `(tactic|repeat (first|exact ABT|refine' And.intro ⟨_,_,rfl,rfl⟩ ?_))
 | "p"=>p `Mi.gO "KX G e:K l:K hk:h hne:D hp:t"
 | "f"=>p `Mi.fE "KX G e:K l:K hk:h hne:D hp:q"
 | "q"=> `(tactic|((repeat (refine' Paired.cons ⟨⟨_,rfl⟩,_,rfl,?q⟩ ?_;(case q=>k_is)));exact Paired.nil))
 | "x"=> `(tactic|(dsimp only[L2.KOf];refine' Mi.pW $(i "KX") $(i "G") ?e ?q;(case e=>k_is);(case q=>k_exc)))
 | "m"=>p `Mi.lM "KX G e:K t:M"
 | "M"=> `(tactic|((repeat (refine' Mi.je ?a ?b ?c ?_;(case a=>k_is);(case b=>kts_exm);(case c=>decide)));exact Mi.all_nil))
 | "z"=>p `PySem.W.mg_none_of "KX G z:K"
 | "a"=>p `Mi.tat_mk "t1:K t2:K t3:R t4:K t5:R t6:R t7:R t8:R t9:R u1:R u2:R u3:D"
 | "K"=> `(tactic|k_is)
 | "D"=> `(tactic|decide)
 | "R"=> `(tactic|rfl)
 |w=> `(tactic|case $(i w):ident=>k_is)
set_option maxRecDepth 100000 in
set_option maxHeartbeats 0 in
theorem PySem.Challenge.cw_sharetrail_k77_books_written_and_read_holds : PySem.Challenge.rw_sharetrail_k77_books_written_and_read.Holds := by
 w_on;o_law;k_head;(case hw=>w_witness2)
 k_fill
 refine Mi.walk (l:=PySem.Challenge.rw_sharetrail_k77_books_written_and_read) rfl rfl (λw h Y=>PySem.W.kIn_of Y) rfl ?F
 case F=>
  intro w mg h KX G
  have ko:Mi.PV (L2.KOf KX) mg "ALL" Mi.Po:=by walk_at "k"
  have F5:Mi.PV (L2.KOf KX) mg "LOAD_FORM" Mi.Cz:=by walk_at "k"
  have Ua:Mi.PV (L2.KOf KX) mg "MAKERS" Mi.EB:=by walk_at "k"
  have L7:Mi.PV (L2.KOf KX) mg "MOST_DEEDS" Mi.GZ:=by walk_at "k"
  have L9:Mi.PV (L2.KOf KX) mg "MOST_FIRST" Mi.BD:=by walk_at "k"
  have K7:Mi.PV (L2.KOf KX) mg "MOST_THROWS" Mi.Fg:=by walk_at "k"
  have R7:Mi.PV (L2.KOf KX) mg "NOTHING" Mi.GV:=by walk_at "k"
  have FG:Mi.PV (L2.KOf KX) mg "TRAIN_FORM" Mi.Cr:=by walk_at "k"
  have Kw:Mi.PV (L2.KOf KX) mg "UNLIKE" Mi.CB:=by walk_at "k"
  have Ep:Mi.lF (L2.KOf KX) w mg "FORMS" Mi.Ao:=by walk_at "p"
  have TB:Mi.nk w (L2.KOf KX) mg "PARTS" [("partner","is_partner"),("kind","is_kind"),("load","is_load_number"),("number","is_trade_number"),("pieces","are_pieces"),("worths","are_worths"),("share","is_sold_share")]:=by walk_at "f"
  have RU:Mi.XcD (L2.KOf KX) mg "TooMany":=by walk_at "x"
  have JM:Mi.XmD (L2.KOf KX) mg ["TooMany"] "TooMany":=by walk_at "m"
  have z_abs:mg "abs"=none:=by walk_at "z"
  have z_all:mg "all"=none:=by walk_at "z"
  have z_any:mg "any"=none:=by walk_at "z"
  have z_bool:mg "bool"=none:=by walk_at "z"
  have z_divmod:mg "divmod"=none:=by walk_at "z"
  have z_enumerate:mg "enumerate"=none:=by walk_at "z"
  have z_int:mg "int"=none:=by walk_at "z"
  have z_isinstance:mg "isinstance"=none:=by walk_at "z"
  have z_len:mg "len"=none:=by walk_at "z"
  have z_list:mg "list"=none:=by walk_at "z"
  have z_max:mg "max"=none:=by walk_at "z"
  have z_min:mg "min"=none:=by walk_at "z"
  have z_range:mg "range"=none:=by walk_at "z"
  have z_sorted:mg "sorted"=none:=by walk_at "z"
  have z_str:mg "str"=none:=by walk_at "z"
  have z_sum:mg "sum"=none:=by walk_at "z"
  have z_tuple:mg "tuple"=none:=by walk_at "z"
  have z_zip:mg "zip"=none:=by walk_at "z"
  refine⟨⟨z_abs,z_all,z_any,z_bool,z_divmod,z_enumerate,z_int,z_isinstance,z_len,z_list,z_max,z_min,z_range,z_sorted,z_str,z_sum,z_tuple,z_zip⟩,ko,F5,Ua,L7,L9,K7,R7,FG,Kw,Ep,TB,RU,JM,?_,?_,?_,?_,?_,?_,?_,?_,?_,?_,?_,?_,?_,?_,?_,?_,?_,?_,?_,?_,?_,?_,?_,?_,?_,?_,?_,?_,?_,?_,?_,?_,?_,?_,?_,?_,?_,?_,?_,?_,?_,?_,?_,?_,?_,?_,?_,?_,?_,?_,?_,?_,?_,?_,?_,?_,?_,?_,?_,?_,?_,?_,?_,?_,?_,?_,?_,?_,?_,?_,?_,?_,?_,?_,?_,?_,?_,?_,?_,?_,?_,?_,?_,?_,?_,?_,?_,?_,?_,?_,?_,?_,?_,?_,?_,?_,?_,?_,?_,?_,?_,?_,?_,?_,?_,?_,?_,?_⟩
  all_goals (refine' Mi.jZ KX G ?a ?l ?c ?k;(case a=>k_is);(case l=>k_is);(case c=>k_is);(case k=>k_is))
end
