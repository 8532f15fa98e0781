import PyProof.Rows.All
import Wide.All
import OpenK.AllK
import Wide.FinOn
import Lean
import PyProof.EqAt
import PyProof.EqKinds
import PyProof.TupleCall
import PyProof.Draws
import PyProof.EnumMake
import PyProof.EnumFor
import PyProof.ZipIter
import PyProof.FactsAll.dict_1
import PyProof.ListMulRoad
import PyProof.NeData
import PyProof.SumWalkG
import PyProof.ListRange
import PySem.Challenge.RW_sharetrail_k38_bearings_looked_at
set_option Elab.async false
set_option linter.all false
set_option maxRecDepth 100000
set_option exponentiation.threshold 10000
set_option maxHeartbeats 4000000
open _root_ renaming List->Gc,Option->uD,of_decide_eq_true->uW,if_pos->vD,Bool->vE,if_neg->vH,Array->vQ,or_false->vV,decide_eq_true->wg,False->wk,String->xA,decide_eq_false->xJ,decide_eq_true_eq->xR,if_true->ya,if_false->zP,not_or->AAt,beq_eq_false_iff_ne->AA7,beq_iff_eq->ABO
open Array renaming length_toList->y8
open Bool renaming and_eq_true->uT,false_ne_true->vS,or_eq_true->vf,noConfusion->wX,false_and->AAl,and_false->AAp,false_eq_true->ABP
open False renaming elim->wC
open ForInStep renaming yield->yy
open Int renaming toNat_of_nonneg->vP,mul_pos->vj,natAbs_natCast->wY,emod_nonneg->xM,natAbs_mul->xX,emod_lt_of_pos->xi,toNat_natCast->xp,eq_ofNat_of_zero_le->yT,mul_nonneg->yk,mul_le_mul->yl,mul_le_mul_of_nonneg_right->yr,lt_of_lt_of_le->zb,le_refl->zm,mul_ediv_cancel_left->zt,pow_succ->AAU,natCast_mul->AAZ
open List renaming getElem?_eq_getElem->W1,getElem?_append_left->uH,mem_cons->uI,mem_cons_of_mem->uJ,getElem?_set_ne->uK,getElem?_eq_some_iff->uL,getD_eq_getElem?_getD->uM,mem_cons_self->uP,getElem?_map->uQ,getElem?_set_self->uS,range->uU,size_toArray->uV,not_mem_nil->uX,mem_of_getElem?->uY,getElem?_concat_length->ua,mem_append->ub,replicate->uc,map_cons->ui,mem_map->uk,mem_singleton->uo,filterMap_cons->ur,drop_eq_getElem_cons->uy,nil_append->uz,getElem?_append_right->vI,length_cons->vJ,cons_append->vK,length_map->vL,mem_append_right->vR,drop_eq_nil_of_le->vX,map_map->vZ,length_append->vd,prefix_rfl->vg,of_mem_zip->vx,map_nil->vy,lookup_cons->vz,getElem_mem->v3,append_nil->wJ,replicate_succ->wQ,map_append->wU,sum_cons->wZ,mem_filter->wm,nodup_cons->wq,length_set->wt,all_cons->wy,any_cons->w6,mem_iff_getElem?->xF,length_filter_le->xG,getElem?_eq_none_iff->xH,mem_or_eq_of_mem_set->xI,flatten_cons->xN,length->xf,prefix_append->xh,map_set->yC,getElem?_zip_eq_some->yE,getElem?_range->yG,length_filterMap_le->yK,length_nil->yN,lookup_append->yO,append_assoc->yb,take_of_length_le->yc,length_range->yd,getElem?_inj->ye,nodup_append->yf,mem_range'_1->yj,length_take->yp,mem_append_left->yu,getElem?_zipWith_eq_some->yx,zipWith->zF,mem_range->zI,mem_filterMap->zK,mapM_cons->zX,ext_getElem?->zl,map_take->zu,getElem?_replicate->zx,length_drop->z0,any_eq_true->AAB,range_succ_eq_map->AAN,all_map->AAO,forIn_cons->AAX,range_succ->AAc,length_singleton->AAg,set_append_right->AAh,getElem?_eq_none->AAi,forIn_nil->AAr,drop_eq_nil_iff->AAw,set_append_left->AA1,length_pos_iff->ABB,foldl->ABN,zip_cons_cons->ABS,getElem_range->ABU
open List.MergeSort.Internal renaming splitInTwo->ABT
open Nat renaming lt_of_lt_of_le->uG,le_refl->uN,le_trans->uO,pow_le_pow_right->um,mul_le_mul_right->vA,ne_of_lt->vB,lt_of_le_of_lt->vT,le_succ_of_le->vc,lt_irrefl->vw,zero_le->wR,mul_comm->xO,lt_or_ge->xQ,le_of_succ_le->xq,mul_pos->x8,pos_of_ne_zero->yQ,mul_assoc->yt,le_of_lt->zA,gcd->zE,mul_le_mul->zY,one_lt_two_pow->zZ,add_comm->AAM,zero_add->AAR,gcd_comm->AAS,pow_succ->AAT,not_lt_zero->AAb,pow_lt_pow_right->AA2
open Ne renaming symm->wI
open Option renaming some->Fk,none->uC,bind_some->yA,map->yP
open Option.some renaming inj->vY
open PyProof.Rows renaming slot_tuple_getitem->uw,boot_isinstance->vO,boot_tuple->vU,envOfC->vW,callWith_type1->wL,boot_list->xZ,IntsAre->yJ,AllBare->yR,entry_tuple_getitem->y9,assignInOrder_cons->zJ,slicePart_none->zQ,args_tuple_getitem->zR,boot_int->AAA,subscriptTail_builtinR->AAK,Subscript_->AAj,boot_bool->AA6,tupleItemsOf_->ABG
open PyProof.Rows.IsTup renaming new->xS
open PySem renaming Value->Wp,wpAny_bind->tz,Shared->uE,Addr->uF,wpAny_pure->uR,starEach->ue,Program->ug,Expr->uh,Heap->ux,Stmt->vC,Around->vF,World->vG,mem_of_lookup->vN,Scope->vn,wpAny_newObj_type->vp,wpAny_callSpecial?_slot->vq,wpAny_Call_Name_kw->vt,wpAny_mono->wB,wpAny_field->wD,Env->wF,wpAny_call_entry->wK,wpAny_holding->wM,wpAny_pyIter_list->wN,FuncData->wV,wpAny_pyIter_tuple->wW,ExceptHandler->wc,boot_len->wj,call_meets->wu,wpAny_setField_rec->xE,wpAny_passesOwn->xK,IsPair->xT,wpAny_execs_cons->xV,wpAny_getItem_str_slice->xW,NameKind->xk,wpAny_truthy_bool->xo,Builtin->xr,typeIs_int->xv,wpAny_seqItems->xw,wpAny_binaryOp_repeat_ref->yD,wpAny_standAt->yH,wpAny_execs_nil->yM,wpAny_pyNext_list_item->yV,wpAny_pyNext_list_end->ym,wpAny_updateSeq_pair->yw,post_val_or_str->y7,Arguments->zH,wpAny_newFunctionEnv_cells->zO,typeIs_str->zT,IsZip->zU,Data->zV,Keyword->zf,wpAny_sequenceKey->zg,wpAny_comprehension_free->zo,wpAny_onRaise->zp,noFill_tuple_add->zy,wpAny_rule->AAF,wpAny_call->AAG,codeAny_mono->AAH,IsPart->AAI,wpAny_typeOf->AAJ,wpAny_pyIter_listiter->AAd,codeAny_call_function->AAe,wpAny_Expr_any->AAk,intBits_le_iff->AAv,wpAny_newFunctionEnv->AAz,seq_tuple_add->ABF,evalPart_none->ABH
open PySem.Around renaming frames_deeper->AAn
open PySem.AutoSeq1 renaming wpAny_loadPart'->uj
open PySem.Builtin.List renaming listTooLong->wG
open PySem.Builtin.Slice renaming slicePlaces->vb,sliceAdjust->v5,sliceApplied->xC,sliceFields->zc
open PySem.Builtin.SmallTypes renaming nextOf->vM,ownedTupleIsFree->wH,ownedTupleHandOut->yF
open PySem.Builtin.Str renaming tooLong->ABC
open PySem.Builtin.Tuple renaming tupleExact->ve,tupleItemsOf->xu,tupleTooMany->zW
open PySem.Calls renaming Name_function_global->xt,spliced_cons->yX,spliced_nil->yn,loadGlobal_global->zw,callWith_builtin->AAL,evalArgs_plain->AAo
open PySem.Challenge renaming pw_sharetrail_k38_bearings_looked_at->zD
open PySem.F renaming slot_list_append->uq,type_list_append->uv,slot_tuple_iterator_next->xD,slot_str_getitem->xU,slot_int_rmul->xl,slot_dict_eq->xy,args_tuple_add_2->yI,entry_tuple_add->yS,slot_tuple_add->yZ,slot_tuple_mul->yq,slot_list_extend->yv,args_tuple_iterator_next_1->yz,slot_zip_next->y0,entry_tuple_iterator_next->zB,args_int_rmul_2->zh,slot_int_index->z6,entry_int_rmul->z7,args_dict_eq_2->z9,slot_str_upper->AAQ,fills_int_mul->AAW,entry_dict_eq->AAY,args_list_extend_2->AAq,slot_tuple_eq_refl->AAu,excBase_ValueError->AAx,entry_list_extend->AA8,slot_list_eq_refl->ABA,slot_int_eq_refl->ABQ,args_tuple_mul_2->ABR
open PySem.Heap renaming get?_push_of_some->uB,lt_size->uZ,get?_push_size->uf,size_push->vv,get?_update_other->xg,SameBut->yU,IsTuple->zC,ExtBut->zk,get?_update_self->AAf,IsList->AAs
open PySem.Heap.IsSliceOf renaming new->ABM
open PySem.Heap.SameBut renaming update->AA9
open PySem.NameKind renaming free->vh,cell->xn
open PySem.Obj renaming mapSeq->zS
open PySem.PassesOwn renaming never->uu
open PySem.PyData renaming strOk->vi,depth->xj,canLayAll0->yg
open PySem.SeqAt renaming rc_eq_decline_or->z8
open PySem.SeqAt.EqAt renaming int_str->ABI,str_int->ABJ
open PySem.Shared renaming heap->xP
open PySem.Str renaming ofString->vk
open PySem.Txt renaming slice_le->AAP,upper->AA5
open PySem.Value renaming ref->va,none->vo,int->zG,str->zv,bool->AAD,type->AAE,isStrOf->ABE
open PySem.W renaming Frag->KE,kia_one->vm,nsIn->wO,envX->wd,keepIn->we,kitOne->xB,exmOne->x5,fnOf->x9,mg_of->yL,findIn->yW,cellsFrom_some->yY,tabObj->yh,kla_fn->yi,callWith_K->zL,codeIn->zM,methodObj->ze,excIn->zq,OpenLaw->AAC,instObj->AAV,kla_obj->AAa,lookIn->AAm,kla_callFunE->AAy,kla_codeExpr->AA0,callWith_F0->ABD,kitx_tuple->ABK,codeRec_of->ABL
open PySem.codeAmong renaming eq_def->yB
open Rat renaming intCast_eq_zero_iff->xY
open Sum renaming inl->AA3,inr->AA4
open True renaming intro->yo
noncomputable section
namespace L2
open PySem PySem.Spec PyProof.Rows
abbrev Key:=Sum Int Str
noncomputable def V0:Key->Wp->vE
 | .inl k,v=>Value.isInt k v
 | .inr x,v=>ABE x v
noncomputable def sC(w:vG):Key->Int
 | .inl k=>hashInt k
 | .inr x=>hashStr w x
theorem DC:∀{k:Key} {v:Wp},V0 k v=true->(∃i t,k=AA3 i/\v=zG i t)\/(∃x t,k=AA4 x/\v=zv x t)
 | .inl i,v,h=>by
   obtain⟨t,e⟩:=Value.isInt_shape (k:=i) (v:=v) h
   exact .inl ⟨i,t,rfl,e⟩
 | .inr x,v,h=>by
   obtain⟨t,e⟩:=Value.isStrOf_shape (x:=x) (v:=v) h
   exact .inr ⟨x,t,rfl,e⟩
theorem W7(i:Int)(t:Tok):V0 (.inl i) (.int i t)=true:=by simp[V0,Value.isInt]
theorem Xo(x:Str)(t:Tok):V0 (.inr x) (.str x t)=true:=by simp[V0,ABE]
theorem ji(a b:Int):decide ((AA3 a:Key)=AA3 b)=(a==b):=by
 by_cases e:a=b
 .subst e;simp
 .have h:¬(AA3 a:Key)=AA3 b:=λq=>e (Sum.inl.inj q)
  rw[xJ h]
  exact(AA7.mpr e).symm
theorem jU(a b:Str):decide ((AA4 a:Key)=AA4 b)=decide (a=b):=by
 by_cases e:a=b
 .subst e;simp
 .have h:¬(AA4 a:Key)=AA4 b:=λq=>e (Sum.inr.inj q)
  rw[xJ h,xJ e]
theorem km(a:Int)(b:Str):decide ((AA3 a:Key)=AA4 b)=false:=xJ (λq=>nomatch q)
theorem jL(a:Str)(b:Int):decide ((AA4 a:Key)=AA3 b)=false:=xJ (λq=>nomatch q)
noncomputable def Eh(prog:ug)(w:vG):PySem.KeyKind prog w Key where
 is:=V0
 hash:=sC w
 inj:=λv a b ha hb=>by
  rcases DC ha with⟨i,t,rfl,rfl⟩|⟨x,t,rfl,rfl⟩
  .rcases DC hb with⟨j,u,rfl,e⟩|⟨y,u,rfl,e⟩
   .injection e with e1 _;rw[e1]
   .exact nomatch e
  .rcases DC hb with⟨j,u,rfl,e⟩|⟨y,u,rfl,e⟩
   .exact nomatch e
   .injection e with e1 _;rw[e1]
 byValue:=λk v h=>by
  rcases DC h with⟨i,t,rfl,rfl⟩|⟨x,t,rfl,rfl⟩<;>rfl
 pyHash:=λhv h=>by
  rcases DC hv with⟨i,t,rfl,rfl⟩|⟨x,t,rfl,rfl⟩
  .exact wpAny_pyHash_int h
  .exact wpAny_pyHash_str h
 eqBool:=λhu hv h=>by
  rcases DC hu with⟨i,t,rfl,rfl⟩|⟨x,t,rfl,rfl⟩
  .rcases DC hv with⟨j,u,rfl,rfl⟩|⟨y,u,rfl,rfl⟩
   .rw[ji]at h;exact wpAny_eqBool_int h
   .rw[km]at h;exact ABI i t y u _ _ _ _ h
  .rcases DC hv with⟨j,u,rfl,rfl⟩|⟨y,u,rfl,rfl⟩
   .rw[jL]at h;exact ABJ x t j u _ _ _ _ h
   .rw[jU]at h;exact wpAny_eqBool_str h
 «strs» :=λk x t v h=>by
  rcases DC h with⟨i,u,rfl,e⟩|⟨y,u,rfl,e⟩
  .exact nomatch e
  .injection e with e1 _
   subst e1
   cases v<;>rfl
theorem TZ(prog:ug)(w:vG)(i:Int)(t:Tok):(Eh prog w).is (.inl i) (.int i t)=true:=W7 i t
theorem Tu(prog:ug)(w:vG)(x:Str)(t:Tok):(Eh prog w).is (.inr x) (.str x t)=true:=Xo x t
end L2
namespace L2
open PySem PySem.Spec PyProof.Rows
inductive V where
 |non|bl (b:vE)|int (i:Int)|str (x:Str)|byt (b:vQ UInt8)|flt (b:UInt64)|ref (a:uF)|ty (n:xA)
 deriving DecidableEq
def RelV:V->Wp->Prop
 | .non,u=>u=vo
 | .bl b,u=>u=AAD b
 | .int i,u=>∃t,u=zG i t
 | .str x,u=>∃t,u=zv x t
 | .byt b,u=>∃t,u=Value.bytes b t
 | .flt b,u=>∃t,u=Value.float b t
 | .ref a,u=>u=va a
 | .ty n,u=>u=AAE n
abbrev Vals:Gc V->Gc Wp->Prop:=Paired RelV
theorem Vals.length{xs:Gc V}{us:Gc Wp}(r:Vals xs us):xs.length=us.length:=Paired.length r
theorem Vals.get:∀{xs:Gc V} {us:Gc Wp} {i:Nat} {x:V},Vals xs us->xs[i]?=Fk x->∃u,us[i]?=Fk u/\RelV x u
 |_,_,_,_,.nil,e=>by simp at e
 |_,_,0,_,.cons r _,e=>by simp at e;subst e;exact⟨_,rfl,r⟩
 |_,_,i+1,x,.cons _ t,e=>by
  obtain⟨u,h1,h2⟩:=Vals.get (i:=i) (x:=x) t (by simpa using e)
  exact⟨u,by simpa using h1,h2⟩
theorem Vals.set{x:V}{u:Wp}(r:RelV x u):∀{xs:Gc V} {us:Gc Wp} (i:Nat),Vals xs us->Vals (xs.set i x) (us.set i u)
 |_,_,_,.nil=>.nil
 |_,_,0,.cons _ t=>.cons r t
 |_,_,i+1,.cons q t=>.cons q (Vals.set r i t)
theorem Vals.append:∀{xs ys:Gc V} {us ws:Gc Wp},Vals xs us->Vals ys ws->Vals (xs++ys) (us++ws)
 |_,_,_,_,.nil,s=>s
 |_,_,_,_,.cons r t,s=>.cons r (Vals.append t s)
theorem Vals.take:∀{xs:Gc V} {us:Gc Wp} (n:Nat),Vals xs us->Vals (xs.take n) (us.take n)
 |_,_,0,_=>.nil
 |_,_,_+1,.nil=>.nil
 |_,_,n+1,.cons r t=>.cons r (Vals.take n t)
theorem Vals.drop:∀{xs:Gc V} {us:Gc Wp} (n:Nat),Vals xs us->Vals (xs.drop n) (us.drop n)
 |_,_,0,r=>r
 |_,_,_+1,.nil=>.nil
 |_,_,n+1,.cons _ t=>Vals.drop n t
theorem Vals.none_of:∀{xs:Gc V} {us:Gc Wp} {i:Nat},Vals xs us->xs[i]?=uC->us[i]?=none:=λ{xs us i} r e=>by
 have h1:=r.length
 have h2:xs.length<=i:=xH.mp e
 exact xH.mpr (by lia)
def lL:uD V->uD Wp->Prop
 |some v,Fk u=>RelV v u
 |none,uC=>True
 |_,_=>wk
def KV{κ:Type}:Gc (κ×V)->Gc (κ×Wp)->Prop:=Paired λ(p:κ×V) (q:κ×Wp)=>p.1=q.1/\RelV p.2 q.2
noncomputable def kV:Key->V
 | .inl i=>.int i
 | .inr x=>.str x
inductive HO where
 |lst (xs:Gc V)
 |tup (xs:Gc V)
 |dK (kvs:Gc (Key×V))|dT (kvs:Gc (Gc Key×V))
 |set (S:Int->vE) (n:Nat)
 |ins (C dx:uF) (fs:Gc (Str×V))
 |own (x:uF)
 |xd (fs:Gc (Str×V))
 |met (f x:uF)
 |rng (lo hi:Int)
 |frz (o:Obj) (u:HO)
 |tbl (ps:vQ Wp)
 |ext (φ:ux->Prop)
abbrev Hp:=uF->uD HO
noncomputable def upd(H:Hp)(a:uF)(o:HO):Hp:=λb=>if b=a then Fk o else H b
theorem Bf{H:Hp}{a:uF}{o:HO}:upd H a o a=Fk o:=by unfold upd;rw[vD rfl]
theorem Am{H:Hp}{a b:uF}{o:HO}(h:b≠a):upd H a o b=H b:=by unfold upd;rw[vH h]
theorem Br{H:Hp}{a b:uF}{o:HO}(h:H a=Fk o)(h':H b=uC):a≠b:=by
 intro e;subst e;rw[h]at h';cases h'
section
variable(P:ug)(w:vG)
def EL(H:Hp)(h:ux)(a:uF):HO->Prop
 | .lst xs=>xs.length<=sizeLine/\∃(its:Gc Wp) (n:Nat),Vals xs its/\h.get? a=Fk {cls:=.type "list",data:=.seq its.toArray n}
 | .tup xs=>xs.length<=sizeLine/\∃its:Gc Wp,Vals xs its/\IsTup h a its.toArray
 | .dK kvs=>kvs.length<=sizeLine/\(a==sysModules)=false/\∃vs,KV kvs vs/\h.DictOf (Eh P w) a vs
 | .dT kvs=>kvs.length<=sizeLine/\(a==sysModules)=false/\∃xs:Gc (Gc Key×uF×Wp),
    Paired (λ(p:Gc Key×V) (q:Gc Key×uF×Wp)=>p.1=q.1/\H q.2.1=Fk (.tup (p.1.map kV))/\RelV p.2 q.2.2) kvs xs/\
    ∃o es ep,h.get? a=Fk o/\o.ExactDict/\o.data=.dict es ep/\es.toList=xs.map (entryOfKey (tupleKind (Eh P w)))/\(xs.map (·.1)).Nodup
 | .set S n=>h.SetOf (intKind P w) a S n
 | .ins C dx fs=>H dx=Fk (.own a)/\fs.length<=1000/\dx≠a/\h.get? a=Fk (AAV C dx)/\
    ∃mA,h.Ns1 dx mA/\(∀f,lL (fs.lookup f) (mA f))/\PySem.Within mA (fs.map (·.1))
 | .own _=>∃o,h.get? a=Fk o
 | .xd fs=>∃mA,h.Ns1 a mA/\∀f,lL (fs.lookup f) (mA f)
 | .rng lo hi=>∃t u v,h.get? a=Fk {cls:=.type "range",data:=.fields #[.int lo t,.int hi u,.int 1 v]}
 | .frz o u=>h.get? a=Fk o/\EL H h a u
 | .tbl ps=>h.get? a=Fk {cls:=.none,data:=.fields ps}
 | .met f x=>h.get? a=Fk (ze (.ref f) (.ref x))
 | .ext φ=>φ h/\(∃o,h.get? a=Fk o)/\∀h1 h2:ux,φ h1->(∀o,h1.get? a=Fk o->h2.get? a=Fk o)->φ h2
def HOk(H:Hp)(h:ux):Prop:=∀a o,H a=Fk o->EL P w H h a o
end
section
variable{P:ug}{w:vG}{H H':Hp}{h h':ux}{a:uF}{o:HO}
theorem EL.lt(x:EL P w H h a o):a<h.objs.size:=by
 cases o with
 |lst xs=>obtain⟨_,_,_,_,e⟩:=x;exact uZ e
 |tup xs=>obtain⟨_,_,_,p⟩:=x;exact p.lt
 |dK kvs=>obtain⟨_,_,_,_,o,_,_,e,_⟩:=x;exact uZ e
 |dT kvs=>obtain⟨_,_,_,_,o,_,_,e,_⟩:=x;exact uZ e
 |set S n=>obtain⟨o,_,_,_,e,_⟩:=x;exact uZ e
 |ins C dx fs=>obtain⟨_,_,_,e,_⟩:=x;exact uZ e
 |own y=>obtain⟨_,e⟩:=x;exact uZ e
 |xd fs=>obtain⟨_,⟨_,_,_,e,_⟩,_⟩:=x;exact uZ e
 |rng lo hi=>obtain⟨_,_,_,e⟩:=x;exact uZ e
 |frz ob u=>obtain⟨e,_⟩:=x;exact uZ e
 |tbl ps=>exact uZ (show h.get? a=Fk _ from x)
 |met f y=>exact uZ (show h.get? a=Fk _ from x)
 |ext φ=>obtain⟨_,⟨_,e⟩,_⟩:=x;exact uZ e
theorem Paired.pz{α β:Type}{F G:α->β->Prop}:∀{l₁:Gc α} {l₂:Gc β},Paired F l₁ l₂->(∀a b,F a b->G a b)->Paired G l₁ l₂
 |_,_,.nil,_=>.nil
 |_,_,.cons r t,f=>.cons (f _ _ r) (Paired.pz t f)
theorem EL.Ym(x:EL P w H h a o)(k:∀b u,(b=a\/H b=Fk (.own a))->h.get? b=Fk u->h'.get? b=Fk u)(ho:∀b,H b=Fk (.own a)->H' b=Fk (.own a))(ht:∀b xs,H b=Fk (.tup xs)->H' b=Fk (.tup xs)):EL P w H' h' a o:=by
 induction o with
 |lst xs=>obtain⟨z,its,n,r,e⟩:=x;exact⟨z,its,n,r,k _ _ (.inl rfl) e⟩
 |tup xs=>obtain⟨z,its,r,ob,e,c⟩:=x;exact⟨z,its,r,ob,k _ _ (.inl rfl) e,c⟩
 |dK kvs=>obtain⟨z,y,vs,r,ob,es,ep,e,c⟩:=x;exact⟨z,y,vs,r,ob,es,ep,k _ _ (.inl rfl) e,c⟩
 |dT kvs=>
  obtain⟨z,y,xs,r,ob,es,ep,e,c⟩:=x
  exact⟨z,y,xs,Paired.pz r λp q z=>⟨z.1,ht _ _ z.2.1,z.2.2⟩,ob,es,ep,k _ _ (.inl rfl) e,c⟩
 |set S n=>obtain⟨ob,es,ep,t,e,c⟩:=x;exact⟨ob,es,ep,t,k _ _ (.inl rfl) e,c⟩
 |ins C dx fs=>
  obtain⟨d,z,ne,e,mA,⟨od,es,ep,e2,c⟩,r⟩:=x
  exact⟨ho _ d,z,ne,k _ _ (.inl rfl) e,mA,⟨od,es,ep,k _ _ (.inr d) e2,c⟩,r⟩
 |own y=>obtain⟨ob,e⟩:=x;exact⟨ob,k _ _ (.inl rfl) e⟩
 |xd fs=>obtain⟨mA,⟨od,es,ep,e,c⟩,r⟩:=x;exact⟨mA,⟨od,es,ep,k _ _ (.inl rfl) e,c⟩,r⟩
 |rng lo hi=>obtain⟨t,u,v,e⟩:=x;exact⟨t,u,v,k _ _ (.inl rfl) e⟩
 |frz ob u ih=>obtain⟨e,q⟩:=x;exact⟨k _ _ (.inl rfl) e,ih q⟩
 |tbl ps=>
  have e:h.get? a=Fk {cls:=.none,data:=.fields ps}:=x
  show h'.get? a=Fk {cls:=.none,data:=.fields ps}
  exact k a _ (.inl rfl) e
 |met f y=>
  have e:h.get? a=Fk (ze (.ref f) (.ref y)):=x
  show h'.get? a=Fk (ze (.ref f) (.ref y))
  exact k a _ (.inl rfl) e
 |ext φ=>obtain⟨p,⟨o,e⟩,st⟩:=x;exact⟨st _ _ p λo q=>k _ _ (.inl rfl) q,⟨o,k _ _ (.inl rfl) e⟩,st⟩
theorem HOk.lt(x:HOk P w H h)(e:H a=Fk o):a<h.objs.size:=(x a o e).lt
theorem HOk.fresh(x:HOk P w H h)(e:h.objs.size<=a):H a=none:=by
 cases q:H a with
 |none=>rfl
 |some u=>exact absurd (uG (x.lt q) e) (vw _)
theorem HOk.kept(x:HOk P w H h)(k:∀b u,h.get? b=Fk u->h'.get? b=Fk u):HOk P w H h':=λa o e=>
 (x a o e).Ym (λb u _ q=>k b u q) (λ_ q=>q) λ_ _ q=>q
theorem HOk.laid(x:HOk P w H h)(k:∀b u,h.get? b=Fk u->h'.get? b=Fk u)(hp:h.objs.size<=a)(new:EL P w (upd H a o) h' a o):HOk P w (upd H a o) h':=λb u e=>by
 have hn:=x.fresh hp
 by_cases hb:b=a
 .subst hb;rw[Bf]at e;cases e;exact new
 .rw[Am hb]at e
  exact(x b u e).Ym (λc v _ q=>k c v q) (λc q=>by rw[Am (Br q hn)];exact q) λc xs q=>by rw[Am (Br q hn)];exact q
end
def Rd(H:Hp)(a:uF)(u:HO):Prop:=H a=Fk u\/∃o,H a=Fk (.frz o u)
theorem Rd.ok{P:ug}{w:vG}{H:Hp}{h:ux}{a:uF}{u:HO}(r:Rd H a u)(x:HOk P w H h):EL P w H h a u:=by
 rcases r with r|⟨o,r⟩
 .exact x a u r
 .obtain⟨_,q⟩:=x a _ r
  exact q
def Mut:uD HO->Prop
 |some (.lst _)=>True
 |some (.dK _)=>True
 |some (.dT _)=>True
 |some (.set _ _)=>True
 |some (.ins _ _ _)=>True
 |some (.ext _)=>True
 |_=>wk
section
variable{P:ug}{w:vG}{H:Hp}{h h':ux}{x e:uF}{o':HO}
theorem HOk.write(ok:HOk P w H h)(mu:Mut (H x))(he:e=x\/H e=Fk (.own x))(k:∀b u,b≠e->h.get? b=Fk u->h'.get? b=Fk u)(heo:∃u,h'.get? e=Fk u)(new:EL P w (upd H x o') h' x o'):HOk P w (upd H x o') h':=λb u q=>by
 have nown:∀c y,H c=Fk (.own y)->c≠x:=λc y r z=>by subst z;rw[r]at mu;exact mu
 have ntup:∀c xs,H c=Fk (.tup xs)->c≠x:=λc xs r z=>by subst z;rw[r]at mu;exact mu
 by_cases hb:b=x
 .subst hb;rw[Bf]at q;cases q;exact new
 .rw[Am hb]at q
  by_cases hbe:b=e
  .have q':H b=Fk (.own x):=by
    rcases he with z|z
    .exact absurd (hbe.trans z) hb
    .rw[hbe];exact z
   rw[q]at q';cases q'
   obtain⟨v,hv⟩:=heo
   exact⟨v,by rw[hbe];exact hv⟩
  .refine(ok b u q).Ym (λc v hc r=>k c v ?_ r) (λc r=>by rw[Am (nown c b r)];exact r) λc xs r=>by rw[Am (ntup c xs r)];exact r
   rcases hc with rfl|hc
   .exact hbe
   .rintro rfl
    rcases he with z|z
    .exact nown c b hc z
    .rw[hc]at z;cases z;exact hb rfl
end
structure Un(fs ex:Gc uF)(H H':Hp)(h h':ux):Prop where
 keep:∀b o,h.get? b=Fk o->H b=uC->b∉fs->b∉ex->h'.get? b=Fk o
 slot:∀b o,h.get? b=Fk o->H b=uC->b∈fs->b∉ex->∃sl,h'.get? b=Fk {o with slots:=sl}
 free:∀b o,h.get? b=Fk o->H b=uC->b∉ex->H' b=uC
 there:∀b o,h.get? b=Fk o->b∉ex->∃o',h'.get? b=Fk o'
 bD:∀b xs,H b=Fk (.tup xs)->H' b=Fk (.tup xs)
 X9:∀b o u,H b=Fk (.frz o u)->H' b=Fk (.frz o u)
 Yr:∀b ps,H b=Fk (.tbl ps)->∃more,H' b=Fk (.tbl (ps++more))
section
variable{fs fs' ex ex':Gc uF}{H H1 H2:Hp}{h h1 h2 h':ux}{a x e:uF}{o:HO}
theorem Un.any(u:Un fs ex H H1 h h1){b:uF}{ob:Obj}(q:h.get? b=Fk ob)(n:H b=uC)(hx:b∉ex):∃sl,h1.get? b=Fk {ob with slots:=sl}:=by
 by_cases hb:b∈fs
 .exact u.slot b ob q n hb hx
 .exact⟨ob.slots,u.keep b ob q n hb hx⟩
theorem Un.kept(k:∀b u,h.get? b=Fk u->h'.get? b=Fk u):Un fs ex H H h h':=
 ⟨λb ob q _ _ _=>k b ob q,λb ob q _ _ _=>⟨ob.slots,k b ob q⟩,λ_ _ _ n _=>n,λb ob q _=>⟨ob,k b ob q⟩,λ_ _ q=>q,λ_ _ _ q=>q,λ_ ps q=>⟨#[],by rw[q];simp⟩⟩
theorem Un.refl:Un fs ex H H h h:=Un.kept λ_ _ q=>q
theorem Un.laid(k:∀b u,h.get? b=Fk u->h'.get? b=Fk u)(hp:h.objs.size<=a)(hn:H a=uC):Un fs ex H (upd H a o) h h' where
 keep:=λb u q _ _ _=>k b u q
 slot:=λb u q _ _ _=>⟨u.slots,k b u q⟩
 free:=λb u q n _=>by rw[Am (vB (uG (uZ q) hp))];exact n
 there:=λb u q _=>⟨u,k b u q⟩
 bD:=λb xs q=>by rw[Am (Br q hn)];exact q
 X9:=λb u xs q=>by rw[Am (Br q hn)];exact q
 Yr:=λb ps q=>⟨#[],by rw[Am (Br q hn),q];simp⟩
theorem Un.write(mu:Mut (H x))(he:e=x\/H e=Fk (.own x))(k:∀b u,b≠e->h.get? b=Fk u->h'.get? b=Fk u)(heo:∃u,h'.get? e=Fk u):Un fs ex H (upd H x o) h h':=by
 have hx:∀b,H b=uC->b≠x:=λb n z=>by subst z;rw[n]at mu;exact mu
 have hb:∀b,H b=uC->b≠e:=λb n z=>by
  subst z
  rcases he with r|r
  .exact hx b n r
  .rw[n]at r;cases r
 have hm:∀b u,H b=Fk u->¬Mut (Fk u)->b≠x:=λb u q nm z=>by subst z;rw[q]at mu;exact nm mu
 refine⟨λb u q n _ _=>k b u (hb b n) q,λb u q n _ _=>⟨u.slots,k b u (hb b n) q⟩,λb u q n _=>by rw[Am (hx b n)];exact n,λb u q _=>?_,
  λb xs q=>by rw[Am (hm b _ q λz=>z)];exact q,λb u xs q=>by rw[Am (hm b _ q λz=>z)];exact q,λb ps q=>⟨#[],by rw[Am (hm b _ q λz=>z),q];simp⟩⟩
 by_cases hbe:b=e
 .subst hbe;exact heo
 .exact⟨u,k b u hbe q⟩
end
noncomputable def trk(h:ux)(H:Hp):Gc uF:=(uU h.objs.size).filter λa=>(H a).isSome
noncomputable def Yx(h:ux)(H:Hp):ux:=PySem.W.hideAll h (trk h H)
theorem W2(h:ux)(H:Hp):(Yx h H).objs.size=h.objs.size:=PySem.W.hideAll_size _ _
theorem ay{h:ux}{H:Hp}{b:uF}{o:Obj}(e:h.get? b=Fk o)(n:H b=uC):(Yx h H).get? b=Fk o:=
 PySem.W.hideAll_get _ e λhm=>by
  have q:(H b).isSome=true:=(wm.mp hm).2
  rw[n]at q;simp at q
theorem dZ{h:ux}{H:Hp}{b:uF}{o:Obj}(e:(Yx h H).get? b=Fk o):h.get? b=Fk o/\H b=none:=by
 have e':h.get? b=Fk o:=PySem.W.of_hideAll (trk h H) e
 refine⟨e',?_⟩
 cases q:H b with
 |none=>rfl
 |some x=>
  have hm:b∈trk h H:=wm.mpr ⟨zI.mpr (uZ e'),by simp[q]⟩
  have z:(Yx h H).get? b=none:=PySem.W.hideAll_none (trk h H) hm
  rw[z]at e;cases e
noncomputable def fQ(g h:ux)(L:uF):Gc (uF×Obj):=(uU h.objs.size).filterMap λa=>if a=L\/(g.get? a).isSome=true then uC else(h.get? a).map λo=>(a,o)
noncomputable def rest(g h:ux)(L d:uF):Gc (uF×Obj):=(fQ g h L).filter λp=>decide (p.1≠d)
end L2
namespace L2
open PySem PySem.Spec PyProof.Rows
structure Mod(K:KE)(mg:Str->uD Wp)(base:ux):Prop where
 kin:K.In base
 glob:base.Ns mainGlobals mg
 blt:∃mb,base.Ns builtinsNs mb/\∀x:Str,x≠ "__name__"->mb x=bootBuiltins x
 nolimit:base.NoLimit
structure Cx where
 prog:ug
 w:vG
 K:KE
 mg:Str->uD Wp
 base:ux
 A:vF
 N:Gc Str
 s₀:uE
 H₀:Hp
 env:Env
 outer:Gc Env
 stack:Gc Env
 ex:Gc uF
 fn:Str->vE
 calm:vE
 pn:Gc (uF×Obj)
 xe:Wp->uE->Prop
noncomputable def frs(l:Gc Env):Gc uF:=l.filterMap (·.frame)
abbrev Cx.fs(X:Cx):Gc uF:=frs X.outer
def Vis(sc:vn)(x:Str):Prop:=sc.names.lookup x=Fk .local\/sc.names.lookup x=Fk .cell\/sc.names.lookup x=Fk .free
def Loc(sc:vn)(x:Str):Prop:=sc.names.lookup x=Fk .local\/sc.names.lookup x=Fk .cell
def Look(env:Env)(h:ux)(m:Str->uD Wp)(x:Str)(u:Wp):Prop:=
 (env.kindOf x=Fk .local/\m x=Fk u)\/((env.kindOf x=Fk .cell\/env.kindOf x=Fk .free)/\∃c,env.cells.lookup x=Fk c/\h.IsCell c (Fk u))
structure Cx.Ok(X:Cx):Prop where
 mod:Mod X.K X.mg X.base
 kind:X.env.scope.kind=.function
 glob:X.env.globals=mainGlobals
 blt:X.env.builtins=builtinsNs
 above:X.s₀.heap.objs.size<=X.env.locals
 inj:∀x y c,X.env.cells.lookup x=Fk c->X.env.cells.lookup y=Fk c->x=y
 has:∀x,(X.env.kindOf x=Fk .cell\/X.env.kindOf x=Fk .free)->∃c,X.env.cells.lookup x=Fk c
 cab:∀x c,X.fn x=true->X.env.cells.lookup x=Fk c->X.s₀.heap.objs.size<=c
 hd:X.calm=true->X.A.handled=uC
 frames:X.A.frames=Fk X.stack
 stk:X.stack=X.outer\/(X.stack=X.env::X.outer/\X.env.frame=Fk X.env.locals)
 exf:∀b∈X.ex,b≠X.env.locals/\∀x c,X.env.cells.lookup x=Fk c->c≠b
 bs:∀b o,X.base.get? b=Fk o->X.s₀.heap.get? b=Fk o/\X.H₀ b=uC
 bsz:X.base.objs.size<=X.s₀.heap.objs.size
 dX:∀b o,X.base.get? b=Fk o->b∉X.ex
 eU:∀b∈X.ex,b∉X.fs
 U1:X.s₀.heap.FunFrames X.base X.outer
 frf:∀b∈X.fs,X.H₀ b=uC
structure Inv(X:Cx)(pins:Gc (uF×Obj))(σ:Gc (uD V))(H:Hp)(s:uE):Prop where
 ok:X.Ok
 os:s.os=X.s₀.os
 bare:yR s.gens
 base:Un X.fs X.ex X.H₀ H X.s₀.heap s.heap
 loc:∃m,s.heap.Ns X.env.locals m/\∀(i:Nat) (x:Str) (v:V),X.N[i]?=Fk x->σ[i]?=Fk (Fk v)->Vis X.env.scope x->∃u,RelV v u/\Look X.env s.heap m x u
 cell:∀x c,X.env.cells.lookup x=Fk c->∃v,s.heap.IsCell c v
 free:H X.env.locals=uC
 L6:∀x c,X.env.cells.lookup x=Fk c->H c=uC
 pin:∀p∈X.pn++pins,s.heap.get? p.1=Fk p.2/\H p.1=uC/\p.1≠X.env.locals/\p.1∉X.fs/\∀v,p.2.data≠.cell v
 hok:HOk X.prog X.w H s.heap
 len:σ.length=X.N.length
section
variable{X:Cx}{pins:Gc (uF×Obj)}{σ:Gc (uD V)}{H H':Hp}{s:uE}{h':ux}
theorem Cx.Ok.rz(ok:X.Ok){b:uF}{o:Obj}(e:X.base.get? b=Fk o):b∉X.fs:=λhb=>by
 have:=(ok.U1.mem hb).1
 rw[e]at this;cases this
theorem Inv.bs(I:Inv X pins σ H s):∀b o,X.base.get? b=Fk o->s.heap.get? b=Fk o/\H b=none:=λb o e=>
 ⟨I.base.keep b o (I.ok.bs b o e).1 (I.ok.bs b o e).2 (I.ok.rz e) (I.ok.dX b o e),I.base.free b o (I.ok.bs b o e).1 (I.ok.bs b o e).2 (I.ok.dX b o e)⟩
theorem Inv.bk(I:Inv X pins σ H s):∀b o,X.base.get? b=Fk o->s.heap.get? b=Fk o:=λb o e=>(I.bs b o e).1
theorem Inv.mod(I:Inv X pins σ H s):Mod X.K X.mg X.base:=I.ok.mod
theorem Inv.kIn(I:Inv X pins σ H s):X.K.In s.heap:=I.ok.mod.kin.keeps I.bk
theorem Inv.nolimit(I:Inv X pins σ H s):s.heap.NoLimit:=I.ok.mod.nolimit.keeps I.bk
theorem Inv.lt(I:Inv X pins σ H s):X.env.locals<s.heap.objs.size:=let⟨_,hn,_⟩:=I.loc;hn.lt
theorem Inv.sz(I:Inv X pins σ H s):X.s₀.heap.objs.size<=s.heap.objs.size:=uO I.ok.above (zA I.lt)
theorem Inv.tF(I:Inv X pins σ H s){a:uF}(h:s.heap.objs.size<=a):a∉X.fs:=λhb=>by
 obtain⟨_,o,ho,_⟩:=I.ok.U1.mem hb
 exact absurd (uG (uZ ho) (uO I.sz h)) (vw _)
theorem Inv.cne(I:Inv X pins σ H s):∀x c,X.env.cells.lookup x=Fk c->c≠X.env.locals:=λx c e z=>by
 obtain⟨v,o,ho,hd⟩:=I.cell x c e
 obtain⟨m,⟨o',es,ep,ho',hd',_⟩,_⟩:=I.loc
 rw[z,ho']at ho;cases ho;rw[hd']at hd;cases hd
theorem Inv.U1(I:Inv X pins σ H s):s.heap.FunFrames X.base X.outer:=by
 have all:∀(l:Gc Env),(∀b∈frs l,b∈X.fs)->X.s₀.heap.FunFrames X.base l->s.heap.FunFrames X.base l:=by
  intro l
  induction l with
  |nil=>intro _ _;trivial
  |cons env r ih=>
   intro hs hl
   obtain⟨hk,⟨L,o,hf,hn,ho,hd⟩,hr⟩:=hl
   have hL:L∈X.fs:=hs L (by unfold frs;rw[ur,hf];exact uP)
   obtain⟨sl,e⟩:=I.base.slot L o ho (I.ok.frf L hL) hL λz=>I.ok.eU L z hL
   exact⟨hk,⟨L,_,hf,hn,e,hd⟩,ih (λb hb=>hs b (by unfold frs;rw[ur,hf];exact uJ _ hb)) hr⟩
 exact all X.outer (λ_ hb=>hb) I.ok.U1
theorem Inv.stack(I:Inv X pins σ H s):s.heap.FunFrames X.base X.stack:=by
 rcases I.ok.stk with e|⟨e,hf⟩
 .rw[e];exact I.U1
 .rw[e]
  obtain⟨m,hn,_⟩:=I.loc
  refine .cons (by rw[I.ok.kind];decide) hf hn ?_ I.U1
  exact Heap.get?_none_of_le (uO I.ok.bsz I.ok.above)
theorem Inv.XD(I:Inv X pins σ H s):∀b∈frs X.stack,b∈X.env.locals::X.fs:=λb hb=>by
 rcases I.ok.stk with e|⟨e,hf⟩
 .rw[e]at hb;exact uJ _ hb
 .rw[e]at hb
  unfold frs at hb
  rw[ur,hf]at hb
  exact hb
theorem Inv.Te(I:Inv X pins σ H s):∀b∈frs X.stack,H b=none:=λb hb=>by
 rcases uI.mp (I.XD b hb)with e|hb
 .rw[e];exact I.free
 .obtain⟨_,o,ho,_⟩:=I.ok.U1.mem hb
  exact I.base.free b o ho (I.ok.frf b hb) λz=>I.ok.eU b z hb
theorem Inv.step{g':vQ GenState}{t':Nat}{d':Drawn}{ch:Gc uF}(I:Inv X pins σ H s)(hch:∀b∈ch,(b∈X.ex\/X.s₀.heap.objs.size<=b)/\b≠X.env.locals/\(∀x c,X.env.cells.lookup x=Fk c->c≠b)/\∀p∈X.pn++pins,p.1≠b)(keep:∀b o,b≠X.env.locals->b∉X.fs->b∉ch->s.heap.get? b=Fk o->H b=uC->h'.get? b=Fk o)(slot:∀b o,b≠X.env.locals->b∈X.fs->b∉ch->s.heap.get? b=Fk o->H b=uC->∃sl,h'.get? b=Fk {o with slots:=sl})(free:∀b o,b∉ch->s.heap.get? b=Fk o->H b=uC->H' b=uC)(there:∀b o,b∉ch->s.heap.get? b=Fk o->∃o',h'.get? b=Fk o')(bD:∀b xs,H b=Fk (.tup xs)->H' b=Fk (.tup xs))(X9:∀b o u,H b=Fk (.frz o u)->H' b=Fk (.frz o u))(Yr:∀b ps,H b=Fk (.tbl ps)->∃more,H' b=Fk (.tbl (ps++more)))(ns:∀m,s.heap.Ns X.env.locals m->h'.Ns X.env.locals m)(hok:HOk X.prog X.w H' h')(hg:yR g'):Inv X pins σ H' {s with heap:=h',gens:=g',drawn:=d',toks:=t'}:=by
 have neL:∀b o,X.s₀.heap.get? b=Fk o->b≠X.env.locals:=λb o e=>vB (uG (uZ e) I.ok.above)
 have neC:∀b o,X.s₀.heap.get? b=Fk o->b∉X.ex->b∉ch:=λb o e hx hb=>by
  rcases(hch b hb).1 with z|z
  .exact hx z
  .exact absurd (uG (uZ e) z) (vw _)
 have cellK:∀x c,X.env.cells.lookup x=Fk c->∀v,s.heap.IsCell c v->h'.IsCell c v:=λx c e v ⟨o,ho,hd⟩=>by
  have nch:c∉ch:=λz=>(hch c z).2.2.1 x c e rfl
  by_cases hc:c∈X.fs
  .obtain⟨sl,q⟩:=slot c o (I.cne x c e) hc nch ho (I.L6 x c e)
   exact⟨_,q,hd⟩
  .exact⟨o,keep c o (I.cne x c e) hc nch ho (I.L6 x c e),hd⟩
 refine⟨I.ok,I.os,hg,⟨λb o e n hb hx=>?_,λb o e n hb hx=>?_,λb o e n hx=>?_,λb o e hx=>?_,λb xs e=>bD b xs (I.base.bD b xs e),λb o xs e=>X9 b o xs (I.base.X9 b o xs e),λb ps e=>?_⟩,?_,λx c e=>?_,?_,λx c e=>?_,λp hp=>?_,hok,I.len⟩
 .exact keep b o (neL b o e) hb (neC b o e hx) (I.base.keep b o e n hb hx) (I.base.free b o e n hx)
 .obtain⟨sl,e1⟩:=I.base.slot b o e n hb hx
  obtain⟨sl',e2⟩:=slot b _ (neL b o e) hb (neC b o e hx) e1 (I.base.free b o e n hx)
  exact⟨sl',e2⟩
 .obtain⟨o',e1⟩:=I.base.there b o e hx
  exact free b o' (neC b o e hx) e1 (I.base.free b o e n hx)
 .obtain⟨o',e1⟩:=I.base.there b o e hx
  exact there b o' (neC b o e hx) e1
 .obtain⟨m1,e1⟩:=I.base.Yr b ps e
  obtain⟨m2,e2⟩:=Yr b _ e1
  exact⟨m1++m2,by rw[e2,Array.append_assoc]⟩
 .obtain⟨m,hn,hl⟩:=I.loc
  refine⟨m,ns m hn,λi x v e1 e2 e3=>?_⟩
  obtain⟨u,r,l⟩:=hl i x v e1 e2 e3
  refine⟨u,r,?_⟩
  rcases l with l|⟨k,c,e,z⟩
  .exact .inl l
  .exact .inr ⟨k,c,e,cellK x c e _ z⟩
 .obtain⟨v,z⟩:=I.cell x c e
  exact⟨v,cellK x c e v z⟩
 .obtain⟨m,⟨o,_,_,ho,_⟩,_⟩:=I.loc
  exact free _ o (λz=>(hch _ z).2.1 rfl) ho I.free
 .obtain⟨v,o,ho,hd⟩:=I.cell x c e
  exact free c o (λz=>(hch c z).2.2.1 x c e rfl) ho (I.L6 x c e)
 .obtain⟨e,n,ne,nf,d⟩:=I.pin p hp
  have nch:p.1∉ch:=λz=>(hch p.1 z).2.2.2 p hp rfl
  exact⟨keep p.1 p.2 ne nf nch e n,free p.1 p.2 nch e n,ne,nf,d⟩
theorem Inv.un{t':Nat}(I:Inv X pins σ H s)(u:Un X.fs [] H H' s.heap h')(hok:HOk X.prog X.w H' h'):Inv X pins σ H' {s with heap:=h',toks:=t'}:=by
 obtain⟨m,⟨o,es,ep,ho,r⟩,_⟩:=id I.loc
 obtain⟨sl,hL⟩:=u.any ho I.free (by simp)
 exact I.step (g':=s.gens) (d':=s.drawn) (ch:=[]) (λ_ z=>nomatch z) (λb o _ hb _ e n=>u.keep b o e n hb (by simp)) (λb o _ hb _ e n=>u.slot b o e n hb (by simp)) (λb o _ e n=>u.free b o e n (by simp)) (λb o _ e=>u.there b o e (by simp)) u.bD u.X9 u.Yr (λm' hm=>by
  obtain⟨o',es',ep',ho',r'⟩:=hm
  rw[ho]at ho';cases ho'
  exact⟨_,es',ep',hL,r'⟩) hok I.bare
theorem Inv.call{g':vQ GenState}{t':Nat}{d':Drawn}{ch:Gc uF}(I:Inv X pins σ H s)(u:Un (frs X.stack) ch H H' s.heap h')(hok:HOk X.prog X.w H' h')(hg:yR g')(hch:∀b∈ch,(b∈X.ex\/X.s₀.heap.objs.size<=b)/\b≠X.env.locals/\(∀x c,X.env.cells.lookup x=Fk c->c≠b)/\∀p∈X.pn++pins,p.1≠b):Inv X pins σ H' {s with heap:=h',gens:=g',drawn:=d',toks:=t'}:=by
 obtain⟨m,⟨o,es,ep,ho,r⟩,_⟩:=id I.loc
 obtain⟨sl,hL⟩:=u.any ho I.free λz=>(hch _ z).2.1 rfl
 exact I.step (ch:=ch) hch (λb o hL hb hc e n=>u.keep b o e n (λz=>(uI.mp (I.XD b z)).elim hL hb) hc) (λb o _ _ hc e n=>u.any e n hc) (λb o hc e n=>u.free b o e n hc) (λb o hc e=>u.there b o e hc) u.bD u.X9 u.Yr (λm' hm=>by
  obtain⟨o',es',ep',ho',r'⟩:=hm
  rw[ho]at ho';cases ho'
  exact⟨_,es',ep',hL,r'⟩) hok hg
theorem Inv.turned{t':Nat}{it:uF}(I:Inv X pins σ H s)(k:∀b o,b≠it->s.heap.get? b=Fk o->h'.get? b=Fk o)(hn:H it=uC)(hL:it≠X.env.locals)(h1:it∈X.ex\/X.s₀.heap.objs.size<=it)(h2:∀x c,X.env.cells.lookup x=Fk c->c≠it)(h3:∀p∈X.pn++pins,p.1≠it):Inv X pins σ H {s with heap:=h',toks:=t'}:=by
 have nit:∀b u,H b=Fk u->b≠it:=λb u e z=>by rw[z,hn]at e;cases e
 refine I.step (g':=s.gens) (d':=s.drawn) (ch:=[it]) (λb hb=>?_) (λb o _ _ hc e _=>k b o (λz=>hc (by simp[z])) e) (λb o _ _ hc e _=>⟨o.slots,k b o (λz=>hc (by simp[z])) e⟩) (λ_ _ _ _ n=>n)
  (λb o hc e=>⟨o,k b o (λz=>hc (by simp[z])) e⟩) (λ_ _ e=>e) (λ_ _ _ e=>e) (λb ps e=>⟨#[],by rw[e];simp⟩) (λm hm=>?_) (λb u e=>?_) I.bare
 .have e:b=it:=by simpa using hb
  subst e
  exact⟨h1,hL,h2,h3⟩
 .obtain⟨o,es,ep,ho,r⟩:=hm
  exact⟨o,es,ep,k _ o (wI hL) ho,r⟩
 .refine(I.hok b u e).Ym (λc v hc q=>k c v ?_ q) (λ_ q=>q) λ_ _ q=>q
  rcases hc with z|z
  .rw[z];exact nit b u e
  .exact nit c _ z
theorem Inv.tok(I:Inv X pins σ H s)(t:Nat):Inv X pins σ H {s with toks:=t}:=I.un (h':=s.heap) (t':=t) Un.refl I.hok
theorem Inv.kept{t':Nat}(I:Inv X pins σ H s)(k:∀b u,s.heap.get? b=Fk u->h'.get? b=Fk u):Inv X pins σ H {s with heap:=h',toks:=t'}:=I.un (Un.kept k) (I.hok.kept k)
theorem Inv.laid{a:uF}{o:HO}{t':Nat}(I:Inv X pins σ H s)(k:∀b u,s.heap.get? b=Fk u->h'.get? b=Fk u)(hp:s.heap.objs.size<=a)(new:EL X.prog X.w (upd H a o) h' a o):Inv X pins σ (upd H a o) {s with heap:=h',toks:=t'}:=I.un (Un.laid k hp (I.hok.fresh hp)) (I.hok.laid k hp new)
theorem Inv.write{x e:uF}{o:HO}{t':Nat}(I:Inv X pins σ H s)(mu:Mut (H x))(he:e=x\/H e=Fk (.own x))(k:∀b u,b≠e->s.heap.get? b=Fk u->h'.get? b=Fk u)(heo:∃u,h'.get? e=Fk u)(new:EL X.prog X.w (upd H x o) h' x o):Inv X pins σ (upd H x o) {s with heap:=h',toks:=t'}:=I.un (Un.write mu he k heo) (I.hok.write mu he k heo new)
theorem Inv.W8{pins':Gc (uF×Obj)}(I:Inv X pins σ H s)(h:∀p∈pins',s.heap.get? p.1=Fk p.2/\H p.1=uC/\p.1≠X.env.locals/\p.1∉X.fs/\∀v,p.2.data≠.cell v):Inv X pins' σ H s:=
 ⟨I.ok,I.os,I.bare,I.base,I.loc,I.cell,I.free,I.L6,λp hp=>(ub.mp hp).elim (λz=>I.pin p (yu _ z)) (h p),I.hok,I.len⟩
theorem Uu{N:Gc Str}(hN:N.Nodup){i j:Nat}{x:Str}(a:N[i]?=Fk x)(b:N[j]?=Fk x):i=j:=by
 obtain⟨h1,e1⟩:=uL.mp a
 obtain⟨h2,e2⟩:=uL.mp b
 exact(List.getElem_inj hN).mp (e1.trans e2.symm)
theorem Rn{M:Model}{A:vF}{E:Wp->uE->Prop}{i:Nat}{x:Str}{v:V}{u:Wp}{Q:Unit->uE->Prop}(I:Inv X pins σ H s)(hN:X.N.Nodup)(hi:X.N[i]?=Fk x)(hx:Loc X.env.scope x)(r:RelV v u)(h:∀s',Inv X pins (σ.set i (Fk v)) H s'->(∃a,yU a s.heap s'.heap/\(a=X.env.locals\/X.env.cells.lookup x=Fk a))->Q () s')(hf:X.fn x=true\/X.env.scope.names.lookup x=Fk .local:=by first|exact .inl rfl|exact .inr rfl|assumption):wpAny M A (storeName X.env x u) Q E s:=by
 obtain⟨m,hn,hl⟩:=id I.loc
 have hcls:(X.env.scope.kind== .class||(X.env.scope.kind== .module && X.env.locals !=X.env.globals))=false:=by rw[I.ok.kind];rfl
 have hiσ:i<σ.length:=by rw[I.len];exact(uL.mp hi).1
 have cne:=I.cne
 have tracked:∀{a:uF} {h':ux},(∃o,s.heap.get? a=Fk o/\H a=uC)->yU a s.heap h'->HOk X.prog X.w H h':=λ{a h'} ha hs b ob e=>by
  obtain⟨_,_,hfree⟩:=ha
  refine(I.hok b ob e).Ym (λc w' hc q=>(hs.2 c ?_).trans q) (λ_ q=>q) λ_ _ q=>q
  rintro rfl
  rcases hc with rfl|hc
  .rw[hfree]at e;cases e
  .rw[hfree]at hc;cases hc
 rcases hx with hk|hk
 .refine wpAny_storeName_local hk hn (λh' hn' hs=>?_) hcls
  obtain⟨oL,_,_,hoL,_⟩:=id hn
  refine h _ ⟨I.ok,I.os,I.bare,⟨λb o e n hb hx=>?_,λb o e n hb hx=>?_,I.base.free,λb o e hx=>?_,I.base.bD,I.base.X9,I.base.Yr⟩,⟨_,hn',λj y v' e1 e2 e3=>?_⟩,λy c e=>?_,I.free,I.L6,λp hp=>?_,tracked ⟨oL,hoL,I.free⟩ hs,by simpa using I.len⟩ ⟨_,hs,.inl rfl⟩
  .exact(hs.2 b (vB (uG (uZ e) I.ok.above))).trans (I.base.keep b o e n hb hx)
  .obtain⟨sl,e1⟩:=I.base.slot b o e n hb hx
   exact⟨sl,(hs.2 b (vB (uG (uZ e) I.ok.above))).trans e1⟩
  .obtain⟨o',e1⟩:=I.base.there b o e hx
   exact⟨o',(hs.2 b (vB (uG (uZ e) I.ok.above))).trans e1⟩
  .by_cases hj:j=i
   .subst hj
    rw[hi]at e1;cases e1
    rw[uS hiσ]at e2
    cases e2
    exact⟨u,r,.inl ⟨hk,by simp⟩⟩
   .rw[uK (wI hj)]at e2
    obtain⟨u',r',q⟩:=hl j y v' e1 e2 e3
    refine⟨u',r',?_⟩
    rcases q with⟨k,e⟩|⟨k,c,e,z⟩
    .refine .inl ⟨k,?_⟩
     have:y≠x:=λe=>hj (Uu hN e1 (e▸hi))
     simp[this,e]
    .exact .inr ⟨k,c,e,z.sameBut hs (cne y c e)⟩
  .obtain⟨w',z⟩:=I.cell y c e
   exact⟨w',z.sameBut hs (cne y c e)⟩
  .obtain⟨e,n,ne,nf,d⟩:=I.pin p hp
   exact⟨(hs.2 p.1 ne).trans e,n,ne,nf,d⟩
 .have hfn:X.fn x=true:=by
   rcases hf with z|z
   .exact z
   .rw[z]at hk;cases hk
  obtain⟨c,hc⟩:=I.ok.has x (.inl hk)
  obtain⟨w',z⟩:=I.cell x c hc
  refine wpAny_storeName_cell I.ok.kind hk hc z (λh' hc' hs=>?_)
  obtain⟨oc,hoc,hocd⟩:=id z
  refine h {s with heap:=h'} ⟨I.ok,I.os,I.bare,⟨λb o e n hb hx=>?_,λb o e n hb hx=>?_,I.base.free,λb o e hx=>?_,I.base.bD,I.base.X9,I.base.Yr⟩,⟨m,hn.sameBut hs (wI (cne x c hc)),λj y v' e1 e2 e3=>?_⟩,λy c' e=>?_,I.free,I.L6,λp hp=>?_,tracked ⟨oc,hoc,I.L6 x c hc⟩ hs,by simpa using I.len⟩ ⟨c,hs,.inr hc⟩
  .exact(hs.2 b (vB (uG (uZ e) (I.ok.cab x c hfn hc)))).trans (I.base.keep b o e n hb hx)
  .obtain⟨sl,e1⟩:=I.base.slot b o e n hb hx
   exact⟨sl,(hs.2 b (vB (uG (uZ e) (I.ok.cab x c hfn hc)))).trans e1⟩
  .obtain⟨o',e1⟩:=I.base.there b o e hx
   exact⟨o',(hs.2 b (vB (uG (uZ e) (I.ok.cab x c hfn hc)))).trans e1⟩
  .by_cases hj:j=i
   .subst hj
    rw[hi]at e1;cases e1
    rw[uS hiσ]at e2
    cases e2
    exact⟨u,r,.inr ⟨.inl hk,c,hc,hc'⟩⟩
   .rw[uK (wI hj)]at e2
    obtain⟨u',r',q⟩:=hl j y v' e1 e2 e3
    refine⟨u',r',?_⟩
    rcases q with q|⟨k,c',e,z'⟩
    .exact .inl q
    .refine .inr ⟨k,c',e,z'.sameBut hs ?_⟩
     rintro rfl
     exact hj (Uu hN e1 (I.ok.inj _ _ _ e hc▸hi))
  .by_cases hcc:c'=c
   .subst hcc;exact⟨_,hc'⟩
   .obtain⟨w2,z2⟩:=I.cell y c' e
    exact⟨w2,z2.sameBut hs hcc⟩
  .obtain⟨e,n,ne,nf,d⟩:=I.pin p hp
   refine⟨(hs.2 p.1 ?_).trans e,n,ne,nf,d⟩
   intro q
   rw[q,hoc]at e
   have q':oc=p.2:=vY e
   exact d w' (by rw[<-q'];exact hocd)
theorem Np{M:Model}{A:vF}{E:Wp->uE->Prop}{i:Nat}{x:Str}{v:V}{u:Wp}{Q:Unit->uE->Prop}(I:Inv X pins σ H s)(hN:X.N.Nodup)(hi:X.N[i]?=Fk x)(hx:Loc X.env.scope x)(r:RelV v u)(h:∀s',Inv X pins (σ.set i (Fk v)) H s'->Q () s')(hf:X.fn x=true\/X.env.scope.names.lookup x=Fk .local:=by first|exact .inl rfl|exact .inr rfl|assumption):wpAny M A (storeName X.env x u) Q E s:=
 Rn I hN hi hx r (λs' I' _=>h s' I') hf
theorem Inv.dy{s':uE}{ch:Gc uF}(I:Inv X pins σ H s)(ho:s'.os=s.os)(u:Un (frs X.stack) ch H H' s.heap s'.heap)(hok:HOk X.prog X.w H' s'.heap)(hg:yR s'.gens)(hch:∀b∈ch,(b∈X.ex\/X.s₀.heap.objs.size<=b)/\b≠X.env.locals/\(∀x c,X.env.cells.lookup x=Fk c->c≠b)/\∀p∈X.pn++pins,p.1≠b):Inv X pins σ H' s':=by
 obtain⟨h',g',d',t',o'⟩:=s'
 have e:o'=s.os:=ho
 subst e
 exact I.call (g':=g') (t':=t') (d':=d') u hok hg hch
end
abbrev XK:=Wp->uD uF->Hp->Prop
abbrev St:=Gc (uD V)
abbrev VK:=V->Hp->Prop
abbrev TE:=St->Hp->VK->Prop
abbrev TT:=St->Hp->(vE->Hp->Prop)->Prop
abbrev TA:=St->Hp->(Gc V->Hp->Prop)->Prop
structure Ends where
 nx:St->Hp->Prop
 rt:VK
 bk:St->Hp->Prop:=λ_ _=>wk
 ct:St->Hp->Prop:=λ_ _=>wk
abbrev TS:=Ends->St->Hp->Prop
def EP(X:Cx)(pins:Gc (uF×Obj))(σ:St)(Q:VK)(u:Wp)(s':uE):Prop:=∃v H',Inv X pins σ H' s'/\RelV v u/\Q v H'
def TP(X:Cx)(pins:Gc (uF×Obj))(σ:St)(Q:vE->Hp->Prop)(b:vE)(s':uE):Prop:=∃H',Inv X pins σ H' s'/\Q b H'
def AP(X:Cx)(pins:Gc (uF×Obj))(σ:St)(Q:Gc V->Hp->Prop)(us:Gc Wp)(s':uE):Prop:=∃vs H',Inv X pins σ H' s'/\Vals vs us/\Q vs H'
def SP(X:Cx)(pins:Gc (uF×Obj))(D:Ends)(f:Flow)(s':uE):Prop:=
 match f with
 | .next=>∃σ' H',Inv X pins σ' H' s'/\D.nx σ' H'
 | .brk=>∃σ' H',Inv X pins σ' H' s'/\D.bk σ' H'
 | .cont=>∃σ' H',Inv X pins σ' H' s'/\D.ct σ' H'
 | .ret u=>∃v σ' H',Inv X pins σ' H' s'/\RelV v u/\D.rt v H'
def PE(X:Cx)(e:uh)(t:TE):Prop:=
 ∀(pins:Gc (uF×Obj)) (s:uE) (σ:St) (H:Hp) (Q:VK),Inv X pins σ H s->t σ H Q->wpAny (model X.prog X.w) X.A (eval e X.env) (EP X pins σ Q) X.xe s
def PT(X:Cx)(e:uh)(t:TT):Prop:=
 ∀(pins:Gc (uF×Obj)) (s:uE) (σ:St) (H:Hp) (Q:vE->Hp->Prop),Inv X pins σ H s->t σ H Q->wpAny (model X.prog X.w) X.A (isTrue e X.env (eval e X.env)) (TP X pins σ Q) X.xe s
def PW(X:Cx)(e:uh)(t:TT):Prop:=
 ∀(whole:Sem Wp) (pins:Gc (uF×Obj)) (s:uE) (σ:St) (H:Hp) (Q:vE->Hp->Prop),Inv X pins σ H s->t σ H Q->wpAny (model X.prog X.w) X.A (isTrue e X.env whole) (TP X pins σ Q) X.xe s
theorem PW.pt{X:Cx}{e:uh}{t:TT}(h:PW X e t):PT X e t:=h _
def PA(X:Cx)(es:Gc uh)(t:TA):Prop:=
 ∀(pos:Pos) (pins:Gc (uF×Obj)) (s:uE) (σ:St) (H:Hp) (Q:Gc V->Hp->Prop),Inv X pins σ H s->t σ H Q->wpAny (model X.prog X.w) X.A (spliced (backTo pos (ue es X.env))) (AP X pins σ Q) X.xe s
def PS(X:Cx)(st:vC)(t:TS):Prop:=
 ∀(pins:Gc (uF×Obj)) (s:uE) (σ:St) (H:Hp) (D:Ends),Inv X pins σ H s->t D σ H->wpAny (model X.prog X.w) X.A (exec st X.env) (SP X pins D) X.xe s
def PSs(X:Cx)(st:Gc vC)(t:TS):Prop:=
 ∀(pins:Gc (uF×Obj)) (s:uE) (σ:St) (H:Hp) (D:Ends),Inv X pins σ H s->t D σ H->wpAny (model X.prog X.w) X.A (execs st X.env) (SP X pins D) X.xe s
theorem thn{α:Type}{t:Sem α}{Q Q':α->uE->Prop}{M:Model}{A:vF}{E:Wp->uE->Prop}{s:uE}(h:wpAny M A t Q E s)(hQ:∀a s,Q a s->Q' a s):wpAny M A t Q' E s:=wB h hQ λ_ _ x=>x
end L2
namespace L2
open PySem PySem.Spec PyProof.Rows
section
variable{X:Cx}
noncomputable def sf(i:Nat):TE:=λσ H Q=>∃v,σ[i]?=Fk (Fk v)/\Q v H
noncomputable def tC(v:V):TE:=λ_ H Q=>Q v H
theorem YS{i:Nat}{x:Str}{pos:Pos}(hN:X.N[i]?=Fk x)(hv:Vis X.env.scope x)(hd:(x==("__debug__":Str))=false:=by decide)(hcd:(x==("__classdict__":Str))=false:=by decide):PE X (.Name x pos) (sf i):=by
 intro pins s σ H Q I h
 obtain⟨v,e,h⟩:=h
 obtain⟨m,hn,hl⟩:=I.loc
 obtain⟨u,r,l⟩:=hl i x v hN e hv
 have fin:EP X pins σ Q u s:=⟨v,H,I,r,h⟩
 rcases l with⟨hk,hm⟩|⟨hk,c,hc,hcell⟩
 .exact wpAny_Name (wpAny_loadName_local I.ok.kind hk hn hm fin) hd
 .rcases hk with hk|hk
  .exact wpAny_Name (wpAny_loadName_cell I.ok.kind hk hc hcell fin) hd
  .exact wpAny_Name (wpAny_loadName_free I.ok.kind hk hc hcell fin hcd) hd
theorem cG{i j pos}:PE X (.Constant (.int i) j pos) (tC (.int i)):=λ_ _ _ H _ I h=>wpAny_Constant_int ⟨.int i,H,I.tok _,⟨_,rfl⟩,h⟩
theorem pO{b j pos}:PE X (.Constant (.bool b) j pos) (tC (.bl b)):=λ_ _ _ H _ I h=>Constant_bool ⟨.bl b,H,I,rfl,h⟩
theorem jn{j pos}:PE X (.Constant .none j pos) (tC .non):=λ_ _ _ H _ I h=>Constant_none ⟨.non,H,I,rfl,h⟩
theorem kc{x j pos}:PE X (.Constant (.str x) j pos) (tC (.str x)):=λ_ _ _ H _ I h=>Calls.Constant_str ⟨.str x,H,I.tok _,⟨_,rfl⟩,h⟩
def Gl(X:Cx)(x:Str):Prop:=X.env.kindOf x=Fk .globalImplicit
theorem N2{E:Wp->uE->Prop}{pins:Gc (uF×Obj)}{s:uE}{σ:St}{H:Hp}{x:Str}{u:Wp}{pos:Pos}{Q:Wp->uE->Prop}(I:Inv X pins σ H s)(hg:Gl X x)(hm:X.mg x=Fk u)(h:Q u s)(hd:(x==("__debug__":Str))=false:=by decide):wpAny (model X.prog X.w) X.A (eval (.Name x pos) X.env) Q E s:=
 xt I.ok.kind hg (zw (by rw[I.ok.glob];exact I.mod.glob.keeps I.bk) hm h) hd
theorem Mr{E:Wp->uE->Prop}{pins:Gc (uF×Obj)}{s:uE}{σ:St}{H:Hp}{x:Str}{u:Wp}{pos:Pos}{Q:Wp->uE->Prop}(I:Inv X pins σ H s)(hg:Gl X x)(hm:X.mg x=uC)(hv:bootBuiltins x=Fk u)(h:Q u s)(hn:x≠ "__name__":=by decide)(hd:(x==("__debug__":Str))=false:=by decide):wpAny (model X.prog X.w) X.A (eval (.Name x pos) X.env) Q E s:=by
 obtain⟨mb,h1,h2⟩:=I.mod.blt
 exact xt I.ok.kind hg (Calls.loadGlobal_builtin (by rw[I.ok.glob];exact I.mod.glob.keeps I.bk) hm (by rw[I.ok.blt];exact h1.keeps I.bk) ((h2 x hn).trans hv) h) hd
theorem gM{x:Str}{v:V}{u:Wp}{pos:Pos}(hg:Gl X x)(hm:X.mg x=Fk u)(r:RelV v u)(hd:(x==("__debug__":Str))=false:=by decide):PE X (.Name x pos) (tC v):=
 λ_ _ _ H _ I h=>N2 I hg hm ⟨v,H,I,r,h⟩ hd
theorem fV{x:Str}{v:V}{u:Wp}{pos:Pos}(hg:Gl X x)(hm:X.mg x=uC)(hv:bootBuiltins x=Fk u)(r:RelV v u)(hn:x≠ "__name__":=by decide)(hd:(x==("__debug__":Str))=false:=by decide):PE X (.Name x pos) (tC v):=
 λ_ _ _ H _ I h=>Mr I hg hm hv ⟨v,H,I,r,h⟩ hn hd
variable{a b:uh}{ta tb:TE}{pos:Pos}
noncomputable def tB(t:TE):TT:=λσ H Q=>t σ H λx H1=>∃c,x=.bl c/\Q c H1
theorem i0{e:uh}{t:TE}(h:PE X e t)(he:∀whole,isTrue e X.env whole=(do let v<-whole;standAt e.pos;holding [v] (truthy v)):=by intro _;rfl):PT X e (tB t):=by
 intro pins s σ H Q I hw
 refine isTrue_plain (thn (h pins s σ H _ I hw) λv s1 ⟨x,H1,I1,r1,q1⟩=>?_) (he _)
 obtain⟨d,rfl,q⟩:=q1
 cases r1
 exact xo ⟨H1,I1,q⟩
variable{tA tB':TT}{rest:Gc uh}
noncomputable def rK(t u:TT):TT:=λσ H Q=>t σ H λc H1=>if c=true then u σ H1 Q else Q false H1
noncomputable def tOr(t u:TT):TT:=λσ H Q=>t σ H λc H1=>if c=true then Q true H1 else u σ H1 Q
noncomputable def sQ(t:TT):TT:=λσ H Q=>t σ H λc H1=>Q (!c) H1
theorem dm(ha:PT X a tA):PW X (.BoolOp .And [a] pos) tA:=by
 intro wh pins s σ H Q I h
 refine isTrue_and (thn (ha pins s σ H Q I h) λc s1 e=>?_)
 cases c with
 |true=>exact isTrue_and_nil e
 |false=>exact e
theorem iS(ha:PT X a tA):PW X (.BoolOp .Or [a] pos) tA:=by
 intro wh pins s σ H Q I h
 refine isTrue_or (thn (ha pins s σ H Q I h) λc s1 e=>?_)
 cases c with
 |false=>exact isTrue_or_nil e
 |true=>exact e
theorem iQ(ha:PT X a tA)(hb:PW X (.BoolOp .And (b::rest) pos) tB'):PW X (.BoolOp .And (a::b::rest) pos) (rK tA tB'):=by
 intro wh pins s σ H Q I h
 refine isTrue_and (thn (ha pins s σ H _ I h) λc s1 ⟨H1,I1,q1⟩=>?_)
 cases c with
 |true=>exact hb wh pins s1 σ H1 Q I1 q1
 |false=>exact⟨H1,I1,q1⟩
theorem my(ha:PT X a tA)(hb:PW X (.BoolOp .Or (b::rest) pos) tB'):PW X (.BoolOp .Or (a::b::rest) pos) (tOr tA tB'):=by
 intro wh pins s σ H Q I h
 refine isTrue_or (thn (ha pins s σ H _ I h) λc s1 ⟨H1,I1,q1⟩=>?_)
 cases c with
 |true=>exact⟨H1,I1,q1⟩
 |false=>exact hb wh pins s1 σ H1 Q I1 q1
theorem jP(ha:PT X a tA):PT X (.UnaryOp .Not a pos) (sQ tA):=by
 intro pins s σ H Q I h
 exact isTrue_not (ha pins s σ H (λc H1=>Q (!c) H1) I h)
noncomputable def pM(ta tb:TE):TE:=λσ H Q=>ta σ H λx H1=>∃c,x=.bl c/\if c=true then tb σ H1 Q else Q (.bl false) H1
noncomputable def pD(ta:TE):TE:=λσ H Q=>ta σ H λx H1=>∃c,x=.bl c/\Q (.bl (!c)) H1
theorem kZ{op}{t:TE}(h:PE X a t):PE X (.BoolOp op [a] pos) t:=λpins s σ H Q I hw=>BoolOp_one (h pins s σ H Q I hw)
theorem kl(ha:PE X a ta)(hb:PE X (.BoolOp .And (b::rest) pos) tb):PE X (.BoolOp .And (a::b::rest) pos) (pM ta tb):=by
 intro pins s σ H Q I h
 refine BoolOp_and (thn (ha pins s σ H _ I h) λv s1 ⟨x,H1,I1,r1,q1⟩=>?_)
 obtain⟨c,rfl,q1⟩:=q1
 cases r1
 refine xo ?_
 cases c with
 |true=>exact hb pins s1 σ H1 Q I1 q1
 |false=>exact⟨.bl false,H1,I1,rfl,q1⟩
theorem ij(ha:PE X a ta):PE X (.UnaryOp .Not a pos) (pD ta):=by
 intro pins s σ H Q I h
 refine UnaryOp_ (thn (ha pins s σ H _ I h) λv s1 ⟨x,H1,I1,r1,q1⟩=>?_)
 obtain⟨c,rfl,q1⟩:=q1
 cases r1
 exact not_of (xo ⟨.bl (!c),H1,I1,rfl,q1⟩)
noncomputable def tIf(t:TT)(ta tb:TE):TE:=λσ H Q=>t σ H λc H1=>if c=true then ta σ H1 Q else tb σ H1 Q
theorem ag{c:uh}(hc:PT X c tA)(ha:PE X a ta)(hb:PE X b tb):PE X (.IfExp c a b pos) (tIf tA ta tb):=by
 intro pins s σ H Q I h
 refine wpAny_IfExp (thn (hc pins s σ H _ I h) λd s1 ⟨H1,I1,q1⟩=>?_)
 cases d with
 |true=>exact ha pins s1 σ H1 Q I1 q1
 |false=>exact hb pins s1 σ H1 Q I1 q1
end
end L2
namespace L2
open PySem PySem.Spec PyProof.Rows
def SqL(K:KE)(H:Hp)(a:uF)(xs:Gc V):Prop:=
 Rd H a (.lst xs)∨
  ∃(o:Obj) (its:vQ Wp) (n:Nat),K.lookup a=Fk o/\o.cls=.type "list" /\o.dict=uC/\o.data=.seq its n/\its.size<=sizeLine/\Vals xs its.toList
def SqT(K:KE)(H:Hp)(a:uF)(xs:Gc V):Prop:=
 Rd H a (.tup xs)∨
  ∃(o:Obj) (its:vQ Wp) (n:Nat),K.lookup a=Fk o/\o.cls=.type "tuple" /\o.data=.seq its n/\its.size<=sizeLine/\Vals xs its.toList
noncomputable def tJ:Wp->uD V
 | .none=>Fk .non
 | .bool b=>Fk (.bl b)
 | .int i _=>Fk (.int i)
 | .str x _=>Fk (.str x)
 | .bytes b _=>Fk (.byt b)
 | .float b _=>Fk (.flt b)
 | .ref a=>Fk (.ref a)
 | .type n=>Fk (.ty n)
 |_=>uC
theorem RelV.abs{x:V}{u:Wp}(r:RelV x u):tJ u=Fk x:=by
 cases x with
 |non=>cases r;rfl
 |bl _=>cases r;rfl
 |int _=>obtain⟨t,rfl⟩:=r;rfl
 |str _=>obtain⟨t,rfl⟩:=r;rfl
 |byt _=>obtain⟨t,rfl⟩:=r;rfl
 |flt _=>obtain⟨t,rfl⟩:=r;rfl
 |ref _=>cases r;rfl
 |ty _=>cases r;rfl
theorem RelV.inj{x y:V}{u:Wp}(r:RelV x u)(q:RelV y u):x=y:=vY (r.abs.symm.trans q.abs)
theorem Vals.inj:∀{xs ys:Gc V} {us:Gc Wp},Vals xs us->Vals ys us->xs=ys
 |_,_,_,.nil,.nil=>rfl
 |_,_,_,.cons r t,.cons r' t'=>by rw[r.inj r',Vals.inj t t']
section
variable{X:Cx}{pins:Gc (uF×Obj)}{σ:St}{H:Hp}{s:uE}{a:uF}{xs ys:Gc V}
theorem SqL.of{K:KE}(h:H a=Fk (.lst xs)):SqL K H a xs:=.inl (.inl h)
theorem SqT.of{K:KE}(h:H a=Fk (.tup xs)):SqT K H a xs:=.inl (.inl h)
theorem Inv.list(I:Inv X pins σ H s)(h:SqL X.K H a xs):∃its:Gc Wp,Vals xs its/\PlainL s.heap a its.toArray/\xs.length<=sizeLine:=by
 rcases h with h|⟨o,its,n,hk,hc,hd,hs,hz,r⟩
 .obtain⟨z,its,n,r,e⟩:=h.ok I.hok
  exact⟨its,r,⟨_,n,e,rfl,rfl,rfl⟩,z⟩
 .refine⟨its.toList,r,⟨o,n,I.kIn a o hk,hc,hd,by simpa using hs⟩,?_⟩
  have e:=r.length
  simp only[y8]at e
  lia
theorem Inv.tuple(I:Inv X pins σ H s)(h:SqT X.K H a xs):∃its:Gc Wp,Vals xs its/\IsTup s.heap a its.toArray/\xs.length<=sizeLine:=by
 rcases h with h|⟨o,its,n,hk,hc,hs,hz,r⟩
 .obtain⟨z,its,r,p⟩:=h.ok I.hok
  exact⟨its,r,p,z⟩
 .refine⟨its.toList,r,⟨o,I.kIn a o hk,hc,n,by simpa using hs⟩,?_⟩
  have e:=r.length
  simp only[y8]at e
  lia
theorem Inv.U5(I:Inv X pins σ H s)(h:SqL X.K H a xs)(h':SqL X.K H a ys):xs=ys:=by
 obtain⟨its,r,⟨o,n,e,_,_,d⟩,_⟩:=I.list h
 obtain⟨its',r',⟨o',n',e',_,_,d'⟩,_⟩:=I.list h'
 rw[e]at e';cases e'
 rw[d]at d'
 injection d' with d1 _
 have:its=its':=by simpa using congrArg Array.toList d1
 subst this
 exact r.inj r'
theorem Inv.Rj(I:Inv X pins σ H s)(h:SqT X.K H a xs)(h':SqT X.K H a ys):xs=ys:=by
 obtain⟨its,r,⟨o,e,_,n,d⟩,_⟩:=I.tuple h
 obtain⟨its',r',⟨o',e',_,n',d'⟩,_⟩:=I.tuple h'
 rw[e]at e';cases e'
 rw[d]at d'
 injection d' with d1 _
 have:its=its':=by simpa using congrArg Array.toList d1
 subst this
 exact r.inj r'
end
abbrev Cx.WC(X:Cx)(E:Wp->uE->Prop):Cx:={X with xe:=E}
abbrev Cx.nox(X:Cx):Cx:=X.WC λ_ _=>wk
theorem Cx.Ok.WC{X:Cx}(ok:X.Ok)(E:Wp->uE->Prop):(X.WC E).Ok:=
 ⟨ok.mod,ok.kind,ok.glob,ok.blt,ok.above,ok.inj,ok.has,ok.cab,ok.hd,ok.frames,ok.stk,ok.exf,ok.bs,ok.bsz,ok.dX,ok.eU,ok.U1,ok.frf⟩
theorem Cx.Ok.NP{X:Cx}{E:Wp->uE->Prop}(ok:(X.WC E).Ok):X.Ok:=
 ⟨ok.mod,ok.kind,ok.glob,ok.blt,ok.above,ok.inj,ok.has,ok.cab,ok.hd,ok.frames,ok.stk,ok.exf,ok.bs,ok.bsz,ok.dX,ok.eU,ok.U1,ok.frf⟩
section
variable{X:Cx}{pins:Gc (uF×Obj)}{σ:St}{H:Hp}{s:uE}{E:Wp->uE->Prop}
theorem Inv.WC(I:Inv X pins σ H s)(E:Wp->uE->Prop):Inv (X.WC E) pins σ H s:=⟨I.ok.WC E,I.os,I.bare,I.base,I.loc,I.cell,I.free,I.L6,I.pin,I.hok,I.len⟩
theorem Inv.NP(I:Inv (X.WC E) pins σ H s):Inv X pins σ H s:=⟨I.ok.NP,I.os,I.bare,I.base,I.loc,I.cell,I.free,I.L6,I.pin,I.hok,I.len⟩
theorem SP.NP{D:Ends}{f:Flow}{s':uE}(h:SP (X.WC E) pins D f s'):SP X pins D f s':=by
 cases f with
 |next=>obtain⟨σ',H',I,q⟩:=h;exact⟨σ',H',I.NP,q⟩
 |brk=>obtain⟨σ',H',I,q⟩:=h;exact⟨σ',H',I.NP,q⟩
 |cont=>obtain⟨σ',H',I,q⟩:=h;exact⟨σ',H',I.NP,q⟩
 |ret u=>obtain⟨v,σ',H',I,r,q⟩:=h;exact⟨v,σ',H',I.NP,r,q⟩
theorem PSs.nox{st:Gc vC}{t:TS}(h:PSs X.nox st t):PSs X st t:=λpins s σ H D I hw=>
 wB (h pins s σ H D (I.WC _) hw) (λ_ _ q=>q.NP) λ_ _ z=>wC z
end
section
variable{X:Cx}{st:vC}{rest:Gc vC}{t u:TS}{e:uh}{te:TE}{pos:Pos}
noncomputable def oA:TS:=λD σ H=>D.nx σ H
noncomputable def rL(t u:TS):TS:=λD σ H=>t {D with nx:=u D} σ H
theorem fF:PSs X [] oA:=λ_ _ σ H _ I h=>yM ⟨σ,H,I,h⟩
theorem U3(h1:PS X st t)(h2:PSs X rest u):PSs X (st::rest) (rL t u):=by
 intro pins s σ H D I h
 refine xV (thn (h1 pins s σ H {D with nx:=u D} I h) λf s1 q=>?_)
 cases f with
 |next=>
  obtain⟨σ',H',I',q⟩:=q
  exact h2 pins s1 σ' H' D I' q
 |ret v=>exact q
 |brk=>exact q
 |cont=>exact q
theorem Tv(h1:PS X st t):PSs X [st] t:=by
 intro pins s σ H D I h
 refine xV (thn (h1 pins s σ H D I h) λf s1 q=>?_)
 cases f with
 |next=>exact yM q
 |ret v=>exact q
 |brk=>exact q
 |cont=>exact q
theorem Inv.quiet{pins:Gc (uF×Obj)}{σ:St}{H:Hp}{s:uE}(I:Inv X pins σ H s):interactive X.env=false:=by simp[interactive,I.ok.kind]
noncomputable def pU(te:TE):TS:=λD σ H=>te σ H λ_ H1=>D.nx σ H1
theorem YF(he:PE X e te)(hs:swapsWith e uC pos.line X.env=pure false:=by rfl):PS X (.Expr e pos) (pU te):=by
 intro pins s σ H D I h
 exact AAk (thn (he pins s σ H _ I h) λv s1 ⟨x,H1,I1,r1,q1⟩=>⟨σ,H1,I1,q1⟩) I.quiet hs
noncomputable def sO(te:TE):TS:=λD σ H=>te σ H D.rt
theorem jK(he:PE X e te):PS X (.Return (Fk e) pos) (sO te):=by
 intro pins s σ H D I h
 exact wpAny_Return_some (thn (he pins s σ H _ I h) λv s1 ⟨x,H1,I1,r1,q1⟩=>⟨x,σ,H1,I1,r1,q1⟩)
noncomputable def rQ(c:TT)(t u:TS):TS:=λD σ H=>c σ H λb H1=>if b=true then t D σ H1 else u D σ H1
theorem oZ{c:uh}{a b:Gc vC}{tc:TT}(hc:PT X c tc)(ha:PSs X a t)(hb:PSs X b u):PS X (.If c a b pos) (rQ tc t u):=by
 intro pins s σ H D I h
 refine wpAny_If (thn (hc pins s σ H _ I h) λd s1 ⟨H1,I1,q1⟩=>?_)
 cases d with
 |true=>exact ha pins s1 σ H1 D I1 q1
 |false=>exact hb pins s1 σ H1 D I1 q1
end
abbrev TG:=V->St->Hp->(St->Hp->Prop)->Prop
abbrev TGs:=Gc V->St->Hp->(St->Hp->Prop)->Prop
def PG(X:Cx)(target:uh)(t:TG):Prop:=
 ∀(pins:Gc (uF×Obj)) (s:uE) (σ:St) (H:Hp) (v:V) (u:Wp) (Q:St->Hp->Prop),Inv X pins σ H s->RelV v u->t v σ H Q->
  wpAny (model X.prog X.w) X.A (assign target X.env u) (λ_ s'=>∃σ' H',Inv X pins σ' H' s'/\Q σ' H') X.xe s
def PGs(X:Cx)(ts:Gc uh)(t:TGs):Prop:=
 ∀(pins:Gc (uF×Obj)) (s:uE) (σ:St) (H:Hp) (vs:Gc V) (us:Gc Wp) (Q:St->Hp->Prop),Inv X pins σ H s->Vals vs us->t vs σ H Q->
  wpAny (model X.prog X.w) X.A (assignInOrder ((assignEach ts X.env).map (·.2)) us) (λ_ s'=>∃σ' H',Inv X pins σ' H' s'/\Q σ' H') X.xe s
abbrev nD:=V->V->V->Hp->(Hp->Prop)->Prop
def qp(X:Cx)(t:nD):Prop:=
 ∀(pins:Gc (uF×Obj)) (s:uE) (σ:St) (H:Hp) (o i v:V) (ov iv u:Wp) (Q:Hp->Prop),Inv X pins σ H s->RelV o ov->RelV i iv->RelV v u->t o i v H Q->
  wpAny (model X.prog X.w) X.A (setItem ov iv u) (λ_ s'=>∃H',Inv X pins σ H' s'/\Q H') X.xe s
section
variable{X:Cx}{pos:Pos}
noncomputable def gE(i:Nat):TG:=λv σ H Q=>Q (σ.set i (Fk v)) H
theorem gj{i:Nat}{x:Str}(hN:X.N.Nodup)(hi:X.N[i]?=Fk x)(hx:Loc X.env.scope x)(hf:X.fn x=true\/X.env.scope.names.lookup x=Fk .local:=by first|exact .inl rfl|exact .inr rfl|assumption):PG X (.Name x pos) (gE i):=by
 intro pins s σ H v u Q I r h
 exact wpAny_assign_Name (Np I hN hi hx r (λs' I'=>⟨_,H,I',h⟩) hf)
noncomputable def qx:TGs:=λvs σ H Q=>vs=[]/\Q σ H
noncomputable def kY(t:TG)(u:TGs):TGs:=λvs σ H Q=>∃v r,vs=v::r/\t v σ H λσ' H'=>u r σ' H' Q
theorem eP:PGs X [] qx:=by
 intro pins s σ H vs us Q I r h
 obtain⟨e,h⟩:=h
 subst e
 cases r
 exact assignInOrder_nil ⟨σ,H,I,h⟩
theorem bC{e:uh}{es:Gc uh}{t:TG}{u:TGs}(h1:PG X e t)(h2:PGs X es u)(hs:(assignEach (e::es) X.env).map (·.2)=assign e X.env::(assignEach es X.env).map (·.2):=by rfl):PGs X (e::es) (kY t u):=by
 intro pins s σ H vs us Q I r h
 obtain⟨v,vr,e1,h⟩:=h
 subst e1
 cases r with
 |cons r rr=>
  rw[hs]
  refine zJ (thn (h1 pins s σ H _ _ _ I r h) λ_ s1 ⟨σ1,H1,I1,q1⟩=>?_)
  exact h2 pins s1 σ1 H1 _ _ Q I1 rr q1
noncomputable def rS(K:KE)(n:Nat)(t:TGs):TG:=λv σ H Q=>∃a xs,v=.ref a/\SqT K H a xs/\xs.length=n/\t xs σ H Q
theorem jY{es:Gc uh}{k:Nat}{t:TGs}{n:Nat}(hc:X.calm=true)(h:PGs X es t)(hn:(assignEach es X.env).length=n:=by rfl)(hst:(assignEach es X.env).findIdx? (·.1)=none:=by rfl):PG X (.Tuple es k pos) (rS X.K n t):=by
 intro pins s σ H v u Q I r hw
 obtain⟨a,xs,e1,hq,hl,hw⟩:=hw
 subst e1
 cases r
 obtain⟨its,rv,ht,hz⟩:=I.tuple hq
 refine assign_Tuple_tuple (I.ok.hd hc) ht (by simp[hn,<-hl,rv.length]) hst λh' hx=>?_
 have I1:Inv X pins σ H {s with heap:=h'}:=I.kept (t':=s.toks) λb o e=>hx b o (vB (uZ e)) e
 exact h pins _ σ H xs _ Q I1 (by simpa using rv) hw
noncomputable def rG(to ti:TE)(t:nD):TG:=λv σ H Q=>to σ H λo H1=>ti σ H1 λi H2=>t o i v H2 λH3=>Q σ H3
theorem kJ {o i : uh} {to ti : TE} {t : nD} (ho : PE X o to) (hi : PE X i ti) (hs : qp X t) (ha : ∀ v, assign (.Subscript o i pos) X.env v = (do
      let ov ← holding [v] (eval o X.env)
      let iv ← holding [v, ov] (eval i X.env)
      standAt pos
      holding [v, ov, iv] (setItem ov iv v)
      release [v, ov, iv] []) := by intro _; rfl) : PG X (.Subscript o i pos) (rG to ti t) := by
  intro pins s σ H v u Q I r h
  rw [ha]
  refine tz (wM (thn (ho pins s σ H _ I h) fun ov s1 ⟨x, H1, I1, r1, q1⟩ => ?_))
  refine tz (wM (thn (hi pins s1 σ H1 _ I1 q1) fun iv s2 ⟨y, H2, I2, r2, q2⟩ => ?_))
  refine tz (yH (tz (wM (thn (hs pins s2 σ H2 x y v ov iv u _ I2 r1 r2 r q2) fun _ s3 ⟨H3, I3, q3⟩ => ?_))))
  exact wpAny_release ⟨σ, H3, I3, q3⟩
noncomputable def oR(te:TE)(g:TG):TS:=λD σ H=>te σ H λx H1=>g x σ H1 D.nx
theorem cR{tg e:uh}{te:TE}{g:TG}(he:PE X e te)(hg:PG X tg g)(hs:swapsWithSole [tg] e pos.line X.env=pure false:=by rfl)(hw:swappedStores [tg] e X.env=pure none:=by rfl)(h1:(assignEach [tg] X.env).map (·.2)=[assign tg X.env]:=by rfl):PS X (.Assign [tg] e pos) (oR te g):=by
 intro pins s σ H D I h
 refine wpAny_Assign_stores (thn (he pins s σ H _ I h) λv s1 ⟨x,H1,I1,r1,q1⟩=>?_) hs hw
 rw[h1]
 exact thn (hg pins s1 σ H1 x v _ I1 r1 q1) λ_ s2 q=>q
theorem jX{i:Nat}{x:Str}{e:uh}{te:TE}{pos':Pos}(hN:X.N.Nodup)(hi:X.N[i]?=Fk x)(hx:Loc X.env.scope x)(he:PE X e te)(hs:swapsWith e (Fk (.Name x pos')) pos.line X.env=pure false:=by rfl)(hf:X.fn x=true\/X.env.scope.names.lookup x=Fk .local:=by first|exact .inl rfl|exact .inr rfl|assumption):PS X (.Assign [.Name x pos'] e pos) (oR te (gE i)):=by
 intro pins s σ H D I h
 refine wpAny_Assign_Name (thn (he pins s σ H _ I h) λv s1 ⟨y,H1,I1,r1,q1⟩=>?_) hs
 exact Np I1 hN hi hx r1 (λs2 I2=>⟨_,H1,I2,q1⟩) hf
noncomputable def su(i j:Nat)(ta:TA):TS:=λD σ H=>ta σ H λvs H1=>∃v w,vs=[v,w]/\D.nx ((σ.set i (Fk v)).set j (Fk w)) H1
theorem iM{i j:Nat}{x y:Str}{a b:uh}{ta:TA}{px py pt:Pos}{kt k2 pt2}(hc:X.calm=true)(hN:X.N.Nodup)(hi:X.N[i]?=Fk x)(hj:X.N[j]?=Fk y)(hij:i≠j)(hx:X.env.scope.names.lookup x=Fk .local)(hy:X.env.scope.names.lookup y=Fk .local)(ha:PA X [a,b] ta)(hw:swappedStores [.Tuple [.Name x px,.Name y py] kt pt] (.Tuple [a,b] k2 pt2) X.env=pure (Fk [x,y]))(hs:swapsWithSole [.Tuple [.Name x px,.Name y py] kt pt] (.Tuple [a,b] k2 pt2) pos.line X.env=pure false:=by rfl):PS X (.Assign [.Tuple [.Name x px,.Name y py] kt pt] (.Tuple [a,b] k2 pt2) pos) (su i j ta):=by
 intro pins s σ H D I h
 rw[exec_Assign_arm]
 refine tz (yH ?_)
 rw[hs]
 refine tz (uR ?_)
 rw[vH (by decide)]
 refine tz (Tuple_ (thn (ha _ pins s σ H _ I h) λus s1 ⟨vs,H1,I1,r1,q1⟩=>?_))
 obtain⟨v,w,e1,q1⟩:=q1
 subst e1
 obtain⟨u1,u2,rfl,rv,rw'⟩:∃u1 u2,us=[u1,u2]/\RelV v u1/\RelV w u2:=by
  cases r1 with
  |cons p q=>
   cases q with
   |cons p' q'=>
    cases q'
    exact⟨_,_,rfl,p,p'⟩
 refine vp ?_ (by show 2<=sizeLine;decide)
 have I2:Inv X pins σ H1 {s1 with heap:=s1.heap.push {cls:=.type "tuple",data:=.seq [u1,u2].toArray}}:=I1.kept (t':=s1.toks) λb o e=>uB _ e
 rw[hw]
 refine tz (uR ?_)
 show wpAny (model X.prog X.w) X.A (do rule "assign.swapped-stores"; let items<-unpackItems (.ref s1.heap.objs.size) 2 uC;assignInOrder [λv=>bindName X.env y v,λv=>bindName X.env x v] items.reverse;pure Flow.next) _ _ _
 refine tz (AAF (tz (unpackItems_tuple (items:= #[u1,u2]) (I.ok.hd hc) (xS s1.heap _) λh' hx'=>?_)))
 have I3:=I2.kept (h':=h') (t':=s1.toks) λb o e=>hx' b o (vB (uZ e)) e
 show wpAny _ _ (assignInOrder [λv=>bindName X.env y v,λv=>bindName X.env x v] [u2,u1] >>= λ_=>pure Flow.next) _ _ _
 refine tz (zJ (wpAny_bindName (Np I3 hN hj (.inl hy) rw' (λs2 I4=>?_) (.inr hy))))
 refine zJ (wpAny_bindName (Np I4 hN hi (.inl hx) rv (λs3 I5=>assignInOrder_nil (uR ?_)) (.inr hx)))
 rw[List.set_comm _ _ (wI hij)]at I5
 exact⟨_,H1,I5,q1⟩
end
section
variable{X:Cx}{pos:Pos}
noncomputable def jD(c:TT)(tb:TS):TS:=λD σ H=>∃W:Nat->St->Hp->Prop,(∃m,W m σ H)/\∀m σ H,W m σ H->
 c σ H λb H1=>if b=true then∃N:St->Hp->Prop,(∀σ' H',N σ' H'->∃m',m'<m/\W m' σ' H')/\tb {D with nx:=N,ct:=N,bk:=D.nx} σ H1 else D.nx σ H1
theorem ZD{c:uh}{body:Gc vC}{tc:TT}{tb:TS}(hp:PassesOwn (model X.prog X.w) X.A X.env X.xe)(hc:PT X c tc)(hb:PSs X body tb):PS X (.While c body [] pos) (jD tc tb):=by
 intro pins s σ H D I h
 obtain⟨W,⟨m0,w0⟩,turn⟩:=h
 refine wpAny_While (codeAny_whileLoop (λn s'=>∃σ' H',Inv X pins σ' H' s'/\W n σ' H') ?_ m0 ⟨σ,H,I,w0⟩)
 rintro n s1 ⟨σ1,H1,I1,w1⟩
 refine xK hp (thn (hc pins s1 σ1 H1 _ I1 (turn n σ1 H1 w1)) λb s2 ⟨H2,I2,q2⟩=>?_)
 cases b with
 |true=>
  obtain⟨N,hN,q2⟩:=q2
  rw[vD rfl]
  refine xK hp (thn (hb pins s2 σ1 H2 _ I2 q2) λf s3 q3=>?_)
  cases f with
  |next=>
   obtain⟨σ3,H3,I3,n3⟩:=q3
   obtain⟨m',hm,w3⟩:=hN σ3 H3 n3
   exact⟨m',hm,σ3,H3,I3,w3⟩
  |cont=>
   obtain⟨σ3,H3,I3,n3⟩:=q3
   obtain⟨m',hm,w3⟩:=hN σ3 H3 n3
   exact⟨m',hm,σ3,H3,I3,w3⟩
  |brk=>exact q3
  |ret v=>exact q3
 |false=>
  rw[vH vS]
  exact yM ⟨σ1,H2,I2,q2⟩
end
structure It where
 go:Nat->Hp->Prop
 yld:Nat->Hp->V->Hp->Prop
 stop:Nat->Hp->Prop
def TQ(X:Cx)(pins:Gc (uF×Obj))(H:Hp)(b:uF):Prop:=
 H b=uC/\b≠X.env.locals/\b∉X.fs/\(b∈X.ex\/X.s₀.heap.objs.size<=b)/\(∀x c,X.env.cells.lookup x=Fk c->c≠b)/\∀p∈X.pn++pins,p.1≠b
theorem Inv.fW{X:Cx}{pins:Gc (uF×Obj)}{σ:St}{H H':Hp}{s:uE}{b:uF}(I:Inv X pins σ H s)(hb:s.heap.objs.size<=b)(hn:H' b=uC):TQ X pins H' b:=by
 refine⟨hn,Nat.ne_of_gt (uG I.lt hb),I.tF hb,.inr (uO I.sz hb),λx c e z=>?_,λp hp z=>?_⟩
 .obtain⟨v,q⟩:=I.cell x c e
  exact absurd (uG q.lt (by rw[z];exact hb)) (vw _)
 .exact absurd (uG (uZ (I.pin p hp).1) (by rw[z];exact hb)) (vw _)
structure Turn(P:ug)(w:vG)(K:KE)(tg:uh)(J:It)(fp:Gc uF)(it:uF)(tn:Nat->ux->Prop):Prop where
 mem:it∈fp
 obj:∀i h,tn i h->∀b∈fp,∃o,h.get? b=Fk o/\∀v,o.data≠.cell v
 keep:∀i h h',tn i h->(∀b∈fp,∀o,h.get? b=Fk o->h'.get? b=Fk o)->tn i h'
 item:∀(X:Cx),X.prog=P->X.w=w->X.K=K->X.calm=true->∀(i:Nat) (pins:Gc (uF×Obj)) (s:uE) (σ:St) (H:Hp) (E:Wp->uE->Prop),Inv X pins σ H s->(∀b∈fp,TQ X pins H b)->tn i s.heap->J.go i H->
  wpAny (model P w) X.A (pyNext (.ref it)) (λr s1=>∃u,r=Fk u/\
   wpAny (model P w) X.A (letOwnedTupleGo tg (.ref it) u) (λ_ s2=>∃x H',Inv X pins σ H' s2/\RelV x u/\J.yld i H x H'/\tn (i+1) s2.heap/\∀b∈fp,H' b=uC) E s1) E s
 done:∀(X:Cx),X.prog=P->X.w=w->X.K=K->X.calm=true->∀(i:Nat) (pins:Gc (uF×Obj)) (s:uE) (σ:St) (H:Hp) (E:Wp->uE->Prop),Inv X pins σ H s->(∀b∈fp,TQ X pins H b)->tn i s.heap->J.stop i H->
  wpAny (model P w) X.A (pyNext (.ref it)) (λr s1=>r=uC/\Inv X pins σ H s1) E s
 self:∀(A:vF) (i:Nat) (s:uE) (Q:Wp->uE->Prop) (E:Wp->uE->Prop),tn i s.heap->Q (.ref it) s->wpAny (model P w) A (pyIter (.ref it)) Q E s
abbrev TI:=St->Hp->(It->Hp->Prop)->Prop
def PIE(X:Cx)(pins:Gc (uF×Obj))(σ:St)(tg:uh)(R:It->Hp->Prop)(itv:Wp)(s2:uE):Prop:=
 ∃(it:uF) (fp:Gc uF) (tn:Nat->ux->Prop) (J:It) (H':Hp),itv=.ref it/\Inv X pins σ H' s2/\Turn X.prog X.w X.K tg J fp it tn/\tn 0 s2.heap/\(∀b∈fp,TQ X pins H' b)/\R J H'
def PI(X:Cx)(tg iter:uh)(wi:TI):Prop:=
 ∀(pins:Gc (uF×Obj)) (s:uE) (σ:St) (H:Hp) (R:It->Hp->Prop),Inv X pins σ H s->wi σ H R->
  wpAny (model X.prog X.w) X.A (eval iter X.env) (λv s1=>wpAny (model X.prog X.w) X.A (pyIter v) (PIE X pins σ tg R) X.xe s1) X.xe s
theorem fT{M:Model}{A:vF}{E:Wp->uE->Prop}{s:uE}{tg:uh}{it:uF}{u:Wp}{o:Obj}{n:xA}{vs:vQ Wp}{Q:Unit->uE->Prop}(ho:s.heap.get? it=Fk o)(hc:o.cls=.type n)(hd:o.data=.fields vs)(hn:["enumerate","zip","dict_itemiterator","dict_reverseitemiterator","odict_iterator","itertools.zip_longest","itertools.pairwise"].contains n=false)(hQ:Q () s):wpAny M A (letOwnedTupleGo tg (.ref it) u) Q E s:=by
 unfold letOwnedTupleGo
 cases tg<;>first
  |exact uR hQ
  |(cases u<;>first
     |exact uR hQ
     |(refine tz (wpAny_load ho ?_)
       rw[hc,hd]
       show wpAny M A (if(["enumerate","zip","dict_itemiterator","dict_reverseitemiterator","odict_iterator","itertools.zip_longest","itertools.pairwise"].contains n && vs[0]?==Fk (rawInt _))=true then _ else _) Q E s
       rw[vH (by intro h;rw[hn,AAl]at h;cases h)]
       exact uR hQ))
noncomputable def Itl(K:KE)(a:uF):It:=
 ⟨λi H=>∃xs x,SqL K H a xs/\xs[i]?=Fk x,λi H x H'=>H'=H/\∀xs,SqL K H a xs->xs[i]?=Fk x,λi H=>∃xs,SqL K H a xs/\xs.length<=i⟩
noncomputable def Itt(K:KE)(a:uF):It:=
 ⟨λi H=>∃xs x,SqT K H a xs/\xs[i]?=Fk x,λi H x H'=>H'=H/\∀xs,SqT K H a xs->xs[i]?=Fk x,λi H=>∃xs,SqT K H a xs/\xs.length<=i⟩
noncomputable def Itr(lo:Int)(n:Nat):It:=⟨λi _=>i<n,λi H x H'=>H'=H/\x=.int (lo+i),λi _=>n<=i⟩
theorem XA{P:ug}{w:vG}{K:KE}{tg:uh}(a it:uF):Turn P w K tg (Itl K a) [it] it (λi h=>h.IsListIter it a i) where
 mem:=by simp
 obj:=λi h st b hb=>by
  have e:b=it:=by simpa using hb
  subst e
  obtain⟨o,e,c,d⟩:=st
  exact⟨o,e,λv z=>by rw[d]at z;cases z⟩
 keep:=λi h h' st k=>st.at λo e=>k it (by simp) o e
 item:=by
  intro X hP hw hK hc i pins s σ H E I hf st hg
  subst hP hw hK
  obtain⟨xs,x,hq,hx⟩:=hg
  obtain⟨its,rv,p,hz⟩:=I.list hq
  obtain⟨u,hu,ru⟩:=rv.get hx
  obtain⟨f0,f1,f2,f3,f4,f5⟩:=hf it (by simp)
  refine yV st p.isList (x:=u) (by simpa using hu) λh' st' sb=>?_
  have I1:Inv X pins σ H {s with heap:=h'}:=I.turned (t':=s.toks) (λb o hb e=>(sb.2 b hb).trans e) f0 f1 f3 f4 f5
  obtain⟨o,e,c,d⟩:=id st'
  exact⟨u,rfl,fT (s:={s with heap:=h'}) e c d (by decide) ⟨x,H,I1,ru,⟨rfl,λys hy=>by rw[I.U5 hy hq];exact hx⟩,st',λb hb=>(hf b hb).1⟩⟩
 done:=by
  intro X hP hw hK hc i pins s σ H E I hf st hg
  subst hP hw hK
  obtain⟨xs,hq,hx⟩:=hg
  obtain⟨its,rv,p,hz⟩:=I.list hq
  obtain⟨f0,f1,f2,f3,f4,f5⟩:=hf it (by simp)
  have hl:=rv.length
  exact ym (I.ok.hd hc) st p.isList (by simp;lia) λh' eb=>⟨rfl,I.turned (t':=s.toks) (λb o hb e=>eb b o hb e) f0 f1 f3 f4 f5⟩
 self:=λ_ _ _ _ _ st h=>AAd st h
theorem Vi{P:ug}{w:vG}{K:KE}{tg:uh}(a it:uF):Turn P w K tg (Itt K a) [it] it (λi h=>h.IsTupleIter it a i) where
 mem:=by simp
 obj:=λi h st b hb=>by
  have e:b=it:=by simpa using hb
  subst e
  obtain⟨o,e,c,d⟩:=st
  exact⟨o,e,λv z=>by rw[d]at z;cases z⟩
 keep:=λi h h' st k=>st.at λo e=>k it (by simp) o e
 item:=by
  intro X hP hw hK hc i pins s σ H E I hf st hg
  subst hP hw hK
  obtain⟨xs,x,hq,hx⟩:=hg
  obtain⟨its,rv,p,hz⟩:=I.tuple hq
  obtain⟨u,hu,ru⟩:=rv.get hx
  obtain⟨f0,f1,f2,f3,f4,f5⟩:=hf it (by simp)
  refine wpAny_pyNext_tuple_item st (show s.heap.IsTuple a its.toArray from p) (x:=u) (by simpa using hu) λh' st' sb=>?_
  have I1:Inv X pins σ H {s with heap:=h'}:=I.turned (t':=s.toks) (λb o hb e=>(sb.2 b hb).trans e) f0 f1 f3 f4 f5
  obtain⟨o,e,c,d⟩:=id st'
  exact⟨u,rfl,fT (s:={s with heap:=h'}) e c d (by decide) ⟨x,H,I1,ru,⟨rfl,λys hy=>by rw[I.Rj hy hq];exact hx⟩,st',λb hb=>(hf b hb).1⟩⟩
 done:=by
  intro X hP hw hK hc i pins s σ H E I hf st hg
  subst hP hw hK
  obtain⟨xs,hq,hx⟩:=hg
  obtain⟨its,rv,p,hz⟩:=I.tuple hq
  obtain⟨f0,f1,f2,f3,f4,f5⟩:=hf it (by simp)
  have hl:=rv.length
  exact wpAny_pyNext_tuple_end (I.ok.hd hc) st (show s.heap.IsTuple a its.toArray from p) (by simp;lia) λh' eb=>⟨rfl,I.turned (t':=s.toks) (λb o hb e=>eb b o hb e) f0 f1 f3 f4 f5⟩
 self:=λ_ _ _ _ _ st h=>wpAny_pyIter_tupleiter st h
theorem V9{P:ug}{w:vG}{K:KE}{tg:uh}(it:uF)(lo:Int)(n:Nat):Turn P w K tg (Itr lo n) [it] it (λi h=>IsRangeIter h it (lo+(i:Nat)*1) ((n:Int)-(i:Nat)) 1) where
 mem:=by simp
 obj:=λi h st b hb=>by
  have e:b=it:=by simpa using hb
  subst e
  exact⟨_,st,λv z=>by
   have z':Data.fields _=Data.cell v:=z
   cases z'⟩
 keep:=λi h h' st k=>k it (by simp) _ st
 item:=by
  intro X hP hw hK hc i pins s σ H E I hf st hg
  subst hP hw hK
  obtain⟨f0,f1,f2,f3,f4,f5⟩:=hf it (by simp)
  have W:=Walks.range (prog:=X.prog) (w:=X.w) (I.ok.hd hc) it lo 1 n
  refine W.item i s _ _ hg st λv h' tk hv st' kk=>?_
  obtain⟨t,rfl⟩:=hv
  have I1:Inv X pins σ H {s with heap:=h',toks:=tk}:=I.turned (λb o hb e=>kk b o (by simpa using hb) e) f0 f1 f3 f4 f5
  refine⟨_,rfl,fT (s:={s with heap:=h',toks:=tk}) (n:="range_iterator") st' rfl rfl (by decide) ⟨.int (lo+i),H,I1,⟨t,?_⟩,⟨rfl,rfl⟩,st',λb hb=>(hf b hb).1⟩⟩
  rw[Int.mul_one]
 done:=by
  intro X hP hw hK hc i pins s σ H E I hf st hg
  subst hP hw hK
  obtain⟨f0,f1,f2,f3,f4,f5⟩:=hf it (by simp)
  exact wpAny_pyNext_range_end (I.ok.hd hc) st (by have:n<=i:=hg;lia) λh' eb=>⟨rfl,I.turned (t':=s.toks) (λb o hb e=>eb b o hb e) f0 f1 f3 f4 f5⟩
 self:=λ_ _ _ _ _ st h=>wpAny_pyIter_rangeiter st h
end L2
namespace L2
open PySem PySem.Spec PyProof.Rows
section
variable{X:Cx}{tg:uh}
theorem bV{pins:Gc (uF×Obj)}{σ:St}{H:Hp}{s:uE}{R:It->Hp->Prop}{E:Wp->uE->Prop}{lo hi:Int}{t u v:Tok}{tk:Nat}(I:Inv X pins σ H s)(h1: -(2^62)<=lo)(h2:lo<2^62)(h3: -(2^62)<=hi)(h4:hi<2^62)(q:R (Itr lo (hi-lo).toNat) H):wpAny (model X.prog X.w) X.A (pyIter (.ref s.heap.objs.size)) (PIE X pins σ tg R) E {s with heap:=s.heap.push {cls:=.type "range",data:=.fields #[.int lo t,.int hi u,.int 1 v]},toks:=tk}:=by
 refine wpAny_pyIter_range (IsRange.new ..) (small_one h1 h2 h3 h4) ?_
 have I1:Inv X pins σ H {s with heap:=s.heap.push {cls:=.type "range",data:=.fields #[.int lo t,.int hi u,.int 1 v]},toks:=tk}:=I.kept λb o e=>uB _ e
 refine⟨(s.heap.push {cls:=.type "range",data:=.fields #[.int lo t,.int hi u,.int 1 v]}).objs.size,[(s.heap.push {cls:=.type "range",data:=.fields #[.int lo t,.int hi u,.int 1 v]}).objs.size],_,_,H,rfl,
  I1.kept (t':=tk) λb o e=>uB _ e,V9 _ lo (hi-lo).toNat,?_,λb hb=>?_,q⟩
 .have e1:lo+((0:Nat):Int)*1=lo:=by simp
  have e2:(((hi-lo).toNat:Nat):Int)-((0:Nat):Int)=Builtin.Range.rangeSize lo hi 1:=by rw[rangeSize_one];split<;>lia
  show IsRangeIter _ _ (lo+((0:Nat):Int)*1) ((((hi-lo).toNat:Nat):Int)-((0:Nat):Int)) 1
  rw[e1,e2]
  exact uf _ rfl
 .have e:b=(s.heap.push {cls:=.type "range",data:=.fields #[.int lo t,.int hi u,.int 1 v]}).objs.size:=by simpa using hb
  subst e
  exact I1.fW (uN _) (I1.hok.fresh (uN _))
noncomputable def ox(ta:TA):TI:=λσ H R=>ta σ H λvs H1=>∃j:Int,vs=[.int j]/\ -(2^62)<=j/\j<2^62/\R (Itr 0 j.toNat) H1
theorem Wo{a:uh}{ta:TA}{p pos:Pos}(hg:Gl X "range")(hm:X.mg "range"=uC)(ha:PA X [a] ta)(hs:ue [a] X.env=[(false,eval a X.env)]:=by rfl):PI X tg (.Call (.Name "range" p) [a] [] pos) (ox ta):=by
 intro pins s σ H R I h
 refine Call_ (Mr I hg hm boot_range (wL (thn (ha pos pins s σ H _ I h) λus s1 ⟨vs,H1,I1,r1,q1⟩=>?_) hs rfl))
 obtain⟨j,e,q1,q2,q⟩:=q1
 subst e
 cases r1 with
 |cons r rr=>
  cases rr
  obtain⟨t,rfl⟩:=r
  exact call_range_1 (bV I1 (by lia) (by lia) q1 q2 (by simpa using q))
noncomputable def rY(wi:TI)(g:TG)(tb:TS):TS:=λD σ H=>wi σ H λJ H1=>∃W:Nat->Nat->St->Hp->Prop,(∃m,W 0 m σ H1)/\∀i m σ H,W i m σ H->
 (J.stop i H/\D.nx σ H)\/(J.go i H/\∃N:St->Hp->Prop,(∀σ' H',N σ' H'->∃m',m'<m/\W (i+1) m' σ' H')/\∀x H',J.yld i H x H'->g x σ H' λσ2 H2=>tb {D with nx:=N,ct:=N,bk:=D.nx} σ2 H2)
noncomputable def SX(fp:Gc uF)(h:ux):Gc (uF×Obj):=fp.filterMap λb=>(h.get? b).map λo=>(b,o)
theorem Ky{fp:Gc uF}{h:ux}{b:uF}{o:Obj}(hb:b∈fp)(e:h.get? b=Fk o):(b,o)∈SX fp h:=zK.mpr ⟨b,hb,by rw[e];rfl⟩
theorem Xj{fp:Gc uF}{h:ux}{p:uF×Obj}(hp:p∈SX fp h):p.1∈fp/\h.get? p.1=Fk p.2:=by
 obtain⟨b,hb,e⟩:=zK.mp hp
 cases q:h.get? b with
 |none=>rw[q]at e;cases e
 |some o=>
  rw[q]at e
  have e':(b,o)=p:=vY e
  subst e'
  exact⟨hb,q⟩
theorem Inv.pinned{pins:Gc (uF×Obj)}{σ:St}{H:Hp}{s:uE}{fp:Gc uF}(I:Inv X pins σ H s)(hf:∀b∈fp,TQ X pins H b)(ho:∀b∈fp,∃o,s.heap.get? b=Fk o/\∀v,o.data≠.cell v):Inv X (pins++SX fp s.heap) σ H s:=
 I.W8 λp hp=>(ub.mp hp).elim (λz=>I.pin p (vR _ z)) λz=>by
  obtain⟨hb,e⟩:=Xj z
  obtain⟨f0,f1,f2,_⟩:=hf p.1 hb
  obtain⟨o,e',d⟩:=ho p.1 hb
  rw[e]at e';cases e'
  exact⟨e,f0,f1,f2,d⟩
theorem Inv.Nf{pins pl:Gc (uF×Obj)}{σ:St}{H:Hp}{s:uE}(I:Inv X (pins++pl) σ H s):Inv X pins σ H s:=I.W8 λp hp=>I.pin p (vR _ (yu _ hp))
theorem kh{iter:uh}{body:Gc vC}{wi:TI}{g:TG}{tb:TS}{pos:Pos}(hp:PassesOwn (model X.prog X.w) X.A X.env X.xe)(hc:X.calm=true)(hi:PI X tg iter wi)(hg:PG X tg g)(hb:PSs X body tb)(hs:∀x,foldedSetIterable iter X.env x=pure x:=by intro _;rfl):PS X (.For tg iter body [] pos) (rY wi g tb):=by
 intro pins s σ H D I h
 refine wpAny_For (thn (hi pins s σ H _ I h) λv s1 h1=>thn h1 λitv s2 h2=>?_) hs
 obtain⟨it,fp,tn,J,H2,e,I2,T,st2,f2,W,⟨m0,w0⟩,turn⟩:=h2
 subst e
 have stat:∀{H':Hp},(∀b∈fp,H' b=uC)->∀b∈fp,TQ X pins H' b:=λhn b hb=>⟨hn b hb,(f2 b hb).2⟩
 refine codeAny_forLoop_any (λn s'=>∃i σ' H',Inv X pins σ' H' s'/\tn i s'.heap/\(∀b∈fp,H' b=uC)/\W i n σ' H') ?_ m0 ⟨0,σ,H2,I2,st2,λb hb=>(f2 b hb).1,w0⟩
 rintro n s3 ⟨i,σ3,H3,I3,st3,fr3,w3⟩
 rcases turn i n σ3 H3 w3 with⟨stop,qn⟩|⟨go,N,hN,step⟩
 .refine xK hp (thn (T.done X rfl rfl rfl hc i pins s3 σ3 H3 X.xe I3 (stat fr3) st3 stop) λr s4 ⟨hr,I4⟩=>?_)
  subst hr
  exact yM ⟨σ3,H3,I4,qn⟩
 .refine xK hp (thn (T.item X rfl rfl rfl hc i pins s3 σ3 H3 X.xe I3 (stat fr3) st3 go) λr s4 ⟨u,hr,h4⟩=>?_)
  subst hr
  refine xK hp (thn h4 λ_ s5 ⟨x,H5,I5,r5,y5,st5,fr5⟩=>?_)
  have I5':=I5.pinned (stat fr5) (T.obj _ _ st5)
  refine xK hp (thn (hg _ s5 σ3 H5 x u _ I5' r5 (step x H5 y5)) λ_ s6 ⟨σ6,H6,I6,q6⟩=>?_)
  refine xK hp (thn (hb _ s6 σ6 H6 _ I6 q6) λf s7 q7=>?_)
  have again:∀{σ7:St} {H7:Hp},Inv X (pins++SX fp s5.heap) σ7 H7 s7->N σ7 H7->∃m,m<n/\∃i σ' H',Inv X pins σ' H' s7/\tn i s7.heap/\(∀b∈fp,H' b=uC)/\W i m σ' H':=λ{σ7 H7} I7 n7=>by
   obtain⟨m',hm,w7⟩:=hN σ7 H7 n7
   refine⟨m',hm,i+1,σ7,H7,I7.Nf,T.keep _ _ _ st5 λb hb o e=>(I7.pin (b,o) (vR _ (vR _ (Ky hb e)))).1,λb hb=>?_,w7⟩
   obtain⟨o,e,d⟩:=T.obj _ _ st5 b hb
   exact(I7.pin (b,o) (vR _ (vR _ (Ky hb e)))).2.1
  cases f with
  |next=>obtain⟨σ7,H7,I7,n7⟩:=q7;exact again I7 n7
  |cont=>obtain⟨σ7,H7,I7,n7⟩:=q7;exact again I7 n7
  |brk=>obtain⟨σ7,H7,I7,q7⟩:=q7;exact⟨σ7,H7,I7.Nf,q7⟩
  |ret v=>obtain⟨x7,σ7,H7,I7,r7,q7⟩:=q7;exact⟨x7,σ7,H7,I7.Nf,r7,q7⟩
end
end L2
namespace L2
open PySem PySem.Spec PyProof.Rows
abbrev R2:=V->V->Hp->VK->Prop
def OpR(X:Cx)(f:Wp->Wp->Sem Wp)(r:R2):Prop:=
 ∀(pins:Gc (uF×Obj)) (s:uE) (σ:St) (H:Hp) (x y:V) (v u:Wp) (Q:VK),Inv X pins σ H s->RelV x v->RelV y u->r x y H Q->
  wpAny (model X.prog X.w) X.A (f v u) (EP X pins σ Q) X.xe s
def UnR(X:Cx)(f:Wp->Sem Wp)(r:V->Hp->VK->Prop):Prop:=
 ∀(pins:Gc (uF×Obj)) (s:uE) (σ:St) (H:Hp) (x:V) (v:Wp) (Q:VK),Inv X pins σ H s->RelV x v->r x H Q->
  wpAny (model X.prog X.w) X.A (f v) (EP X pins σ Q) X.xe s
def Fe(X:Cx)(f:Wp)(r:Gc V->Hp->VK->Prop):Prop:=
 ∀(pins:Gc (uF×Obj)) (s:uE) (σ:St) (H:Hp) (xs:Gc V) (us:Gc Wp) (Q:VK),Inv X pins σ H s->Vals xs us->r xs H Q->
  wpAny (model X.prog X.w) X.A (call f us) (EP X pins σ Q) X.xe s
noncomputable def tOp(r:R2)(ta tb:TE):TE:=λσ H Q=>ta σ H λx H1=>tb σ H1 λy H2=>r x y H2 Q
noncomputable def tUn(r:V->Hp->VK->Prop)(ta:TE):TE:=λσ H Q=>ta σ H λx H1=>r x H1 Q
noncomputable def rI(C:Int->Int->Prop)(g:Int->Int->V):R2:=λx y H Q=>∃i j,x=.int i/\y=.int j/\C i j/\Q (g i j) H
noncomputable def rI0(g:Int->Int->V):R2:=λx y H Q=>∃i j,x=.int i/\y=.int j/\Q (g i j) H
def rU(g:Int->V):V->Hp->VK->Prop:=λx H Q=>∃i,x=.int i/\Q (g i) H
section
variable{X:Cx}{a b c:uh}{ta tb tc:TE}{pos:Pos}
theorem nW(ha:PE X a ta)(hb:PE X b tb){pins:Gc (uF×Obj)}{s:uE}{σ:St}{H:Hp}{R:V->V->Hp->Prop}(I:Inv X pins σ H s)(h:ta σ H λx H1=>tb σ H1 λy H2=>R x y H2){Q:Wp->uE->Prop}{f:Wp->Wp->Sem Wp}(hf:∀v u s2 x y H2,Inv X pins σ H2 s2->RelV x v->RelV y u->R x y H2->wpAny (model X.prog X.w) X.A (f v u) Q X.xe s2):wpAny (model X.prog X.w) X.A (eval a X.env) (λv s₁=>wpAny (model X.prog X.w) X.A (eval b X.env) (λu s₂=>wpAny (model X.prog X.w) X.A (f v u) Q X.xe s₂) X.xe s₁) X.xe s:=by
 refine thn (ha pins s σ H _ I h) λv s1 ⟨x,H1,I1,r1,q1⟩=>?_
 refine thn (hb pins s1 σ H1 _ I1 q1) λu s2 ⟨y,H2,I2,r2,q2⟩=>?_
 exact hf v u s2 x y H2 I2 r1 r2 q2
theorem pV{op:Operator}{r:R2}(ho:OpR X (binaryOp op) r)(ha:PE X a ta)(hb:PE X b tb):PE X (.BinOp a op b pos) (tOp r ta tb):=by
 intro pins s σ H Q I h
 exact wpAny_BinOp (nW ha hb I h λv u s2 x y H2 I2 rx ry q=>ho pins s2 σ H2 x y v u Q I2 rx ry q)
theorem jV{op:UnaryOp}{r:V->Hp->VK->Prop}(ho:UnR X (unaryOp op) r)(ha:PE X a ta):PE X (.UnaryOp op a pos) (tUn r ta):=by
 intro pins s σ H Q I h
 exact UnaryOp_ (thn (ha pins s σ H _ I h) λv s1 ⟨x,H1,I1,r1,q1⟩=>ho pins s1 σ H1 x v Q I1 r1 q1)
theorem opI{f:Wp->Wp->Sem Wp}{C:Int->Int->Prop}{g:Int->Int->Int}(rule:∀(i j:Int) (t u:Tok) (s:uE) (Q:Wp->uE->Prop) (E:Wp->uE->Prop),C i j->Q (.int (g i j) s.toks) {s with toks:=s.toks+1}->wpAny (model X.prog X.w) X.A (f (.int i t) (.int j u)) Q E s):OpR X f (rI C λi j=>.int (g i j)):=by
 intro pins s σ H x y v u Q I rx ry h
 obtain⟨i,j,rfl,rfl,hc,q⟩:=h
 obtain⟨t,rfl⟩:=rx
 obtain⟨t',rfl⟩:=ry
 exact rule i j t t' s _ _ hc ⟨.int (g i j),H,I.tok _,⟨_,rfl⟩,q⟩
theorem qS{f:Wp->Wp->Sem Wp}{g:Int->Int->Int}(rule:∀(i j:Int) (t u:Tok) (s:uE) (Q:Wp->uE->Prop) (E:Wp->uE->Prop),Q (.int (g i j) s.toks) {s with toks:=s.toks+1}->wpAny (model X.prog X.w) X.A (f (.int i t) (.int j u)) Q E s):OpR X f (rI0 λi j=>.int (g i j)):=by
 intro pins s σ H x y v u Q I rx ry h
 obtain⟨i,j,rfl,rfl,q⟩:=h
 obtain⟨t,rfl⟩:=rx
 obtain⟨t',rfl⟩:=ry
 exact rule i j t t' s _ _ ⟨.int (g i j),H,I.tok _,⟨_,rfl⟩,q⟩
theorem mK{f:Wp->Wp->Sem Wp}{g:Int->Int->vE}(rule:∀(i j:Int) (t u:Tok) (s:uE) (Q:Wp->uE->Prop) (E:Wp->uE->Prop),Q (.bool (g i j)) s->wpAny (model X.prog X.w) X.A (f (.int i t) (.int j u)) Q E s):OpR X f (rI0 λi j=>.bl (g i j)):=by
 intro pins s σ H x y v u Q I rx ry h
 obtain⟨i,j,rfl,rfl,q⟩:=h
 obtain⟨t,rfl⟩:=rx
 obtain⟨t',rfl⟩:=ry
 exact rule i j t t' s _ _ ⟨.bl (g i j),H,I,rfl,q⟩
def sU(i j:Int):Prop:=0<=j/\j<=1000000/\i.natAbs<2^64
def pS(i j:Int):Prop:=(-(2^64)<i/\i<2^64)\/(-(2^64)<j/\j<2^64)
theorem pS.ok{i j:Int}(h:pS i j):IntMulOk i j:=by
 rcases h with⟨h1,h2⟩|⟨h1,h2⟩
 .exact .of_left (intBits_le_64 h1 h2)
 .exact .of_right (intBits_le_64 h1 h2)
theorem kB:OpR X (binaryOp .Add) (rI0 λi j=>.int (i+j)):=qS λ_ _ _ _ _ _ _ q=>add_int q
theorem iH:OpR X (binaryOp .Sub) (rI0 λi j=>.int (i-j)):=qS λ_ _ _ _ _ _ _ q=>sub_int q
theorem cS:OpR X (binaryOp .Mult) (rI pS λi j=>.int (i*j)):=opI λ_ _ _ _ _ _ _ hc q=>mul_int q hc.ok
theorem jT:OpR X (binaryOp .Mod) (rI (λ_ j=>0<j) λi j=>.int (i % j)):=opI λi j _ _ _ _ _ hc q=>by
 have h1:(0:Int)<j:=hc
 exact mod_int' (by lia) (by rw[Int.fmod_eq_emod_of_nonneg i (by lia)];exact q)
theorem kG:OpR X (binaryOp .Pow) (rI sU λi j=>.int (i^j.toNat)):=opI λ_ _ _ _ _ _ _ hc q=>pow_int_small hc.1 hc.2.1 hc.2.2 q
theorem unI{f:Wp->Sem Wp}{g:Int->Int}(rule:∀(i:Int) (t:Tok) (s:uE) (Q:Wp->uE->Prop) (E:Wp->uE->Prop),Q (.int (g i) s.toks) {s with toks:=s.toks+1}->wpAny (model X.prog X.w) X.A (f (.int i t)) Q E s):UnR X f (rU λi=>.int (g i)):=by
 intro pins s σ H x v Q I rx h
 obtain⟨i,rfl,q⟩:=h
 obtain⟨t,rfl⟩:=rx
 exact rule i t s _ _ ⟨.int (g i),H,I.tok _,⟨_,rfl⟩,q⟩
theorem cJ:UnR X (unaryOp .USub) (rU λi=>.int (-i)):=unI λ_ _ _ _ _ q=>neg_int q
end
section
variable{X:Cx}{a b c:uh}{ta tb tc:TE}{pos:Pos}
theorem cx{pins:Gc (uF×Obj)}{σ:St}{H:Hp}{s:uE}{Q:VK}{k k':vE}(I:Inv X pins σ H s)(q:Q (.bl k) H)(e:k=k'):EP X pins σ Q (.bool k') s:=by
 subst e
 exact⟨.bl k,H,I,rfl,q⟩
theorem pZ:OpR X (compareOp .Lt) (rI0 λi j=>.bl (decide (i<j))):=mK λ_ _ _ _ _ _ _ q=>lt_int q
theorem oG:OpR X (compareOp .LtE) (rI0 λi j=>.bl (decide (i<=j))):=mK λ_ _ _ _ _ _ _ q=>le_int q
theorem nG:OpR X (compareOp .Gt) (rI0 λi j=>.bl (decide (j<i))):=mK λ_ _ _ _ _ _ _ q=>gt_int q
theorem nU:OpR X (compareOp .GtE) (rI0 λi j=>.bl (decide (j<=i))):=mK λ_ _ _ _ _ _ _ q=>ge_int q
theorem jB:OpR X (compareOp .Is) (λx y H Q=>y=.non/\Q (.bl (decide (x=.non))) H):=by
 intro pins s σ H x y v u Q I rx ry h
 obtain⟨rfl,q⟩:=h
 cases ry
 refine is_none_gen (cx I q ?_)
 cases x<;>first
  |(cases rx;rfl)
  |(obtain⟨t,rfl⟩:=rx;rfl)
theorem dz:OpR X (compareOp .IsNot) (λx y H Q=>y=.non/\Q (.bl (!decide (x=.non))) H):=by
 intro pins s σ H x y v u Q I rx ry h
 obtain⟨rfl,q⟩:=h
 cases ry
 refine isnot_none_gen (cx I q ?_)
 cases x<;>first
  |(cases rx;rfl)
  |(obtain⟨t,rfl⟩:=rx;rfl)
theorem gA{op:CmpOp}{r:R2}(ho:OpR X (compareOp op) r)(ha:PE X a ta)(hb:PE X b tb)(hm:behindInMarks op b=false):PE X (.Compare a [op] [b] pos) (tOp r ta tb):=by
 intro pins s σ H Q I h
 exact wpAny_Compare1 (nW ha hb I h λv u s2 x y H2 I2 rx ry q=>ho pins s2 σ H2 x y v u Q I2 rx ry q) hm
noncomputable def iE(t:TE):TT:=λσ H Q=>t σ H λx H'=>∃k,x=.bl k/\Q k H'
theorem gL{op:CmpOp}{r:R2}(ho:OpR X (compareOp op) r)(ha:PE X a ta)(hb:PE X b tb)(hm:behindInMarks op b=false):PT X (.Compare a [op] [b] pos) (iE (tOp r ta tb)):=by
 intro pins s σ H Q I h
 refine wpAny_isTrue_Compare1 (thn (ha pins s σ H _ I h) λv s1 ⟨x,H1,I1,r1,q1⟩=>thn (hb pins s1 σ H1 _ I1 q1) λu s2 ⟨y,H2,I2,r2,q2⟩=>
  thn (ho pins s2 σ H2 x y v u _ I2 r1 r2 q2) λc s3 ⟨z,H3,I3,r3,k,e,q3⟩=>?_) hm
 subst e
 cases r3
 exact xo ⟨H3,I3,q3⟩
theorem Rz:(sizeLine:Nat)<2^63:=by rw[sizeLine_eq];decide
theorem Vd:OpR X (binaryOp .Add) (λx y H Q=>∃i j,x=.str i/\y=.str j/\i.length+j.length<=sizeLine/\Q (.str (i++j)) H):=by
 intro pins s σ H x y v u Q I rx ry h
 obtain⟨i,j,rfl,rfl,hz,q⟩:=h
 obtain⟨t,rfl⟩:=rx
 obtain⟨t',rfl⟩:=ry
 exact add_str (λt' tk=>⟨.str (i++j),H,I.tok _,⟨_,rfl⟩,q⟩) hz
theorem vals1{x:V}{us:Gc Wp}(r:Vals [x] us):∃u,us=[u]/\RelV x u:=by
 cases r with
 |cons r1 r2=>cases r2;exact⟨_,rfl,r1⟩
theorem vals2{x y:V}{us:Gc Wp}(r:Vals [x,y] us):∃u w',us=[u,w']/\RelV x u/\RelV y w':=by
 cases r with
 |cons r1 r2=>
  cases r2 with
  |cons r3 r4=>cases r4;exact⟨_,_,rfl,r1,r3⟩
theorem Z4:Fe X (.builtin "abs") (λxs H Q=>∃i,xs=[.int i]/\Q (.int (if i<0 then-i else i)) H):=by
 intro pins s σ H xs us Q I r h
 obtain⟨i,rfl,q⟩:=h
 obtain⟨u,rfl,t,rfl⟩:=vals1 r
 exact call_abs_int λu tk=>⟨.int (if i<0 then-i else i),H,I.tok _,⟨_,rfl⟩,q⟩
theorem Wn(hc:X.calm=true):Fe X (.builtin "max") (λxs H Q=>∃i j,xs=[.int i,.int j]/\Q (.int (if j>i then j else i)) H):=by
 intro pins s σ H xs us Q I r h
 obtain⟨i,j,rfl,q⟩:=h
 obtain⟨u,w',rfl,⟨t,rfl⟩,⟨t',rfl⟩⟩:=vals2 r
 refine max_two_ints (I.ok.hd hc) λh' tk k=>⟨_,H,I.kept k,?_,q⟩
 by_cases hj:j>i
 .rw[vD hj,vD hj];exact⟨_,rfl⟩
 .rw[vH hj,vH hj];exact⟨_,rfl⟩
theorem W9(hc:X.calm=true):Fe X (.builtin "min") (λxs H Q=>∃i j,xs=[.int i,.int j]/\Q (.int (if j<i then j else i)) H):=by
 intro pins s σ H xs us Q I r h
 obtain⟨i,j,rfl,q⟩:=h
 obtain⟨u,w',rfl,⟨t,rfl⟩,⟨t',rfl⟩⟩:=vals2 r
 refine min_two_ints (I.ok.hd hc) λh' tk k=>⟨_,H,I.kept k,?_,q⟩
 by_cases hj:j<i
 .rw[vD hj,vD hj];exact⟨_,rfl⟩
 .rw[vH hj,vH hj];exact⟨_,rfl⟩
theorem Ro:Fe X (.type "int") (λxs H Q=>(∃i,xs=[.int i]/\Q (.int i) H)\/∃k,xs=[.bl k]/\Q (.int (if k then 1 else 0)) H):=by
 intro pins s σ H xs us Q I r h
 rcases h with⟨i,rfl,q⟩|⟨k,rfl,q⟩
 .obtain⟨u,rfl,t,rfl⟩:=vals1 r
  exact call_int_int ⟨.int i,H,I,⟨_,rfl⟩,q⟩
 .obtain⟨u,rfl,r1⟩:=vals1 r
  cases r1
  exact call_int_bool ⟨.int (if k then 1 else 0),H,I.tok _,⟨_,rfl⟩,q⟩
theorem SK:Fe X (.type "str") (λxs H Q=>∃i,xs=[.int i]/\i.natAbs.log2<1920/\Q (.str (toString i)) H):=by
 intro pins s σ H xs us Q I r h
 obtain⟨i,rfl,hz,q⟩:=h
 obtain⟨u,rfl,t,rfl⟩:=vals1 r
 exact PySem.P.str_of_int hz ⟨.str _,H,I.tok _,⟨_,rfl⟩,q⟩
end
end L2
namespace L2
open PySem PySem.Spec PyProof.Rows
structure pA(h:ux)(x dx C:uF)(mA:Str->uD Wp):Prop where
 obj:h.get? x=Fk (AAV C dx)
 ns:h.Ns1 dx mA
 ne:dx≠x
theorem Ya{h:ux}{dx:uF}{mA:Str->uD Wp}(n:h.Ns1 dx mA):∃od,h.get? dx=Fk od/\∀name,AAm name od=Fk (mA name):=by
 obtain⟨o,es,ep,ho,hd,hk,_,hm⟩:=n
 refine⟨o,ho,λname=>?_⟩
 have e:=hm name
 unfold nsFind findBy at e
 rw[<-Array.find?_toList]at e
 unfold AAm
 rw[hd]
 dsimp only
 split
 .rename_i y q
  rw[q]at e
  exact congrArg Fk e
 .rename_i q
  rw[q]at e
  have a:es.toList.any (·.refKey)=false:=by
   rw[List.any_eq_false]
   intro y hy
   obtain⟨z,t,hkey⟩:=hk y (Array.mem_toList_iff.mp hy)
   simp[DictEntry.refKey,hkey]
  have a':¬es.toList.any (·.refKey)=true:=by rw[a];exact vS
  rw[vH a']
  exact congrArg Fk e
theorem pA.look{h:ux}{x dx C:uF}{mA:Str->uD Wp}(I:pA h x dx C mA):∃od,PySem.W.InstAt h x (AAV C dx) C (Fk od)/\∀name,AAm name od=Fk (mA name):=
 let⟨od,ho,hl⟩:=Ya I.ns
 ⟨od,⟨I.obj,rfl,rfl,ho⟩,hl⟩
section
variable{prog:ug}{w:vG}{A:vF}{E:Wp->uE->Prop}{s:uE}{K:KE}{x dx C f:uF}{mA:Str->uD Wp}{name:Str}{v:Wp}
end
section
variable{P:ug}{w:vG}{H H':Hp}{h h':ux}{a C dx:uF}{fs fs':Gc (Str×V)}
theorem fP(hok:HOk P w H h)(e:H a=Fk (.ins C dx fs)):∃mA,pA h a dx C mA/\(∀f,lL (fs.lookup f) (mA f))/\PySem.Within mA (fs.map (·.1))/\fs.length<=1000/\H dx=Fk (.own a):=by
 obtain⟨d,z,ne,ob,mA,n,r,q⟩:=(show EL P w H h a (.ins C dx fs)from hok a _ e)
 exact⟨mA,⟨ob,n,ne⟩,r,q,z,d⟩
end
structure Cls(K:KE)(C:uF):Prop where
 pg:PySem.W.plainGet K C Str.empty=true
 hd:PySem.W.hasDictIn K C=true
 po:PySem.W.plainOver K C=true
 sa:yW K (.ref C) "__setattr__"=Fk (Fk (.builtin "object.__setattr__"))
theorem Cls.get{K:KE}{C:uF}(c:Cls K C)(f:Str):PySem.W.plainGet K C f=true:=c.pg
structure Con(K:KE)(C:uF)(f:Str)(v:V)(u:Wp):Prop where
 at_:yW K (.ref C) f=Fk (Fk u)
 rel:RelV v u
 get:PySem.W.specialIn K u "__get__"=Fk uC
 cp:PySem.W.copiedNames.contains f=false
structure Meth(K:KE)(C:uF)(m:Str)(f:uF):Prop where
 at_:yW K (.ref C) m=Fk (Fk (.ref f))
 fn:PySem.W.isFn K (.ref f)=true
 kp:we K (.ref f)=true
section
variable{X:Cx}{pins:Gc (uF×Obj)}{σ:St}{H:Hp}{s:uE}{a C dx:uF}{fs:Gc (Str×V)}{f:Str}{v:V}{A:vF}{E:Wp->uE->Prop}
end
section
variable{X:Cx}{o e value:uh}{f:Str}{pos pos' tpos:Pos}{ta tv:TE}
end
section
variable{X:Cx}{pins:Gc (uF×Obj)}{σ:St}{H:Hp}{s:uE}{A:vF}{E:Wp->uE->Prop}{Q:Wp->uE->Prop}{c:Wp}{b:vE}
inductive WA(K:KE)(H:Hp):V->Wp->Prop where
 |non:WA K H .non (.type "NoneType")
 |bl (x:vE):WA K H (.bl x) (.type "bool")
 |int (i:Int):WA K H (.int i) (.type "int")
 |str (x:Str):WA K H (.str x) (.type "str")
 |flt (x:UInt64):WA K H (.flt x) (.type "float")
 |lst {a:uF} {xs:Gc V} (e:H a=Fk (.lst xs)):WA K H (.ref a) (.type "list")
 |frz {a:uF} {o:Obj} {xs:Gc V} (e:H a=Fk (.frz o (.lst xs))):WA K H (.ref a) (.type "list")
 |tup {a:uF} {xs:Gc V} (e:H a=Fk (.tup xs)):WA K H (.ref a) (.type "tuple")
 |dK {a:uF} {kvs:Gc (Key×V)} (e:H a=Fk (.dK kvs)):WA K H (.ref a) (.type "dict")
 |dT {a:uF} {kvs:Gc (Gc Key×V)} (e:H a=Fk (.dT kvs)):WA K H (.ref a) (.type "dict")
 |ins {a C dx:uF} {fs:Gc (Str×V)} (e:H a=Fk (.ins C dx fs)) (cl:Cls K C) (ha:yW K (.ref C) "__class__"=Fk (Fk (.builtin "object.__class__")))
   (hn:PySem.W.specialIn K (.builtin "object.__class__") "__get__"=Fk (Fk (.builtin "getset_descriptor.__get__"))) (htk:PySem.W.takesIn K (.builtin "object.__class__")=Fk true)
   (hm:PySem.W.mroIn K C (.type "object")=Fk true):WA K H (.ref a) (.ref C)
theorem HU{x:V}{u t:Wp}(I:Inv X pins σ H s)(rx:RelV x u)(ty:WA X.K H x t)(e:xB X.K t c=Fk b)(h:∀tk,Q (.bool b) {s with toks:=tk}):wpAny (model X.prog X.w) A (call (.builtin "isinstance") [u,c]) Q E s:=by
 cases ty with
 |non=>cases (show u=vo from rx);exact vm PySem.W.kitx_none I.kIn yo e (λz=>nomatch z) h
 |bl y=>cases (show u=AAD y from rx);exact vm PySem.W.kitx_bool I.kIn yo e (λz=>nomatch z) h
 |int i=>obtain⟨t,q⟩:=(show∃t,u=zG i t from rx);cases q;exact vm PySem.W.kitx_int I.kIn yo e (λz=>nomatch z) h
 |str y=>obtain⟨t,q⟩:=(show∃t,u=zv y t from rx);cases q;exact vm PySem.W.kitx_str I.kIn yo e (λz=>nomatch z) h
 |flt y=>obtain⟨t,q⟩:=(show∃t,u=Value.float y t from rx);cases q;exact vm PySem.W.kitx_float I.kIn yo e (λz=>nomatch z) h
 | @lst a xs ea=>
   cases (show u=va a from rx)
   obtain⟨_,_,n,_,h1⟩:=(show EL X.prog X.w H s.heap a (.lst xs)from I.hok a _ ea)
   exact vm PySem.W.kitx_list I.kIn ⟨_,h1,rfl⟩ e (λz=>nomatch z) h
 | @frz a ob xs ea=>
   cases (show u=va a from rx)
   obtain⟨_,_,_,n,_,h1⟩:=(show EL X.prog X.w H s.heap a (.frz ob (.lst xs))from I.hok a _ ea)
   exact vm PySem.W.kitx_list I.kIn ⟨_,h1,rfl⟩ e (λz=>nomatch z) h
 | @tup a xs ea=>
   cases (show u=va a from rx)
   obtain⟨_,_,_,p⟩:=(show EL X.prog X.w H s.heap a (.tup xs)from I.hok a _ ea)
   obtain⟨o,h1,h2,_⟩:=p
   exact vm ABK I.kIn ⟨o,h1,h2⟩ e (λz=>nomatch z) h
 | @dK a kvs ea=>
   cases (show u=va a from rx)
   obtain⟨_,_,vs,_,p⟩:=(show EL X.prog X.w H s.heap a (.dK kvs)from I.hok a _ ea)
   obtain⟨o,es,ep,h1,h2,_⟩:=p
   exact vm PySem.W.kitx_dict I.kIn ⟨o,h1,h2.1⟩ e (λz=>nomatch z) h
 | @dT a kvs ea=>
   cases (show u=va a from rx)
   obtain⟨_,_,xs,_,o,es,ep,h1,h2,_⟩:=(show EL X.prog X.w H s.heap a (.dT kvs)from I.hok a _ ea)
   exact vm PySem.W.kitx_dict I.kIn ⟨o,h1,h2.1⟩ e (λz=>nomatch z) h
 | @ins a C dx fs ea cl ha hn htk hm=>
   cases (show u=va a from rx)
   obtain⟨mA,O,_⟩:=fP I.hok ea
   obtain⟨od,J,_⟩:=O.look
   exact vm (PySem.W.kitx_own (cl.get _) cl.hd ha hn htk hm) I.kIn J e (λz=>nomatch z) h
end
end L2
namespace L2
open PySem PySem.Spec PyProof.Rows
structure Hu(k:Nat)(A:vF):Prop where
 hd:A.handled=uC
 dp:A.depth+3*k+5<recursionLimit
 un:A.units+16*k+200<cLine
theorem Hu.mono{j k:Nat}{A:vF}(r:Hu k A)(h:j<=k):Hu j A:=⟨r.hd,by have:=r.dp;lia,by have:=r.un;lia⟩
theorem Hu.deeper{k:Nat}{A:vF}(r:Hu (k+1) A)(env:Env):Hu k (A.deeper env):=
 ⟨r.hd,by have:=r.dp;show A.depth+1+3*k+5<_;lia,by have:=r.un;show A.units+3+16*k+200<_;lia⟩
theorem Hu.depth{k:Nat}{A:vF}(r:Hu k A):A.depth<recursionLimit:=by have:=r.dp;lia
noncomputable def qO:TA:=λ_ H Q=>Q [] H
noncomputable def jG(ta:TE)(tr:TA):TA:=λσ H Q=>ta σ H λx H1=>tr σ H1 λxs H2=>Q (x::xs) H2
section
variable{X:Cx}{e:uh}{es:Gc uh}{te:TE}{t:TA}{pos:Pos}
theorem YJ:PA X [] qO:=λ_ _ _ _ H Q I h=>yn ⟨[],H,I,.nil,h⟩
theorem Qq(ha:PE X e te)(hr:PA X es t)(hs:ue (e::es) X.env=(false,eval e X.env)::ue es X.env:=by rfl):PA X (e::es) (jG te t):=by
 intro pos pins s σ H Q I h
 rw[hs]
 show wpAny _ _ (spliced ((false,eval e X.env)::backTo pos (ue es X.env))) _ _ s
 refine yX (thn (ha pins s σ H _ I h) λu s1 ⟨x,H1,I1,r1,q1⟩=>?_)
 exact thn (hr pos pins s1 σ H1 _ I1 q1) λus s2 ⟨xs,H2,I2,r2,q2⟩=>⟨x::xs,H2,I2,.cons r1 r2,q2⟩
noncomputable def rC(t:TA):TE:=λσ H Q=>t σ H λxs H1=>xs.length<=sizeLine/\∀p,H1 p=uC->Q (.ref p) (upd H1 p (.tup xs))
noncomputable def sN(t:TA):TE:=λσ H Q=>t σ H λxs H1=>xs.length<=sizeLine/\∀p,H1 p=uC->Q (.ref p) (upd H1 p (.lst xs))
theorem jr{x1}(h:PA X es t):PE X (.Tuple es x1 pos) (rC t):=by
 intro pins s σ H Q I hq
 refine wpAny_Tuple_spliced (thn (h pos pins s σ H _ I hq) λus s1 ⟨xs,H1,I1,r,z,q⟩=>⟨by rw[<-r.length];exact z,?_⟩)
 have hf:H1 s1.heap.objs.size=none:=I1.hok.fresh (uN _)
 refine⟨.ref s1.heap.objs.size,upd H1 s1.heap.objs.size (.tup xs),I1.laid (t':=s1.toks) (λb u e=>uB _ e) (uN _) ?_,rfl,q _ hf⟩
 exact⟨z,us,r,⟨_,uf _ rfl,rfl,_,rfl⟩⟩
theorem jI(h:PA X es t):PE X (.List es pos) (sN t):=by
 intro pins s σ H Q I hq
 refine wpAny_List_spliced (thn (h pos pins s σ H _ I hq) λus s1 ⟨xs,H1,I1,r,z,q⟩=>⟨by rw[<-r.length];exact z,?_⟩)
 have hf:H1 s1.heap.objs.size=none:=I1.hok.fresh (uN _)
 refine⟨.ref s1.heap.objs.size,upd H1 s1.heap.objs.size (.lst xs),I1.laid (t':=s1.toks) (λb u e=>uB _ e) (uN _) ?_,rfl,q _ hf⟩
 exact⟨z,us,0,r,uf _ rfl⟩
end
abbrev Sp:=Gc V->Hp->VK->XK->Prop
abbrev CXT:=Gc Env->Hp->uE->XK->Wp->uE->Prop
structure jc(P:ug)(w:vG)(K:KE)(mg:Str->uD Wp)(base:ux)(A:vF)(outer:Gc Env)(s:uE)(H:Hp):Prop where
 frames:A.frames=Fk outer
 mod:Mod K mg base
 bs:∀b o,base.get? b=Fk o->s.heap.get? b=Fk o/\H b=uC
 bsz:base.objs.size<=s.heap.objs.size
 U1:s.heap.FunFrames base outer
 frf:∀b∈frs outer,H b=uC
 hok:HOk P w H s.heap
 bare:yR s.gens
def CE(outer:Gc Env)(P:ug)(w:vG)(H:Hp)(s:uE)(Q:VK)(u:Wp)(s':uE):Prop:=
 ∃v H',s'.os=s.os/\yR s'.gens/\Un (frs outer) [] H H' s.heap s'.heap/\HOk P w H' s'.heap/\RelV v u/\Q v H'
def CR(CX:CXT)(outer:Gc Env)(P:ug)(w:vG)(H:Hp)(s:uE)(Q:VK)(E:XK)(r:Result)(s':uE):Prop:=
 match r with
 | .ok (.ret u)=>CE outer P w H s Q u s'
 | .ok _=>wk
 | .error e=>CX outer H s E e s'
structure Up(P:ug)(w:vG)(K:KE)(mg:Str->uD Wp)(base:ux)(CX:CXT)(k:Nat)(f:uF)(fd:wV)(ps:Gc Str)(sp:Sp):Prop where
 len:∀vs H Q E,sp vs H Q E->vs.length=ps.length
 run:∀(A:vF) (outer:Gc Env) (s:uE) (H:Hp) (args:Args) (us:Gc Wp) (vs:Gc V) (Q:VK) (E:XK),Hu k A->jc P w K mg base A outer s H->BindsTo s fd args (ps.zip us)->Vals vs us->sp vs H Q E->
  codeAny (model P w) A (.call (.ref f) args) (CR CX outer P w H s Q E) s
section
variable{X:Cx}{pins:Gc (uF×Obj)}{σ:St}{H:Hp}{s s':uE}
theorem Inv.j4(I:Inv X pins σ H s):jc X.prog X.w X.K X.mg X.base X.A X.stack s H:=
 ⟨I.ok.frames,I.ok.mod,I.bs,uO I.ok.bsz I.sz,I.stack,I.Te,I.hok,I.bare⟩
theorem Inv.after{Q:VK}{u:Wp}(I:Inv X pins σ H s)(h:CE X.stack X.prog X.w H s Q u s'):EP X pins σ Q u s':=by
 obtain⟨v,H',os,bare,un,hok,r,q⟩:=h
 obtain⟨hh,g,d,t,os'⟩:=s'
 obtain rfl:os'=s.os:=os
 exact⟨v,H',I.call (h':=hh) (g':=g) (d':=d) (t':=t) (ch:=[]) un hok bare (λb z=>absurd z (by simp)),r,q⟩
end
noncomputable def dY(sp:Sp)(dvs:Gc V)(E:XK)(t:TA):TE:=λσ H Q=>t σ H λvs H1=>sp (vs++dvs) H1 Q E
def Binds(K:KE)(fd:wV)(ps:Gc Str)(ds:Gc Wp):Prop:=
 ∀(s:uE) (us:Gc Wp),K.In s.heap->(us++ds).length=ps.length->BindsTo s fd ⟨us,[]⟩ (ps.zip (us++ds))
theorem Binds.all{K:KE}{fd:wV}{ps:Gc Str}(h:∀us:Gc Wp,us.length=ps.length->bindArgs fd ⟨us,[]⟩=pure (ps.zip us)):Binds K fd ps []:=λs us _ hl=>by
 rw[wJ]at hl⊢
 exact .of_eq (h us hl)
def Passes(CX:CXT)(X:Cx)(E:XK):Prop:=∀(pins:Gc (uF×Obj)) (σ:St) (H:Hp) (s:uE) (e:Wp) (s':uE),Inv X pins σ H s->CX X.stack H s E e s'->X.xe e s'
section
variable{X:Cx}{CX:CXT}{k:Nat}{f C:uF}{fd:wV}{ps:Gc Str}{sp:Sp}{dvs:Gc V}{ds:Gc Wp}{E:XK}{x m:Str}{p pos apos:Pos}{e o:uh}{es:Gc uh}{ta:TE}{t:TA}
theorem ko{pins:Gc (uF×Obj)}{σ:St}{H:Hp}{s:uE}{Q:VK}{us:Gc Wp}{vs:Gc V}(F:Up X.prog X.w X.K X.mg X.base CX k f fd ps sp)(hr:Hu k X.A)(hb:Binds X.K fd ps ds)(hd:Vals dvs ds)(hx:Passes CX X E)(I:Inv X pins σ H s)(r:Vals vs us)(h:sp (vs++dvs) H Q E):wpAny (model X.prog X.w) X.A (call (.ref f) us) (EP X pins σ Q) X.xe s:=by
 have r2:Vals (vs++dvs) (us++ds):=r.append hd
 have hl:(us++ds).length=ps.length:=by rw[<-r2.length];exact F.len _ _ _ _ h
 refine AAG (AAH (F.run X.A X.stack s H ⟨us,[]⟩ (us++ds) (vs++dvs) Q E hr I.j4 (hb s us I.kIn hl) r2 h) λr s' hq=>?_)
 cases r with
 |error e=>exact hx pins σ H s e s' I hq
 |ok fl=>
  cases fl with
  |ret u=>exact I.after hq
  |next=>exact wC hq
  |brk=>exact wC hq
  |cont=>exact wC hq
theorem gh(F:Up X.prog X.w X.K X.mg X.base CX k f fd ps sp)(hr:Hu k X.A)(hg:Gl X x)(hm:X.mg x=Fk (.ref f))(hk:we X.K (.ref f)=true)(hb:Binds X.K fd ps ds)(hd:Vals dvs ds)(hx:Passes CX X E)(ha:PA X (e::es) t)(hdb:(x==("__debug__":Str))=false:=by decide)(he:ue (e::es) X.env=(false,eval e X.env)::ue es X.env:=by rfl)(hpl:(backTo pos (ue es X.env)).any (·.1)=false:=by rfl):PE X (.Call (.Name x p) (e::es) [] pos) (dY sp dvs E t):=by
 intro pins s σ H Q I h
 refine vt (N2 I hg hm ?_ hdb)
 refine zL (h₀:=X.base) I.ok.mod.kin hk (thn (ha pos pins s σ H _ I h) λus s1 ⟨vs,H1,I1,r,q⟩=>⟨I1.kIn,?_⟩) he hpl
 exact ko F hr hb hd hx I1 r q
structure Mk(K:KE)(C f:uF):Prop where
 makes:PySem.W.makesIn K C=true
 init:yW K (.ref C) "__init__"=Fk (Fk (.ref f))
 fn:PySem.W.isFn K (.ref f)=true
 kp:we K (.ref C)=true
end
section
variable{X:Cx}{CX:CXT}{k:Nat}{f C:uF}{fd:wV}{ps ks:Gc Str}{sp:Sp}{E:XK}{x m:Str}{p pos apos kpos:Pos}{e o:uh}{es:Gc uh}{kws:Gc zf}{te ta:TE}{t tk:TA}{nm:uD Str}
structure qB(K:KE)(fd:wV)(ps ks:Gc Str)(g:Gc Wp->Gc Wp->Gc Wp)(gV:Gc V->Gc V->Gc V):Prop where
 to:∀(s:uE) (us ws:Gc Wp),K.In s.heap->(g us ws).length=ps.length->BindsTo s fd ⟨us,ks.zip ws⟩ (ps.zip (g us ws))
 rel:∀{vs:Gc V} {us:Gc Wp} {zs:Gc V} {ws:Gc Wp},Vals vs us->Vals zs ws->Vals (gV vs zs) (g us ws)
variable{g:Gc Wp->Gc Wp->Gc Wp}{gV:Gc V->Gc V->Gc V}
end
structure AQ(N P:Gc Str)(sc:vn):Prop where
 kind:sc.kind=.function
 co:sc.isCoroutine=false
 gen:sc.isGenerator=false
 nd:N.Nodup
 pre:N.take P.length=P
 par:∀x∈P,sc.names.lookup x=Fk .local\/sc.names.lookup x=Fk .cell
 jJ:∀y∈sc.names,y.2≠.free
theorem Rq{kindOf:Str->uD xk}{x:Str}:∀{binds:Gc (Str×Wp)} {m:Str->uD Wp},(∀v,(x,v)∉binds)->bindL kindOf binds m x=m x
 | [],_,_=>rfl
 |(n,v)::r,m,h=>by
  unfold bindL
  rw[Rq λw hw=>h w (uJ _ hw)]
  split
  .have:x≠n:=by rintro rfl;exact h v uP
   simp[this]
  .rfl
theorem RU{kindOf:Str->uD xk}{x:Str}:∀{binds:Gc (Str×Wp)} {m:Str->uD Wp},(∀v,(x,v)∉binds)->bindC kindOf binds m x=m x
 | [],_,_=>rfl
 |(n,v)::r,m,h=>by
  unfold bindC
  rw[RU λw hw=>h w (uJ _ hw)]
  split
  .rfl
  .have:x≠n:=by rintro rfl;exact h v uP
   simp[this]
theorem Sm{kindOf:Str->uD xk}{x:Str}{v:Wp}:∀{P:Gc Str} {vs:Gc Wp} {i:Nat} {m:Str->uD Wp},P.Nodup->P[i]?=Fk x->vs[i]?=Fk v->kindOf x=Fk .local->bindL kindOf (P.zip vs) m x=Fk v
 | [],_,_,_,_,h,_,_=>by simp at h
 |_::_,[],_,_,_,_,h,_=>by simp at h
 |p::P,w::vs,0,m,nd,h1,h2,hk=>by
  simp at h1 h2;subst h1;subst h2
  show bindL kindOf ((p,w)::P.zip vs) m p=_
  unfold bindL
  rw[Rq λv hv=>(wq.mp nd).1 (vx hv).1,vD hk]
  simp
 |p::P,w::vs,i+1,m,nd,h1,h2,hk=>by
  show bindL kindOf ((p,w)::P.zip vs) m x=_
  unfold bindL
  exact Sm (i:=i) (wq.mp nd).2 (by simpa using h1) (by simpa using h2) hk
theorem SD{kindOf:Str->uD xk}{x:Str}{v:Wp}:∀{P:Gc Str} {vs:Gc Wp} {i:Nat} {m:Str->uD Wp},P.Nodup->P[i]?=Fk x->vs[i]?=Fk v->kindOf x≠Fk .local->bindC kindOf (P.zip vs) m x=Fk v
 | [],_,_,_,_,h,_,_=>by simp at h
 |_::_,[],_,_,_,_,h,_=>by simp at h
 |p::P,w::vs,0,m,nd,h1,h2,hk=>by
  simp at h1 h2;subst h1;subst h2
  show bindC kindOf ((p,w)::P.zip vs) m p=_
  unfold bindC
  rw[RU λv hv=>(wq.mp nd).1 (vx hv).1,vH hk]
  simp
 |p::P,w::vs,i+1,m,nd,h1,h2,hk=>by
  show bindC kindOf ((p,w)::P.zip vs) m x=_
  unfold bindC
  exact SD (i:=i) (wq.mp nd).2 (by simpa using h1) (by simpa using h2) hk
noncomputable def start(N:Gc Str)(vs:Gc V):St:=vs.map Fk++uc (N.length-vs.length) uC
noncomputable def NR(CX:CXT)(P:ug)(w:vG)(K:KE)(mg:Str->uD Wp)(base:ux)(N:Gc Str)(qual:Str)(scope:vn)(f:uF)(cd:Wp)(A:vF)(outer:Gc Env)(s:uE)(H:Hp)(E:XK):Cx where
 prog:=P
 w:=w
 K:=K
 mg:=mg
 base:=base
 A:=A.deeper (envOfC qual scope s.heap.objs.size f cd)
 N:=N
 s₀:=s
 H₀:=H
 env:=envOfC qual scope s.heap.objs.size f cd
 outer:=outer
 stack:=envOfC qual scope s.heap.objs.size f cd::outer
 ex:=[]
 calm:=true
 fn:=λ_=>true
 pn:=[]
 xe:=λe s'=>wpAny (model P w) (A.deeper (envOfC qual scope s.heap.objs.size f cd)) (leaving (envOfC qual scope s.heap.objs.size f cd) e) (λ_ s''=>CX outer H s E e s'') (λe' s''=>CX outer H s E e' s'') s'
theorem Nr{sc:vn}{n:Nat}{x:Str}(h:sc.names.lookup x=Fk .cell):∃c,(cellsFrom n sc.names []).lookup x=Fk c:=by
 have q:=yY sc.names n [] (.inl h)
 exact Option.isSome_iff_exists.mp q
theorem Sk{CX:CXT}{P:ug}{w:vG}{K:KE}{mg:Str->uD Wp}{base:ux}{N ps:Gc Str}{qual:Str}{scope:vn}{f:uF}{cd:Wp}{A:vF}{outer:Gc Env}{s s1:uE}{H:Hp}{E:XK}{us:Gc Wp}{vs:Gc V}(S:AQ N ps scope)(hd:A.handled=uC)(e0:jc P w K mg base A outer s H)(hl:vs.length=ps.length)(r:Vals vs us)(x:InCallC s s.heap.objs.size (bindL (envOfC qual scope s.heap.objs.size f cd).kindOf (ps.zip us) λ_=>uC) (cellsFrom (s.heap.objs.size+1) scope.names []) (bindC (envOfC qual scope s.heap.objs.size f cd).kindOf (ps.zip us) λ_=>uC) s1):Inv (NR CX P w K mg base N qual scope f cd A outer s H E) [] (start N vs) H s1:=by
 have hpl:ps.length<=N.length:=by have:=congrArg xf S.pre;rw[yp]at this;lia
 obtain⟨h1,tk,rfl,hk⟩:=x.done
 have noA:∀b:uF,b∉(NR CX P w K mg base N qual scope f cd A outer s H E).ex:=λb z=>absurd (show b∈([]:Gc uF)from z) (by simp)
 refine⟨⟨e0.mod,S.kind,rfl,rfl,uN _,λy z c h1 h2=>?_,λy hy=>?_,λy c _ h=>?_,λ_=>hd,AAn e0.frames,.inr ⟨rfl,rfl⟩,λb z=>absurd z (noA b),e0.bs,e0.bsz,λb _ _=>noA b,λb z=>absurd z (noA b),e0.U1,e0.frf⟩,
  rfl,e0.bare,Un.kept hk,⟨_,x.toInCall.ns,λi y v h1 h2 h3=>?_⟩,λy c h=>⟨_,x.cell y c h⟩,e0.hok.fresh (uN _),λy c h=>?_,λp hp=>absurd (show p∈([]:Gc (uF×Obj))from hp) (by simp),e0.hok.kept hk,?_⟩
 .exact name_of_addr x.apart (vN h1) (vN h2)
 .have hy:scope.names.lookup y=Fk .cell\/scope.names.lookup y=Fk .free:=hy
  rcases hy with hy|hy
  .exact Nr hy
  .exact absurd rfl (S.jJ _ (vN hy))
 .exact zA (x.above y c (vN h))
 .have hi:i<vs.length:=by
   unfold start at h2
   by_cases hi:i<vs.length
   .exact hi
   .rw[vI (by simpa using hi)]at h2
    rw[zx]at h2
    split at h2<;>cases h2
  have ha:vs[i]?=Fk v:=by
   unfold start at h2
   rw[uH (by simpa using hi),uQ]at h2
   cases e:vs[i]? with
   |none=>rw[e]at h2;cases h2
   |some a=>rw[e]at h2;cases h2;rfl
  obtain⟨u,hu,rv⟩:=r.get ha
  have hp:ps[i]?=Fk y:=by
   rw[<-S.pre,List.getElem?_take_of_lt (by lia)];exact h1
  have ndP:ps.Nodup:=by rw[<-S.pre];exact S.nd.sublist (List.take_sublist _ _)
  refine⟨u,rv,?_⟩
  rcases S.par y (uY hp)with k|k
  .exact .inl ⟨k,Sm ndP hp hu k⟩
  .obtain⟨c,e⟩:=Nr (n:=s.heap.objs.size+1) k
   refine .inr ⟨.inl k,c,e,?_⟩
   have q:=x.cell y c e
   rw[SD ndP hp hu (by show scope.names.lookup y≠_;rw[k];decide)]at q
   exact q
 .exact e0.hok.fresh (zA (x.above y c (vN h)))
 .unfold start
  show _=N.length
  rw[vd,vL,List.length_replicate]
  lia
theorem eS{CX:CXT}{P:ug}{w:vG}{K:KE}{mg:Str->uD Wp}{base:ux}{k:Nat}{f:uF}{name qual:Str}{params:zH}{body:Gc vC}{scope:vn}{dV kV doc pm cdv ct oc:Wp}{an od:uD uF}{osl:vQ (uD Wp)}{N ps:Gc Str}{sp:Sp}(lk:K.lookup f=Fk ⟨oc,od,.func (x9 name qual params body scope dV kV doc pm an cdv ct),osl⟩)(hcd:zM K cdv qual=true)(S:AQ N ps scope)(len:∀vs H Q E,sp vs H Q E->vs.length=ps.length)(hbody:∀(A:vF) (outer:Gc Env) (s:uE) (H:Hp) (vs:Gc V) (Q:VK) (E:XK),Hu k (A.deeper (envOfC qual scope s.heap.objs.size f cdv))->sp vs H Q E->∃t,PSs (NR CX P w K mg base N qual scope f cdv A outer s H E) body t/\t {nx:=λ_ H'=>Q .non H',rt:=Q} (start N vs) H):Up P w K mg base CX (k+1) f (x9 name qual params body scope dV kV doc pm an cdv ct) ps sp:=by
 refine⟨len,λA outer s H args us vs Q E hr e0 hb r hsp=>?_⟩
 have hl:=len _ _ _ _ hsp
 have KX:K.In s.heap:=e0.mod.kin.keeps λb o e=>(e0.bs b o e).1
 have lim:s.heap.NoLimit:=e0.mod.nolimit.keeps λb o e=>(e0.bs b o e).1
 have hkind:∀y∈ps.zip us,scope.names.lookup y.1=Fk .local\/(scope.names.lookup y.1=Fk .cell/\((cellsFrom (s.heap.objs.size+1) scope.names []).lookup y.1).isSome=true):=λ⟨n,v⟩ hy=>by
  rcases S.par n (vx hy).1 with q|q
  .exact .inl q
  .exact .inr ⟨q,yY _ _ _ (.inl q)⟩
 refine AAe hr.depth (KX _ _ lk) rfl S.co S.gen rfl (ABL KX hcd) (hb _ _ _ _ ?_)
 refine zO S.kind hkind λenv he s1 x=>?_
 subst he
 refine⟨lim.keeps x.toInCall.keep,codeAny_func ?_⟩
 obtain⟨t,ht,hq⟩:=hbody A outer s H vs Q E (hr.deeper _) hsp
 have I:Inv (NR CX P w K mg base N qual scope f cdv A outer s H E) [] (start N vs) H s1:=Sk S hr.hd e0 hl r x
 refine wB (ht [] s1 (start N vs) H _ I hq) (λfl s' hs=>?_) λe s' hs=>hs
 have fin:∀{σ':St} {H':Hp} {v:V} {u:Wp},Inv (NR CX P w K mg base N qual scope f cdv A outer s H E) [] σ' H' s'->RelV v u->Q v H'->CE outer P w H s Q u s':=
  λ{σ' H' v u} J rv q=>⟨v,H',J.os,J.bare,J.base,J.hok,rv,q⟩
 cases fl with
 |ret u=>
  obtain⟨v,σ',H',J,rv,q⟩:=hs
  exact fin J rv q
 |next=>
  obtain⟨σ',H',J,q⟩:=hs
  exact fin (v:=V.non) (u:=vo) J rfl q
 |brk=>
  obtain⟨_,_,_,q⟩:=hs
  exact wC q
 |cont=>
  obtain⟨_,_,_,q⟩:=hs
  exact wC q
end L2
namespace L2
open PySem PySem.Spec PyProof.Rows
section
variable{X:Cx}{x:Str}{p pos:Pos}{e:uh}{es:Gc uh}{t:TA}{id T:xA}{r:Gc V->Hp->VK->Prop}
noncomputable def tCB(r:Gc V->Hp->VK->Prop)(t:TA):TE:=λσ H Q=>t σ H λvs H1=>r vs H1 Q
theorem Zh(hc:Fe X (.builtin id) r)(hg:Gl X x)(hm:X.mg x=uC)(hv:bootBuiltins x=Fk (.builtin id))(ha:PA X (e::es) t)(hn:x≠ "__name__":=by decide)(hdb:(x==("__debug__":Str))=false:=by decide)(he:ue (e::es) X.env=(false,eval e X.env)::ue es X.env:=by rfl)(hpl:(backTo pos (ue es X.env)).any (·.1)=false:=by rfl):PE X (.Call (.Name x p) (e::es) [] pos) (tCB r t):=by
 intro pins s σ H Q I h
 refine vt (Mr I hg hm hv ?_ hn hdb)
 exact PyProof.Rows.callWith_builtin1 (thn (ha pos pins s σ H _ I h) λus s1 ⟨vs,H1,I1,r1,q1⟩=>hc pins s1 σ H1 vs us Q I1 r1 q1) he hpl
theorem Yd(hc:Fe X (.type T) r)(hg:Gl X x)(hm:X.mg x=uC)(hv:bootBuiltins x=Fk (.type T))(ha:PA X (e::es) t)(hn:x≠ "__name__":=by decide)(hdb:(x==("__debug__":Str))=false:=by decide)(he:ue (e::es) X.env=(false,eval e X.env)::ue es X.env:=by rfl)(hpl:(backTo pos (ue es X.env)).any (·.1)=false:=by rfl):PE X (.Call (.Name x p) (e::es) [] pos) (tCB r t):=by
 intro pins s σ H Q I h
 refine vt (Mr I hg hm hv ?_ hn hdb)
 exact wL (thn (ha pos pins s σ H _ I h) λus s1 ⟨vs,H1,I1,r1,q1⟩=>hc pins s1 σ H1 vs us Q I1 r1 q1) he hpl
end
end L2
namespace HT
open PySem PyProof.Rows
section
open PySem.SeqAt
open PySem.AutoSeq1 (wpAny_loadPart')
open PySem.MeetsSeq PySem.MeetsSeq2 PySem.MeetsSeq3
end
section
variable{prog:ug}{w:vG}{A:vF}{E:Wp->uE->Prop}{s:uE}
theorem gm{t b:uF}{vs ws:Gc Wp}{Q:Wp->uE->Prop}(ht:IsTup s.heap t vs.toArray)(hb:IsTup s.heap b ws.toArray)(hv:vs≠[])(h1:ws=[]->Q (.ref t) s)(h2:ws≠[]->Q (.ref s.heap.objs.size) {s with heap:=s.heap.push {cls:=.type "tuple",data:=.seq (vs++ws).toArray}})(hsz:vs.length+ws.length<=sizeLine):wpAny (model prog w) A (binaryOp .Add (.ref t) (.ref b)) Q E s:=by
 obtain⟨⟨cls,dd,data,sl⟩,ho,hc,n,hd⟩:=id ht
 obtain⟨⟨cls2,dd2,data2,sl2⟩,ho2,hc2,n2,hd2⟩:=id hb
 simp only at hc hd hc2 hd2
 subst hc hd hc2 hd2
 have e:vs.toArray++ws.toArray=(vs++ws).toArray:=by simp
 by_cases hw:ws=[]
 .exact concat_meets ⟨_,ho,rfl⟩ ⟨_,ho2,rfl⟩ zy ABF yZ yS (yI _ _)
   (tuple_addW1 t b vs.toArray ws.toArray n n2 dd dd2 sl sl2 (by simpa using hv) (by simp[hw])) ⟨ho,ho2,h1 hw⟩
 .refine concat_meets ⟨_,ho,rfl⟩ ⟨_,ho2,rfl⟩ zy ABF yZ yS (yI _ _)
   (tuple_addW2 t b vs.toArray ws.toArray n n2 dd dd2 sl sl2 (by simpa using hv) (by simpa using hw) (by rw[uV,uV];exact hsz)) ⟨ho,ho2,?_⟩
  rw[e]
  exact h2 hw
noncomputable def sIx(n d:Nat):uD Int->Nat
 |none=>d
 |some v=>if v<0 then(v+(n:Int)).toNat else min v.toNat n
theorem Tx(n d k:Nat):sIx n d (Fk (k:Int))=min k n:=by
 show(if(k:Int)<0 then((k:Int)+(n:Int)).toNat else min (k:Int).toNat n)=min k n
 rw[vH (by lia),xp]
theorem jb(n d:Nat)(hd:d<=n)(o:uD Int):sIx n d o<=n:=by
 cases o with
 |none=>exact hd
 |some v=>
  show(if v<0 then(v+(n:Int)).toNat else min v.toNat n)<=n
  by_cases hv:v<0
  .rw[vD hv];lia
  .rw[vH hv];exact Nat.min_le_right _ _
theorem WY(v:Int)(n d:Nat):(if v<0 then max (v+(n:Int)) 0 else min v (n:Int))=((sIx n d (Fk v):Nat):Int):=by
 show(if v<0 then max (v+(n:Int)) 0 else min v (n:Int))=(((if v<0 then(v+(n:Int)).toNat else min v.toNat n):Nat):Int)
 by_cases hv:v<0
 .simp only[vD hv];lia
 .simp only[vH hv];lia
theorem Vo(lo hi:uD Int)(n:Nat):v5 lo hi 1 (n:Int)=(((sIx n 0 lo:Nat):Int),((sIx n n hi:Nat):Int)):=by
 have h1:¬((1:Int)<0):=by lia
 unfold v5
 simp only[h1,zP]
 refine Prod.ext ?_ ?_
 .cases lo with
  |none=>rfl
  |some v=>exact WY v n 0
 .cases hi with
  |none=>rfl
  |some v=>exact WY v n n
theorem Vh(i j:Nat):vb (i:Int) (j:Int) 1=j-i:=by
 unfold vb
 have h1:(1:Int)>0:=by lia
 simp only[h1,ya,Int.ediv_one]
 split<;>lia
theorem Pr{v:Wp}{o:uD Int}{Q:uD Int->uE->Prop}(p:AAI v o)(h:Q o s):wpAny (model prog w) A (Builtin.Slice.slicePartIndex v) Q E s:=by
 cases p with
 |none=>exact zQ h
 |int i t=>exact slicePart_int h
theorem Jh{sl:uF}{vl vu:Wp}{lo hi:uD Int}{n:Nat}{Q:Int×Int×Nat->uE->Prop}(hs:s.heap.IsSliceOf sl vl vu .none)(pl:AAI vl lo)(pu:AAI vu hi)(h:Q (((sIx n 0 lo:Nat):Int),1,sIx n n hi-sIx n 0 lo) s):wpAny (model prog w) A (xC (.ref sl) (pure (n:Int))) Q E s:=by
 obtain⟨os,hos,hcs,hds⟩:=id hs
 unfold xC zc
 refine tz (tz (wD hos hds (x:=vl) rfl (tz (wD hos hds (x:=vu) rfl (tz (wD hos hds (x:=.none) rfl (uR ?_)))))))
 refine tz (zQ ?_)
 show wpAny _ _ (if((1:Int)==0)=true then _ else _) _ _ s
 rw[vH (by decide)]
 refine tz (Pr pl (tz (Pr pu (tz (uR ?_)))))
 show wpAny _ _ (match v5 lo hi 1 (n:Int)with|(lo,hi)=>pure (lo,(1:Int),vb lo hi 1)) _ _ s
 rw[Vo lo hi n]
 show wpAny _ _ (pure (((sIx n 0 lo:Nat):Int),(1:Int),vb ((sIx n 0 lo:Nat):Int) ((sIx n n hi:Nat):Int) 1)) _ _ s
 rw[Vh]
 exact uR h
theorem bu(xs:vQ Wp)(i k:Nat):((uU k).filterMap λ(m:Nat)=>xs[((i:Int)+(m:Int)*1).toNat]?).toArray=((xs.toList.drop i).take k).toArray:=by
 have e:(λ(m:Nat)=>xs[((i:Int)+(m:Int)*1).toNat]?)=λm=>xs[i+m]?:=by
  funext m
  have:((i:Int)+(m:Int)*1).toNat=i+m:=by lia
  rw[this]
 rw[e]
 have:=pick_run xs i k
 rw[List.filterMap_map]at this
 have e2:((λx=>xs[x]?)∘λx=>i+x)=λm=>xs[i+m]?:=rfl
 rw[e2]at this
 rw[this]
theorem MW{t sl:uF}{items:vQ Wp}{vl vu:Wp}{lo hi:uD Int}{Q:Wp->uE->Prop}(ht:IsTup s.heap t items)(hs:s.heap.IsSliceOf sl vl vu .none)(pl:AAI vl lo)(pu:AAI vu hi)(hw:¬(sIx items.size 0 lo=0/\sIx items.size items.size hi=items.size))(h:Q (.ref s.heap.objs.size) {s with heap:=s.heap.push {cls:=.type "tuple",data:=.seq ((items.toList.drop (sIx items.size 0 lo)).take (sIx items.size items.size hi-sIx items.size 0 lo)).toArray}})(hsz:items.size<=sizeLine):wpAny (model prog w) A (getItem (.ref t) (.ref sl)) Q E s:=by
 have htake:sizeOk (.seq ((items.toList.drop (sIx items.size 0 lo)).take (sIx items.size items.size hi-sIx items.size 0 lo)).toArray):=by
  show((items.toList.drop (sIx items.size 0 lo)).take (sIx items.size items.size hi-sIx items.size 0 lo)).toArray.size<=sizeLine
  rw[uV,yp,z0,y8]
  lia
 have hj:sIx items.size items.size hi<=items.size:=jb _ _ (uN _) hi
 obtain⟨os,hos,hcs,hds⟩:=id hs
 have hTs:s.TypeIs (.ref sl) "slice":=⟨os,hos,hcs⟩
 unfold getItem
 try with_reducible refine wM ?_
 first|refine tz (uR ?_)|skip
 refine tz (zg ht.typeIs (by decide) ?_)
 refine tz (vq (name:=vk "__getitem__") ht.typeIs uw
  (wK uw ht.typeIs y9 ?_ (zR _ _)))
 show wpAny _ _ (xu (.ref t) >>= _) _ _ s
 refine tz (ABG ht ?_)
 refine tz (AAJ hTs ?_)
 rw[vD (by decide)]
 refine tz (Jh hs pl pu ?_)
 have hno:¬((((sIx items.size 0 lo:Nat):Int)==0 && (1:Int)==1 && (sIx items.size items.size hi-sIx items.size 0 lo)==items.size)=true):=by
  intro q
  rw[uT,uT]at q
  have q1:((sIx items.size 0 lo:Nat):Int)=0:=eq_of_beq q.1.1
  have q2:sIx items.size items.size hi-sIx items.size 0 lo=items.size:=eq_of_beq q.2
  exact hw ⟨by lia,by lia⟩
 show wpAny _ _ (if(((sIx items.size 0 lo:Nat):Int)==0 && (1:Int)==1 && (sIx items.size items.size hi-sIx items.size 0 lo)==items.size)=true then _ else _) _ _ s
 rw[vH hno,bu]
 first
  |exact tz (m:=ve _) (vp (uR ⟨_,rfl,uR h⟩) htake)
  |exact tz (m:=ve _) (vp (tz (uR (uR ⟨_,rfl,uR h⟩))) htake)
  |exact tz (tz (m:=ve _) (vp (uR (uR ⟨_,rfl,uR h⟩)) htake))
  |exact tz (tz (m:=ve _) (vp (uR ⟨_,rfl,uR h⟩) htake))
end
end HT
namespace L2
open PySem PySem.Spec PyProof.Rows
abbrev TO:=St->Hp->(uD Int->Hp->Prop)->Prop
def PO(X:Cx)(e:uD uh)(t:TO):Prop:=
 ∀(pins:Gc (uF×Obj)) (s:uE) (σ:St) (H:Hp) (Q:uD Int->Hp->Prop),Inv X pins σ H s->t σ H Q->
  wpAny (model X.prog X.w) X.A (evalPart e X.env) (λu s'=>∃o H',Inv X pins σ H' s'/\AAI u o/\Q o H') X.xe s
noncomputable def d9:TO:=λ_ H Q=>Q uC H
noncomputable def oW(t:TE):TO:=λσ H Q=>t σ H λx H1=>∃i,x=.int i/\Q (Fk i) H1
theorem intsAre_of{ns:Gc Int}:∀{us:Gc Wp},Vals (ns.map V.int) us->yJ us ns:=by
 induction ns with
 |nil=>intro us r;rw[vy]at r;cases r;exact .nil
 |cons n ns ih=>
  intro us r
  rw[ui]at r
  cases r with
  |cons r1 r2=>
   obtain⟨t,e⟩:=r1
   subst e
   exact .cons n t (ih r2)
section
variable{X:Cx}{e:uh}{te:TE}{lo hi:uD uh}{tl th:TO}{pos p2:Pos}
theorem XG:PO X uC d9:=by
 intro pins s σ H Q I h
 rw[ABH]
 exact uR ⟨uC,H,I,.none,h⟩
theorem QR(h:PE X e te):PO X (Fk e) (oW te):=by
 intro pins s σ H Q I hw
 rw[evalPart_some]
 refine thn (h pins s σ H _ I hw) λu s1 ⟨x,H1,I1,r1,q1⟩=>?_
 obtain⟨i,rfl,q⟩:=q1
 obtain⟨t,rfl⟩:=r1
 exact⟨Fk i,H1,I1,.int i t,q⟩
def SlR(X:Cx)(r:V->uD Int->uD Int->Hp->VK->Prop):Prop:=
 ∀(pins:Gc (uF×Obj)) (s:uE) (σ:St) (H:Hp) (x:V) (v vl vu:Wp) (lo hi:uD Int) (sl:uF) (Q:VK),Inv X pins σ H s->RelV x v->s.heap.IsSliceOf sl vl vu .none->AAI vl lo->AAI vu hi->r x lo hi H Q->
  ∃T id,typeLookup (.type T) "__getitem__"=pure (Fk (.builtin id))/\s.TypeIs v T/\wpAny (model X.prog X.w) X.A (getItem v (.ref sl)) (EP X pins σ Q) X.xe s
noncomputable def tSl(r:V->uD Int->uD Int->Hp->VK->Prop)(te:TE)(tl th:TO):TE:=λσ H Q=>te σ H λx H1=>tl σ H1 λl H2=>th σ H2 λu H3=>r x l u H3 Q
theorem RG{r:V->uD Int->uD Int->Hp->VK->Prop}(hr:SlR X r)(he:PE X e te)(hl:PO X lo tl)(hu:PO X hi th):PE X (.Subscript e (.Slice lo hi uC p2) pos) (tSl r te tl th):=by
 intro pins s σ H Q I h
 refine AAj (thn (he pins s σ H _ I h) λv s1 ⟨x,H1,I1,r1,q1⟩=>?_)
 refine wpAny_Slice (thn (hl pins s1 σ H1 _ I1 q1) λvl s2 ⟨l,H2,I2,pl,q2⟩=>thn (hu pins s2 σ H2 _ I2 q2) λvu s3 ⟨u,H3,I3,pu,q3⟩=>?_)
 rw[ABH]
 refine uR ?_
 have I4:Inv X pins σ H3 {s3 with heap:=s3.heap.push {cls:=.type "slice",data:=.fields #[vl,vu,.none]}}:=I3.kept (t':=s3.toks) λb ob q=>uB _ q
 obtain⟨T,id,hT,ht,hg⟩:=hr pins {s3 with heap:=s3.heap.push {cls:=.type "slice",data:=.fields #[vl,vu,.none]}} σ H3 x v vl vu l u s3.heap.objs.size Q I4 r1 (ABM ..) pl pu q3
 show wpAny (model X.prog X.w) X.A (subscriptTail e (.Slice lo hi uC p2) v (.ref s3.heap.objs.size)) (EP X pins σ Q) X.xe {s3 with heap:=s3.heap.push {cls:=.type "slice",data:=.fields #[vl,vu,.none]}}
 exact tail_any (ops:=[.ref s3.heap.objs.size,v]) ht hT hg (by with_unfolding_all rfl)
noncomputable def cg(xs:Gc V)(lo hi:uD Int):Gc V:=(xs.drop (HT.sIx xs.length 0 lo)).take (HT.sIx xs.length xs.length hi-HT.sIx xs.length 0 lo)
theorem PC(xs:Gc V)(lo hi:uD Int):(cg xs lo hi).length<=xs.length:=by
 unfold cg
 rw[yp,z0]
 lia
def sX(K:KE):V->uD Int->uD Int->Hp->VK->Prop:=λx lo hi H Q=>∃a xs,x=.ref a/\SqT K H a xs/\
 ¬(HT.sIx xs.length 0 lo=0/\HT.sIx xs.length xs.length hi=xs.length)/\∀p,H p=uC->Q (.ref p) (upd H p (.tup (cg xs lo hi)))
theorem jO:SlR X (sX X.K):=by
 intro pins s σ H x v vl vu lo hi sl Q I rx hs pl pu h
 obtain⟨a,xs,rfl,hx,hw,q⟩:=h
 cases rx
 obtain⟨its,r,ht,hz⟩:=I.tuple hx
 have hlen:its.toArray.size=xs.length:=by rw[uV];exact r.length.symm
 refine⟨"tuple",_,uw.lookup,ht.typeIs,?_⟩
 refine HT.MW ht hs pl pu (by rw[hlen];exact hw) ?_ (by rw[hlen];exact hz)
 rw[hlen]
 refine⟨.ref s.heap.objs.size,_,I.laid (t':=s.toks) (o:=.tup (cg xs lo hi)) (λb ob q=>uB _ q) (uN _) ?_,rfl,q _ (I.hok.fresh (uN _))⟩
 exact⟨uO (PC xs lo hi) hz,_,(r.drop (HT.sIx xs.length 0 lo)).take (HT.sIx xs.length xs.length hi-HT.sIx xs.length 0 lo),xS _ _⟩
noncomputable def oU(K:KE):R2:=λx y H Q=>∃a b xs ys,x=.ref a/\y=.ref b/\SqT K H a xs/\SqT K H b ys/\xs≠[]/\xs.length+ys.length<=sizeLine/\
 (ys=[]->Q (.ref a) H)/\(ys≠[]->∀p,H p=uC->Q (.ref p) (upd H p (.tup (xs++ys))))
theorem Vals.Qx{xs:Gc V}{us:Gc Wp}(r:Vals xs us):us=[]↔xs=[]:=by
 cases r with
 |nil=>simp
 |cons _ _=>simp
theorem gS:OpR X (binaryOp .Add) (oU X.K):=by
 intro pins s σ H x y v u Q I rx ry h
 obtain⟨a,b,xs,ys,rfl,rfl,ha,hb,hx,hz,q1,q2⟩:=h
 cases rx
 cases ry
 obtain⟨its,r1,p1,_⟩:=I.tuple ha
 obtain⟨its2,r2,p2,_⟩:=I.tuple hb
 refine HT.gm p1 p2 (λz=>hx (r1.Qx.mp z)) (λz=>⟨.ref a,H,I,rfl,q1 (r2.Qx.mp z)⟩) (λz=>?_) (by rw[<-r1.length,<-r2.length];exact hz)
 refine⟨.ref s.heap.objs.size,_,I.laid (t':=s.toks) (o:=.tup (xs++ys)) (λb ob q=>uB _ q) (uN _) ?_,rfl,q2 (λw=>z (r2.Qx.mpr w)) _ (I.hok.fresh (uN _))⟩
 exact⟨by rw[vd];exact hz,_,r1.append r2,xS _ _⟩
end
end L2
namespace L2
open PySem PySem.Spec PyProof.Rows
noncomputable def ixN(n:Nat)(i:Int):uD Nat:=if 0<=i then(if i<n then Fk i.toNat else uC)else if-(n:Int)<=i then Fk (i+n).toNat else uC
noncomputable def atI{α:Type}(xs:Gc α)(i:Int):uD α:=(ixN xs.length i).bind λj=>xs[j]?
theorem XN{n:Nat}{i:Int}{j:Nat}(h:ixN n i=Fk j):seqIndex? i n=Fk j/\j<n/\ -(n:Int)<=i/\i<n:=by
 unfold ixN at h
 by_cases h0:0<=i
 .rw[vD h0]at h
  by_cases h1:i<n
  .rw[vD h1]at h
   have e:i.toNat=j:=vY h
   exact⟨by rw[seqIndex_of h0 h1,e],by lia,by lia,h1⟩
  .rw[vH h1]at h;cases h
 .rw[vH h0]at h
  by_cases h1: -(n:Int)<=i
  .rw[vD h1]at h
   have e:(i+n).toNat=j:=vY h
   exact⟨by rw[seqIndex_neg (by lia) h1,e],by lia,h1,by lia⟩
  .rw[vH h1]at h;cases h
theorem YL{α:Type}{xs:Gc α}{i:Int}{v:α}(h:atI xs i=Fk v):∃j,seqIndex? i xs.length=Fk j/\xs[j]?=Fk v/\j<xs.length/\ -(xs.length:Int)<=i/\i<xs.length:=by
 unfold atI at h
 cases e:ixN xs.length i with
 |none=>rw[e]at h;cases h
 |some j=>
  rw[e]at h
  obtain⟨h1,h2,h3,h4⟩:=XN e
  exact⟨j,h1,h,h2,h3,h4⟩
theorem eD{α:Type}{xs:Gc α}{j:Nat}{v:α}(h:xs[j]?=Fk v):atI xs (j:Int)=Fk v:=by
 have hj:j<xs.length:=(uL.mp h).1
 have e:ixN xs.length (j:Int)=Fk j:=by
  unfold ixN
  rw[vD (by lia),vD (by lia)];simp
 unfold atI;rw[e];exact h
theorem RD{α:Type}(xs:Gc α)(v:α):atI (xs++[v]) (-1)=Fk v:=by
 have hl:(xs++[v]).length=xs.length+1:=by simp
 have e:ixN (xs++[v]).length (-1)=Fk xs.length:=by
  unfold ixN
  rw[hl,vH (by decide),vD (by lia)]
  congr 1
  lia
 unfold atI
 rw[e]
 show(xs++[v])[xs.length]?=Fk v
 simp
def YB(b:uh):Prop:=∀o i,subscripted b false o i=operate [o,i] (getItem o i)
def IxR(X:Cx)(r:R2):Prop:=
 ∀(value slice:uh) (pins:Gc (uF×Obj)) (s:uE) (σ:St) (H:Hp) (x y:V) (v u:Wp) (Q:VK),Inv X pins σ H s->RelV x v->RelV y u->r x y H Q->
  subscripted slice false v u=operate [v,u] (getItem v u)->wpAny (model X.prog X.w) X.A (subscriptTail value slice v u) (EP X pins σ Q) X.xe s
def MtR(X:Cx)(id:xA)(r:V->Gc V->Hp->VK->Prop):Prop:=
 ∀(pins:Gc (uF×Obj)) (s:uE) (σ:St) (H:Hp) (x:V) (xs:Gc V) (v:Wp) (us:Gc Wp) (Q:VK),Inv X pins σ H s->RelV x v->Vals xs us->r x xs H Q->
  wpAny (model X.prog X.w) X.A (call (.builtin id) (v::us)) (EP X pins σ Q) X.xe s
section
variable{X:Cx}{a b:uh}{ta tb:TE}{pos:Pos}
theorem mx{r:R2}(hr:IxR X r)(ha:PE X a ta)(hb:PE X b tb)(hs:YB b):PE X (.Subscript a b pos) (tOp r ta tb):=by
 intro pins s σ H Q I h
 exact AAj (nW ha hb I h λv u s2 x y H2 I2 rx ry q=>hr a b pins s2 σ H2 x y v u Q I2 rx ry q (hs _ _))
noncomputable def sR(K:KE):R2:=λx y H Q=>∃p xs i v,x=.ref p/\y=.int i/\SqL K H p xs/\atI xs i=Fk v/\Q v H
noncomputable def sF(K:KE):R2:=λx y H Q=>∃p xs i v,x=.ref p/\y=.int i/\SqT K H p xs/\atI xs i=Fk v/\Q v H
theorem fD:IxR X (sR X.K):=by
 intro value slice pins s σ H x y v u Q I rx ry h hs
 obtain⟨p,xs,i,z,rfl,rfl,hq,he,q⟩:=h
 cases rx
 obtain⟨t,rfl⟩:=ry
 obtain⟨its,r,pl,hz⟩:=I.list hq
 obtain⟨j,h1,h2,h3,h4,h5⟩:=YL he
 obtain⟨w,ew,rw'⟩:=r.get h2
 have hl:=r.length
 have hn:=Rz
 have fin:EP X pins σ Q w s:=⟨z,H,I,rw',q⟩
 by_cases h0:0<=i
 .have hj:i.toNat=j:=by
   rw[seqIndex_of h0 h5]at h1
   exact vY h1
  exact item_listR pl.isList h0 (by lia) (by rw[hj];simpa using ew) fin hs
 .have hj:(i+(its.toArray.size:Int)).toNat=j:=by
   rw[seqIndex_neg (by lia) h4]at h1
   rw[uV,<-hl]
   exact vY h1
  exact AAK (x:=w) pl.isList.typeIs slot_list_getitem.lookup
   (wpAny_getItem_list_neg (Q:=λr s'=>r=w/\EP X pins σ Q r s') pl.isList (by lia) (by rw[uV]<;>lia) (by lia) (by rw[hj];simpa using ew) ⟨rfl,fin⟩) hs
theorem jj:IxR X (sF X.K):=by
 intro value slice pins s σ H x y v u Q I rx ry h hs
 obtain⟨p,xs,i,z,rfl,rfl,hq,he,q⟩:=h
 cases rx
 obtain⟨t,rfl⟩:=ry
 obtain⟨its,r,pl,hz⟩:=I.tuple hq
 obtain⟨j,h1,h2,h3,h4,h5⟩:=YL he
 obtain⟨w,ew,rw'⟩:=r.get h2
 have hl:=r.length
 have hn:=Rz
 have fin:EP X pins σ Q w s:=⟨z,H,I,rw',q⟩
 exact AAK (x:=w) pl.typeIs uw.lookup
  (getItem_tuple (j:=j) (Q:=λr s'=>r=w/\EP X pins σ Q r s') pl (by lia) (by lia) (by rw[uV,<-hl];exact h1) (by simpa using ew) ⟨rfl,fin⟩) hs
theorem Vy(its:Gc Wp)(n j:Nat)(u:Wp):zS (·.setIfInBounds j u) {cls:=.type "list",data:=.seq its.toArray n}={cls:=.type "list",data:=.seq (its.set j u).toArray n}:=by
 simp[zS]
theorem Inv.lst{pins:Gc (uF×Obj)}{σ:St}{H:Hp}{s:uE}{p:uF}{xs:Gc V}(I:Inv X pins σ H s)(h:H p=Fk (.lst xs)):∃(its:Gc Wp) (n:Nat),Vals xs its/\s.heap.get? p=Fk {cls:=.type "list",data:=.seq its.toArray n}/\xs.length<=sizeLine:=by
 obtain⟨z,its,n,r,e⟩:=I.hok p _ h
 exact⟨its,n,r,e,z⟩
theorem Inv.iI{pins:Gc (uF×Obj)}{σ:St}{H:Hp}{s:uE}{p:uF}{xs ys:Gc V}{its its':Gc Wp}{n n':Nat}{f:Obj->Obj}(I:Inv X pins σ H s)(h:H p=Fk (.lst xs))(ho:s.heap.get? p=Fk {cls:=.type "list",data:=.seq its.toArray n})(hf:f {cls:=.type "list",data:=.seq its.toArray n}={cls:=.type "list",data:=.seq its'.toArray n'})(r:Vals ys its')(hz:ys.length<=sizeLine)(t:Nat):Inv X pins σ (upd H p (.lst ys)) {s with heap:=s.heap.update p f,toks:=t}:=by
 have e:(s.heap.update p f).get? p=Fk {cls:=.type "list",data:=.seq its'.toArray n'}:=by
  rw[AAf f ho (by rw[hf]<;>rfl),hf]
 refine I.write (x:=p) (e:=p) (by rw[h];trivial) (.inl rfl) (λb u hb q=>(xg _ _ (wI hb)).trans q) ⟨_,e⟩ ?_
 exact⟨hz,its',n',r,e⟩
def nS:V->V->V->Hp->(Hp->Prop)->Prop:=λo i v H Q=>∃p xs k j,o=.ref p/\i=.int k/\H p=Fk (.lst xs)/\ixN xs.length k=Fk j/\Q (upd H p (.lst (xs.set j v)))
theorem set_list:qp X nS:=by
 intro pins s σ H o i v ov iv u Q I ro ri rv h
 obtain⟨p,xs,k,j,rfl,rfl,hp,hj,q⟩:=h
 cases ro
 obtain⟨t,rfl⟩:=ri
 obtain⟨its,n,r,ho,hz⟩:=I.lst hp
 obtain⟨h1,h2,h3,h4⟩:=XN hj
 have hl:=r.length
 have hn:=Rz
 have I':Inv X pins σ (upd H p (.lst (xs.set j v))) {s with heap:=s.heap.update p (zS (·.setIfInBounds j u))}:=
  I.iI hp ho (Vy its n j u) (r.set rv j) (by rw[wt];exact hz) s.toks
 by_cases h0:0<=k
 .have hk:k.toNat=j:=by
   rw[seqIndex_of h0 h4]at h1
   exact vY h1
  exact PySem.W.ki_setAt ho h0 (by lia) (by rw[uV,<-hl];exact h4) (by rw[hk];exact⟨_,I',q⟩)
 .have hk:(k+(its.toArray.size:Int)).toNat=j:=by
   rw[seqIndex_neg (by lia) h3]at h1
   rw[uV,<-hl]
   exact vY h1
  exact PySem.W.ki_setBack ho (by lia) (by rw[uV,<-hl];exact h3) (by lia) (by rw[hk];exact⟨_,I',q⟩)
theorem SN(lo hi:uD Int)(n:Nat):(sliceBounds lo hi uC n).1=((HT.sIx n 0 lo:Nat):Int)/\(sliceBounds lo hi uC n).2.1=((HT.sIx n n hi:Nat):Int)/\(sliceBounds lo hi uC n).2.2=1:=by
 refine⟨?_,?_,rfl⟩
 .cases lo with
  |none=>simp[sliceBounds,HT.sIx]
  |some i=>
   simp only[sliceBounds,HT.sIx,Option.getD_none,show(1:Int)>0 by decide,ya]
   by_cases h:i<0
   .simp only[h,ya]<;>lia
   .simp only[h,zP]<;>lia
 .cases hi with
  |none=>simp[sliceBounds,HT.sIx]
  |some i=>
   simp only[sliceBounds,HT.sIx,Option.getD_none,show(1:Int)>0 by decide,ya]
   by_cases h:i<0
   .simp only[h,ya]<;>lia
   .simp only[h,zP]<;>lia
theorem Qz(its:Gc Wp)(lo hi:uD Int):slicePick its.toArray lo hi uC=((its.drop (HT.sIx its.length 0 lo)).take (HT.sIx its.length its.length hi-HT.sIx its.length 0 lo)).toArray:=by
 obtain⟨h1,h2,h3⟩:=SN lo hi its.toArray.size
 unfold slicePick
 rw[h1,h2,h3]
 simp only[sliceRange_one,pick_run,uV]<;>rfl
def rV(K:KE):V->uD Int->uD Int->Hp->VK->Prop:=λx lo hi H Q=>∃a xs,x=.ref a/\SqL K H a xs/\∀p,H p=uC->Q (.ref p) (upd H p (.lst (cg xs lo hi)))
theorem eG:SlR X (rV X.K):=by
 intro pins s σ H x v vl vu lo hi sl Q I rx hs pl pu h
 obtain⟨a,xs,rfl,hx,q⟩:=h
 cases rx
 obtain⟨its,r,ht,hz⟩:=I.list hx
 have hlen:=r.length
 refine⟨"list",_,slot_list_getitem.lookup,ht.isList.typeIs,?_⟩
 refine wpAny_getItem_list_slice ht.isList hs pl pu .none (by simp) ?_ (by rw[uV]<;>lia)
 rw[Qz,<-hlen]
 refine⟨.ref s.heap.objs.size,_,I.laid (t':=s.toks) (o:=.lst (cg xs lo hi)) (λb ob q=>uB _ q) (uN _) ?_,rfl,q _ (I.hok.fresh (uN _))⟩
 exact⟨uO (PC xs lo hi) hz,_,0,(r.drop (HT.sIx xs.length 0 lo)).take (HT.sIx xs.length xs.length hi-HT.sIx xs.length 0 lo),uf _ rfl⟩
noncomputable def PY:V->vE
 | .non=>true
 | .bl _=>true
 | .int _=>true
 | .str _=>true
 |_=>false
noncomputable def eqV:V->V->vE
 | .non,.non=>true
 | .bl a,.bl b=>a==b
 | .bl a,.int b=>(if a then 1 else 0)==b
 | .int a,.bl b=>a==(if b then 1 else 0)
 | .int a,.int b=>a==b
 | .str a,.str b=>a==b
 |_,_=>false
theorem iL{A:vF}{s:uE}{y x:V}{u v:Wp}(ry:RelV y u)(rx:RelV x v)(fy:PY y=true)(fx:PY x=true):SeqAt.EqAt A s u v (eqV y x):=by
 cases y with
 |non=>
  cases ry
  cases x with
  |non=>cases rx;exact SeqAt.EqAt.same _
  |bl b=>cases rx;exact SeqAt.EqAt.none_bool b
  |int b=>obtain⟨t,rfl⟩:=rx;exact SeqAt.EqAt.none_int b t
  |str b=>obtain⟨t,rfl⟩:=rx;exact SeqAt.EqAt.none_str b t
  |_=>exact absurd (show false=true from fx) vS
 |bl a=>
  cases ry
  cases x with
  |non=>cases rx;exact SeqAt.EqAt.bool_none a
  |bl b=>cases rx;exact SeqAt.EqAt.bool_bool a b
  |int b=>obtain⟨t,rfl⟩:=rx;exact SeqAt.EqAt.bool_int a b t
  |str b=>obtain⟨t,rfl⟩:=rx;exact SeqAt.EqAt.bool_str a b t
  |_=>exact absurd (show false=true from fx) vS
 |int a=>
  obtain⟨t',rfl⟩:=ry
  cases x with
  |non=>cases rx;exact SeqAt.EqAt.int_none a t'
  |bl b=>cases rx;exact SeqAt.EqAt.int_bool a t' b
  |int b=>obtain⟨t,rfl⟩:=rx;exact SeqAt.EqAt.int_int a t' b t
  |str b=>obtain⟨t,rfl⟩:=rx;exact ABI a t' b t
  |_=>exact absurd (show false=true from fx) vS
 |str a=>
  obtain⟨t',rfl⟩:=ry
  cases x with
  |non=>cases rx;exact SeqAt.EqAt.str_none a t'
  |bl b=>cases rx;exact SeqAt.EqAt.str_bool a t' b
  |int b=>obtain⟨t,rfl⟩:=rx;exact ABJ a t' b t
  |str b=>obtain⟨t,rfl⟩:=rx;exact SeqAt.EqAt.str_str a t' b t
  |_=>exact absurd (show false=true from fx) vS
 |_=>exact absurd (show false=true from fy) vS
noncomputable def eqU(x:V)(u:Wp):vE:=match u with
 | .none=>eqV .non x
 | .bool b=>eqV (.bl b) x
 | .int i _=>eqV (.int i) x
 | .str z _=>eqV (.str z) x
 |_=>false
theorem cE{x y:V}{u:Wp}(r:RelV y u)(f:PY y=true):eqU x u=eqV y x:=by
 cases y with
 |non=>cases r;rfl
 |bl b=>cases r;rfl
 |int i=>obtain⟨t,rfl⟩:=r;rfl
 |str z=>obtain⟨t,rfl⟩:=r;rfl
 |_=>exact absurd (show false=true from f) vS
theorem Ox{x:V}:∀{xs:Gc V} {us:Gc Wp},Vals xs us->xs.all PY=true->us.any (eqU x)=xs.any λy=>eqV y x
 |_,_,.nil,_=>rfl
 |y::xs,u::us,.cons r t,f=>by
  rw[wy,uT]at f
  rw[w6,w6,cE r f.1,Ox t f.2]
theorem Ll{A:vF}{s:uE}{x:V}{v:Wp}(rx:RelV x v)(fx:PY x=true):∀{xs:Gc V} {us:Gc Wp},Vals xs us->xs.all PY=true->∀u∈us,SeqAt.EqAt A s u v (eqU x u)
 |_,_,.nil,_=>λu hu=>by cases hu
 |y::xs,u::us,.cons r t,f=>λu' hu=>by
  rw[wy,uT]at f
  rcases uI.mp hu with rfl|hu
  .rw[cE r f.1];exact iL r rx f.1 fx
  .exact Ll rx fx t f.2 u' hu
noncomputable def inV(x:V)(xs:Gc V):vE:=xs.any λy=>eqV y x
noncomputable def rIn(K:KE)(neg:vE):R2:=λx y H Q=>∃p xs,y=.ref p/\(SqL K H p xs\/SqT K H p xs)/\PY x=true/\xs.all PY=true/\Q (.bl (if neg then !inV x xs else inV x xs)) H
theorem YX:OpR X (compareOp .In) (rIn X.K false):=by
 intro pins s σ H x y v u Q I rx ry h
 obtain⟨p,xs,rfl,hq,fx,fs,q⟩:=h
 cases ry
 rcases hq with hq|hq
 .obtain⟨its,r,pl,hz⟩:=I.list hq
  refine SeqAt.in_listAt (eqU x) pl.isList (λw hw=>Ll rx fx r fs w (by simpa using hw)) ⟨.bl _,H,I,rfl,?_⟩
  rw[show its.toArray.any (eqU x)=its.any (eqU x) by simp,Ox r fs]
  exact q
 .obtain⟨its,r,pl,hz⟩:=I.tuple hq
  refine SeqAt.in_tupleAt (eqU x) pl (λw hw=>Ll rx fx r fs w (by simpa using hw)) ⟨.bl _,H,I,rfl,?_⟩
  rw[show its.toArray.any (eqU x)=its.any (eqU x) by simp,Ox r fs]
  exact q
theorem Rv:OpR X (compareOp .NotIn) (rIn X.K true):=by
 intro pins s σ H x y v u Q I rx ry h
 obtain⟨p,xs,rfl,hq,fx,fs,q⟩:=h
 cases ry
 rcases hq with hq|hq
 .obtain⟨its,r,pl,hz⟩:=I.list hq
  refine SeqAt.notIn_listAt (eqU x) pl.isList (λw hw=>Ll rx fx r fs w (by simpa using hw)) ⟨.bl _,H,I,rfl,?_⟩
  rw[show its.toArray.any (eqU x)=its.any (eqU x) by simp,Ox r fs]
  exact q
 .obtain⟨its,r,pl,hz⟩:=I.tuple hq
  refine SeqAt.notIn_tupleAt (eqU x) pl (λw hw=>Ll rx fx r fs w (by simpa using hw)) ⟨.bl _,H,I,rfl,?_⟩
  rw[show its.toArray.any (eqU x)=its.any (eqU x) by simp,Ox r fs]
  exact q
theorem R6:Fe X (.builtin "len") (λxs H Q=>∃p ys,xs=[.ref p]/\(SqL X.K H p ys\/SqT X.K H p ys)/\Q (.int ys.length) H):=by
 intro pins s σ H xs us Q I r h
 obtain⟨p,ys,rfl,hq,q⟩:=h
 obtain⟨u,rfl,rx⟩:=vals1 r
 cases rx
 have hn:=Rz
 rcases hq with hq|hq
 .obtain⟨its,r',pl,hz⟩:=I.list hq
  have hlen:=r'.length
  exact Calls.call_len_list pl.isList (by simp only[uV]<;>lia) ⟨.int ys.length,H,I.tok _,⟨s.toks+1,by rw[uV,hlen]⟩,q⟩
 .obtain⟨its,r',pl,hz⟩:=I.tuple hq
  have hlen:=r'.length
  exact len_tuple pl (by simp only[uV]<;>lia) ⟨.int ys.length,H,I.tok _,⟨s.toks+1,by rw[uV,hlen]⟩,q⟩
theorem Rh:Fe X (.builtin "len") (λxs H Q=>∃z,xs=[.str z]/\z.length<=sizeLine/\Q (.int z.length) H):=by
 intro pins s σ H xs us Q I r h
 obtain⟨z,rfl,hz,q⟩:=h
 obtain⟨u,rfl,t,rfl⟩:=vals1 r
 have hn:=Rz
 exact len_str (by lia) ⟨.int z.length,H,I.tok _,⟨_,rfl⟩,q⟩
theorem SE:Fe X (.type "list") (λxs H Q=>∃p ys,xs=[.ref p]/\(SqL X.K H p ys\/SqT X.K H p ys)/\∀l,H l=uC->Q (.ref l) (upd H l (.lst ys))):=by
 intro pins s σ H xs us Q I r h
 obtain⟨p,ys,rfl,hq,q⟩:=h
 obtain⟨u,rfl,rx⟩:=vals1 r
 cases rx
 have fin:∀(its:Gc Wp),Vals ys its->ys.length<=sizeLine->∀(h':ux) (c':Nat),(∀b o',s.heap.get? b=Fk o'->h'.get? b=Fk o')->
   h'.get? s.heap.objs.size=Fk {cls:=.type "list",dict:=uC,data:=.seq its.toArray c',slots:= #[]}->EP X pins σ Q (.ref s.heap.objs.size) {s with heap:=h'}:=λits r' hz h' c' kp e=>
  ⟨.ref s.heap.objs.size,_,I.laid (t':=s.toks) kp (uN _) (show EL X.prog X.w _ h' _ (.lst ys)from⟨hz,its,c',r',e⟩),rfl,q _ (I.hok.fresh (uN _))⟩
 rcases hq with hq|hq
 .obtain⟨its,r',pl,hz⟩:=I.list hq
  have hlen:=r'.length
  obtain⟨o,ho,hc,n,hd⟩:=pl.isList
  exact call_list_seq p (.inl rfl) ho hc hd (λh' c' kp e=>fin its r' hz h' c' kp e) (by simp only[uV]<;>lia)
 .obtain⟨its,r',pl,hz⟩:=I.tuple hq
  have hlen:=r'.length
  obtain⟨o,ho,hc,n,hd⟩:=pl
  exact call_list_seq p (.inr rfl) ho hc hd (λh' c' kp e=>fin its r' hz h' c' kp e) (by simp only[uV]<;>lia)
theorem Q7:Fe X (.type "tuple") (λxs H Q=>∃p ys,xs=[.ref p]/\((SqL X.K H p ys/\∀l,H l=uC->Q (.ref l) (upd H l (.tup ys)))\/(SqT X.K H p ys/\Q (.ref p) H))):=by
 intro pins s σ H xs us Q I r h
 obtain⟨p,ys,rfl,h⟩:=h
 obtain⟨u,rfl,rx⟩:=vals1 r
 cases rx
 rcases h with⟨hq,q⟩|⟨hq,q⟩
 .obtain⟨its,r',pl,hz⟩:=I.list hq
  have hlen:=r'.length
  refine call_tuple_list pl.isList (λh' kp=>?_) (by simp only[uV]<;>lia)
  have I1:Inv X pins σ H {s with heap:=h'}:=I.kept (t':=s.toks) kp
  have I2:Inv X pins σ (upd H h'.objs.size (.tup ys)) {s with heap:=h'.push {cls:=.type "tuple",data:=.seq its.toArray}}:=
   I1.laid (t':=s.toks) (λb o e=>uB _ e) (uN _) (show EL X.prog X.w _ _ _ (.tup ys)from⟨hz,its,r',xS _ _⟩)
  exact⟨.ref h'.objs.size,_,I2,rfl,q _ (I1.hok.fresh (uN _))⟩
 .obtain⟨its,r',pl,hz⟩:=I.tuple hq
  exact call_tuple_same pl ⟨.ref p,H,I,rfl,q⟩
def tyV(K:KE)(T:xA)(x:V)(H:Hp):Prop:=match x with
 | .str _=>T="str"
 | .int _=>T="int"
 | .ref p=>(T="list" /\∃xs,SqL K H p xs)\/(T="tuple" /\∃o,K.lookup p=Fk o/\o.cls=.type "tuple" /\o.dict=uC)∨
    (T="dict" /\((∃kvs,H p=Fk (.dK kvs))\/∃kvs,H p=Fk (.dT kvs)))\/(T="set" /\∃S n,H p=Fk (.set S n))
 |_=>wk
theorem dR{pins:Gc (uF×Obj)}{σ:St}{H:Hp}{s:uE}{T:xA}{x:V}{v:Wp}(I:Inv X pins σ H s)(r:RelV x v)(ty:tyV X.K T x H):s.TypeIs v T/\∀a,v=.ref a->∃ob,s.heap.get? a=Fk ob/\ob.dict=none:=by
 cases x with
 |str z=>
  obtain⟨t,rfl⟩:=r
  cases (show T="str" from ty)
  exact⟨zT s z t,λ_ e=>nomatch e⟩
 |int i=>
  obtain⟨t,rfl⟩:=r
  cases (show T="int" from ty)
  exact⟨xv s i t,λ_ e=>nomatch e⟩
 |ref p=>
  cases r
  rcases ty with⟨rfl,xs,hq⟩|⟨rfl,o,hk,hc,hd⟩|⟨rfl,hk⟩|⟨rfl,S,n,hk⟩
  .obtain⟨its,_,pl,_⟩:=I.list hq
   refine⟨pl.isList.typeIs,λa e=>?_⟩
   cases e
   obtain⟨o,n,e,c,hd,_⟩:=pl
   exact⟨o,e,hd⟩
  .refine⟨⟨o,I.kIn p o hk,hc⟩,λa e=>?_⟩
   cases e
   exact⟨o,I.kIn _ o hk,hd⟩
  .have z:∃o,s.heap.get? p=Fk o/\o.ExactDict:=by
    rcases hk with⟨kvs,hk⟩|⟨kvs,hk⟩
    .obtain⟨_,_,_,_,o,_,_,e,ex,_⟩:=I.hok p _ hk
     exact⟨o,e,ex⟩
    .obtain⟨_,_,_,_,o,_,_,e,ex,_⟩:=I.hok p _ hk
     exact⟨o,e,ex⟩
   obtain⟨o,e,ex⟩:=z
   refine⟨⟨o,e,ex.1⟩,λa e2=>?_⟩
   cases e2
   exact⟨o,e,ex.2.1⟩
  .obtain⟨o,_,_,_,e,ex,_⟩:=I.hok p _ hk
   refine⟨⟨o,e,ex.1⟩,λa e2=>?_⟩
   cases e2
   exact⟨o,e,ex.2.1⟩
 |_=>exact wC ty
noncomputable def rm(K:KE)(T:xA)(r:V->Gc V->Hp->VK->Prop)(to:TE):TE:=λσ H Q=>to σ H λx H1=>tyV K T x H1/\r x [] H1 Q
noncomputable def tBM(K:KE)(T:xA)(r:V->Gc V->Hp->VK->Prop)(to:TE)(t:TA):TE:=λσ H Q=>to σ H λx H1=>tyV K T x H1/\t σ H1 λxs H2=>r x xs H2 Q
variable{o e:uh}{es:Gc uh}{to:TE}{t:TA}{name:Str}{apos cpos:Pos}{T id:xA}{r:V->Gc V->Hp->VK->Prop}
theorem kf(pa:PlainAttrs T)(slot:Slot T name id)(hty:typeOf (.builtin id)=pure (.type "method_descriptor"))(hm:MtR X id r)(ho:PE X o to)(hbase:attributeBase o name X.env (eval o X.env)=eval o X.env:=by rfl)(hline:(apos.endLine==cpos.line)=true:=by rfl):PE X (.Call (.Attribute o name apos) [] [] cpos) (rm X.K T r to):=by
 intro pins s σ H Q I h
 refine wpAny_Call_method0_late hbase hline (thn (ho pins s σ H _ I h) λv s1 ⟨x,H1,I1,r1,ty,q1⟩=>?_)
 obtain⟨h1,h2⟩:=dR I1 r1 ty
 exact⟨T,id,pa,slot,hty,h1,h2,AAL rfl (PySem.evalArgs_none (hm pins s1 σ H1 x [] v [] Q I1 r1 .nil q1))⟩
theorem nJ(pa:PlainAttrs T)(slot:Slot T name id)(hty:typeOf (.builtin id)=pure (.type "method_descriptor"))(hm:MtR X id r)(ho:PE X o to)(ha:PA X (e::es) t)(hbase:attributeBase o name X.env (eval o X.env)=eval o X.env:=by rfl)(hfew:((backTo cpos (ue (e::es) X.env)).all (λx=> !x.1) && (backToKw cpos (keywordEach [] X.env)).all (λx=>x.1.isSome) && decide ((e::es).length+([]:Gc zf).length+(if([]:Gc zf).isEmpty then 0 else 1)<30))=true:=by rfl)(hline:(apos.endLine==cpos.line)=true:=by rfl)(hs:ue (e::es) X.env=(false,eval e X.env)::ue es X.env:=by rfl)(hplain:(backTo cpos (ue es X.env)).any (·.1)=false:=by rfl):PE X (.Call (.Attribute o name apos) (e::es) [] cpos) (tBM X.K T r to t):=by
 intro pins s σ H Q I h
 refine wpAny_Call_method_late hbase hfew hline rfl (thn (ho pins s σ H _ I h) λv s1 ⟨x,H1,I1,r1,ty,q1⟩=>?_)
 obtain⟨h1,h2⟩:=dR I1 r1 ty
 refine⟨T,id,pa,slot,hty,h1,h2,?_⟩
 have hA:=ha cpos pins s1 σ H1 _ I1 q1
 rw[hs]at hA⊢
 refine AAL (by show(false||(backTo cpos (ue es X.env)).any (·.1))=false;rw[hplain]<;>rfl) (AAo ?_)
 exact thn hA λus s2 ⟨vs,H2,I2,r2,q2⟩=>hm pins s2 σ H2 x vs v us Q I2 r1 r2 q2
end
end L2
namespace L2
open PySem PySem.Spec PyProof.Rows
def MtM(X:Cx)(id:xA)(r:V->Gc V->Hp->VK->Prop):Prop:=
 ∀(pins:Gc (uF×Obj)) (s:uE) (σ:St) (H:Hp) (x:V) (xs:Gc V) (v:Wp) (us:Gc Wp) (Q:VK),Inv X pins σ H s->RelV x v->Vals xs us->r x xs H Q->
  wpAny (model X.prog X.w) X.A (call (.builtin id) (v::us)) (EP X pins σ Q) X.xe s
theorem Vals.one:∀{x:V} {us:Gc Wp},Vals [x] us->∃u,us=[u]/\RelV x u
 |_,_,.cons r .nil=>⟨_,rfl,r⟩
theorem Vals.two:∀{x y:V} {us:Gc Wp},Vals [x,y] us->∃u v,us=[u,v]/\RelV x u/\RelV y v
 |_,_,_,.cons r (.cons q .nil)=>⟨_,_,rfl,r,q⟩
theorem Vals.rep{xs:Gc V}{us:Gc Wp}(h:Vals xs us):∀k:Nat,Vals (uc k xs).flatten (uc k us).flatten
 |0=>.nil
 |k+1=>by
  rw[wQ,wQ,xN,xN]
  exact Vals.append h (Vals.rep h k)
theorem foldl_rep(its:Gc Wp):∀(k:Nat) (acc:Gc Wp),ABN (λx1 x2=>x1++x2) acc.toArray (uc k its.toArray)=(acc++(uc k its).flatten).toArray
 |0,acc=>by simp
 |k+1,acc=>by
  have e:acc.toArray++its.toArray=(acc++its).toArray:=by simp
  have e2:(acc++its)++(uc k its).flatten=acc++(uc (k+1) its).flatten:=by
   rw[wQ,xN,yb]
  rw[<-e2,<-foldl_rep its k (acc++its),<-e,wQ,List.foldl_cons]
section
variable{X:Cx}{pins:Gc (uF×Obj)}{σ:St}{H:Hp}{s:uE}{l b:uF}{xs ys zs:Gc V}
theorem Inv.oq{its its':Gc Wp}{n:Nat}{f:vQ Wp->vQ Wp}{t':Nat}(I:Inv X pins σ H s)(hH:H l=Fk (.lst xs))(e:s.heap.get? l=Fk {cls:=.type "list",data:=.seq its.toArray n})(hf:f its.toArray=its'.toArray)(hv:Vals ys its')(hz:ys.length<=sizeLine):Inv X pins σ (upd H l (.lst ys)) {s with heap:=s.heap.update l (zS f),toks:=t'}:=by
 have q:=PySem.IsL.update e f
 rw[hf]at q
 refine I.write (x:=l) (e:=l) (by rw[hH];exact trivial) (.inl rfl) (λb' u hb hu=>(xg s.heap (zS f) (wI hb)).trans hu) ⟨_,q⟩ ?_
 exact⟨hz,its',_,hv,q⟩
theorem Inv.qa{its:Gc Wp}{t':Nat}(I:Inv X pins σ H s)(hv:Vals ys its)(hz:ys.length<=sizeLine):Inv X pins σ (upd H s.heap.objs.size (.lst ys)) {s with heap:=s.heap.push {cls:=.type "list",data:=.seq its.toArray},toks:=t'}:=
 I.laid (λ_ _ q=>uB _ q) (uN _) ⟨hz,its,0,hv,uf _ rfl⟩
theorem Inv.fresh(I:Inv X pins σ H s):H s.heap.objs.size=none:=I.hok.fresh (uN _)
theorem Inv.c8(I:Inv X pins σ H s)(hH:H l=Fk (.lst xs)):xs.length<=sizeLine/\∃(its:Gc Wp) (n:Nat),Vals xs its/\xs.length=its.length/\s.heap.get? l=Fk {cls:=.type "list",data:=.seq its.toArray n}:=by
 obtain⟨z,its,n,r,e⟩:=I.hok l _ hH
 exact⟨z,its,n,r,r.length,e⟩
theorem RP{n:Nat}(h:n<=sizeLine):wG n=false:=by
 unfold wG
 exact xJ (by lia)
end
section
variable{X:Cx}
def eN:V->Gc V->Hp->VK->Prop:=λx vs H Q=>∃l xs y,x=.ref l/\vs=[y]/\H l=Fk (.lst xs)/\xs.length<sizeLine/\Q .non (upd H l (.lst (xs++[y])))
theorem R5:MtM X "list.append" eN:=by
 intro pins s σ H x vs v us Q I rx rv h
 obtain⟨l,xs,y,rfl,rfl,hH,hz,q⟩:=h
 cases rx
 obtain⟨u,rfl,ru⟩:=rv.one
 obtain⟨z,its,n,r,hl,e⟩:=I.c8 hH
 refine wu uq ⟨_,e,rfl⟩ F.entry_list_append (F.args_list_append_2 _ _) (PySem.list_append l its.toArray n u (by rw[uV];lia)) ⟨e,?_⟩
 refine⟨.non,_,I.oq (its':=its++[u]) hH e (by simp) (r.append (.cons ru .nil)) ?_,rfl,q⟩
 rw[vd,AAg]
 lia
def gn:V->Gc V->Hp->VK->Prop:=λx vs H Q=>∃l b xs zs,x=.ref l/\vs=[.ref b]/\H l=Fk (.lst xs)/\H b=Fk (.lst zs)/\xs.length+zs.length<=sizeLine/\Q .non (upd H l (.lst (xs++zs)))
theorem Xl:MtM X "list.extend" gn:=by
 intro pins s σ H x vs v us Q I rx rv h
 obtain⟨l,b,xs,zs,rfl,rfl,hH,hB,hz,q⟩:=h
 cases rx
 obtain⟨u,rfl,ru⟩:=rv.one
 cases ru
 obtain⟨z,its,n,r,hl,e⟩:=I.c8 hH
 obtain⟨z2,its2,n2,r2,hl2,e2⟩:=I.c8 hB
 have hsz:its.toArray.size+its2.toArray.size<=sizeLine:=by rw[uV,uV];lia
 have hlong:¬(!its.toArray.isEmpty && wG (its.toArray.size+its2.toArray.size))=true:=by
  rw[RP hsz,AAp]
  exact vS
 refine wu yv ⟨_,e,rfl⟩ AA8 (AAq _ _)
  (AutoSeq1.list_extend_list_list_0 l its.toArray n b its2.toArray n2 hlong (by rw[uV];lia) (by lia)) ⟨e,e2,?_⟩
 refine⟨.non,_,I.oq (its':=its++its2) hH e (by simp) (r.append r2) ?_,rfl,q⟩
 rw[vd]
 lia
noncomputable def sE:R2:=λx y H Q=>∃l b xs zs,x=.ref l/\y=.ref b/\H l=Fk (.lst xs)/\H b=Fk (.lst zs)/\xs.length+zs.length<=sizeLine/\∀p,H p=uC->Q (.ref p) (upd H p (.lst (xs++zs)))
theorem jt:OpR X (binaryOp .Add) sE:=by
 intro pins s σ H x y v u Q I rx ry h
 obtain⟨l,b,xs,zs,rfl,rfl,hH,hB,hz,q⟩:=h
 cases rx
 cases ry
 obtain⟨z,its,n,r,hl,e⟩:=I.c8 hH
 obtain⟨z2,its2,n2,r2,hl2,e2⟩:=I.c8 hB
 refine PySem.P.add_list e e2 ?_ (by rw[uV,uV];lia)
 have ea:its.toArray++its2.toArray=(its++its2).toArray:=by simp
 rw[ea]
 exact⟨.ref _,_,I.qa (t':=s.toks) (r.append r2) (by rw[vd];lia),rfl,q _ I.fresh⟩
noncomputable def si:R2:=λx y H Q=>∃l k xs,x=.ref l/\y=.int k/\H l=Fk (.lst xs)/\ -(2^63)<=k/\k<2^63/\xs.length*k.toNat<=sizeLine/\
 ∀p,H p=uC->Q (.ref p) (upd H p (.lst (uc k.toNat xs).flatten))
theorem len_rep{α:Type}(xs:Gc α)(k:Nat):(uc k xs).flatten.length=k*xs.length:=by
 induction k with
 |zero=>simp
 |succ k ih=>rw[wQ,xN,vd,ih,Nat.succ_mul,AAM]
theorem jq:OpR X (binaryOp .Mult) si:=by
 intro pins s σ H x y v u Q I rx ry h
 obtain⟨l,k,xs,rfl,rfl,hH,h1,h2,hz,q⟩:=h
 cases rx
 obtain⟨t,rfl⟩:=ry
 obtain⟨z,its,n,r,hl,e⟩:=I.c8 hH
 have hlen:its.toArray.size*k.toNat<=sizeLine:=by rw[uV,<-hl];exact hz
 have hcap:¬its.toArray.size*k.toNat>(2^63-1) / 8:=by
  have:(sizeLine:Nat)<=(2^63-1) / 8:=by decide
  lia
 have hfit:¬(!Builtin.List.listFitsIndex k)=true:=by
  rw[fitsIndex_both h1 h2]
  exact vS
 have hlong:¬wG (its.toArray.size*k.toNat)=true:=by
  rw[RP hlen]
  exact vS
 have hnew:ABN (λx1 x2=>x1++x2) #[] (uc (if its.toArray.isEmpty=true then 0 else k.toNat) its.toArray)=(uc k.toNat its).flatten.toArray:=by
  have f0:∀m:Nat,ABN (λx1 x2=>x1++x2) #[] (uc m its.toArray)=(uc m its).flatten.toArray:=λm=>by
   have:=foldl_rep its m []
   rw[uz]at this
   exact this
  rw[f0]
  cases its with
  |nil=>simp
  |cons a r'=>rw[vH (by simp)]
 refine yD (T:="list") (U:="int") (by decide) ⟨_,e,rfl⟩ (λs'=>xv s' k t) noFill_list_mul AAW xl repeat_list z6.lookup
  (wu xl (xv s k t) z7 (zh _ _) (int___rmul___int_list k t l its.toArray n)
    ⟨e,rfl,⟨_,e,rfl⟩,wu F.slot_list_mul ⟨_,e,rfl⟩ F.entry_list_mul (F.args_list_mul_2 _ _) (AutoListH.list___mul___list_int_3 l its.toArray n k t hfit hcap hlong) ⟨e,?_⟩⟩)
 rw[hnew]
 exact⟨.ref _,_,I.qa (t':=s.toks) (r.rep k.toNat) (by rw[len_rep,xO];exact hz),rfl,q _ I.fresh⟩
end
section
variable{prog:ug}{w:vG}{A:vF}{E:Wp->uE->Prop}{s:uE}
end
section
variable{X:Cx}
end
end L2
namespace Att
open PySem PySem.W PySem.Calls PyProof.Rows
theorem ints_of_wellAll{P:Params}{h:ux}:∀(ns:Gc Int) (vs:Gc Wp),WellAll P h vs (ns.map WData.int)->yJ vs ns:=by
 intro ns
 induction ns with
 |nil=>
  intro vs w
  rw[vy]at w
  cases w
  exact .nil
 |cons n ns ih=>
  intro vs w
  rw[ui]at w
  cases w with
  |cons a b=>
   cases a
   exact .cons _ _ (ih _ b)
theorem script_of{l:AAC}{n:Nat}(hn:l.most=Fk n){P:Params}{h:ux}{args:Gc WData}{vals:Gc Wp}(hpre:l.row.toRowW.claim.pre args=true)(hwl:WellAll P h vals args):∃a vs ns,vals=[va a]/\args=[WData.list (ns.map WData.int)]/\h.get? a=Fk {cls:=.type "list",data:=.seq vs.toArray}/\yJ vs ns/\ns.length<=n:=by
 have hsh:WShape.hasAll [] args [.list .int]=true:=(pre_splitW hpre).1
 have hc:l.pre.holds [] {args:=args}=true:=(pre_splitW hpre).2
 obtain⟨d,r,rfl,h1,h2⟩:=hasAllW_cons hsh
 obtain rfl:=hasAllW_nil h2
 obtain⟨xs,rfl,h3⟩:=hasW_list h1
 obtain⟨ns,rfl⟩:=items_int h3
 have hlen:ns.length<=n:=by
  unfold OpenLaw.pre at hc
  have h4:(WTm.not (.lt (.lit (.int (n:Int))) (.len (.arg 0)))).holds [] {args:=[.list (ns.map .int)]}=true:=by
   have h4:=(holds_andW hc).1
   rw[hn]at h4
   exact h4
  have h5:=condW_of h4 (w_not (w_lt w_lit (w_len_list (w_arg rfl))))
  rw[vL]at h5
  refine Nat.le_of_not_lt λq=>?_
  have q':(n:Int)<((ns.length:Nat):Int):=by lia
  first
   |(rw[wg q']at h5;exact absurd h5 (by decide))
   |(simp at h5;lia)
 cases hwl with
 |cons w1 w2=>
  cases w2
  cases w1 with
  |list ho hall=>exact⟨_,_,ns,rfl,rfl,ho,ints_of_wellAll ns _ hall,hlen⟩
theorem post_true(l:AAC)(args:Gc WData):l.row.toRowW.claim.post args (.bool true) args=true:=
 postW_of (r:=l.row.toRowW) (X:=(true==true))
  (show WShape.has [] (.bool true) .bool=true by first|rfl|decide|simp[WShape.has,WShape.arms,WShape.armsAll])
  (show(WTm.eq .res (.lit (.bool true))).value [] {args:=args,res:=Fk (.bool true),after:=args}=Fk (.bool (true==true))from w_eq_bool (w_res rfl) w_lit) rfl
theorem attach_call{l:AAC}{n:Nat}{q:ug}{loose:Gc Str}{XP:(Str->uD Wp)->ux->Prop}{YP:vG->ux->Prop}{d:DefRec}(hn:l.most=Fk n)(hdf:d.params.defaults=[])(call:∀(w:vG) (s₀ s₁:uE) (mg mb:Str->uD Wp) (fa:uF) (o:Obj) (pm cd doc:Wp) (a:uF) (vs:Gc Wp) (ns:Gc Int),Ground q loose [] XP w s₀ mg mb s₁.heap->YP w s₁.heap->s₁.heap.get? fa=Fk o->o.data=.func (docDef d.name d.params d.body d.scope pm cd doc)->s₁.heap.CodeRec cd d.name->mg d.name=Fk (.ref fa)->s₁.heap.get? a=Fk {cls:=.type "list",data:=.seq vs.toArray}->yJ vs ns->ns.length<=n->s₁.gens= #[]->codeAny (model l.prog w) callerA (.call (.ref fa) ⟨[.ref a],[]⟩) (λr s'=>r=.ok (.ret (.bool true))/\OldK s₁.heap s'.heap/\s'.os=s₁.os/\yR s'.gens) s₁):WalkO q loose XP YP l.row.toRowW d [] (λf vs=>PySem.call f vs):=by
 intro w s₀ s₁ mg mb G Y fa o pm cd doc dV kV ho hd hcd hD hmg hg args vals as hpre hlay hrd hwl hlo
 obtain rfl:dV=.none:=Dflts.none hD hdf
 obtain rfl:kV=.none:=Dflts.noKw hD
 obtain⟨a,vs,ns,rfl,rfl,hobj,hints,hlen⟩:=script_of hn hpre hwl
 refine enter_call (AAH (call w s₀ s₁ mg mb fa o pm cd doc a vs ns G Y ho (fd_plain hd) hcd hmg hobj hints hlen hg) λr s' hq=>?_)
 obtain⟨rfl,h2,h3,h4⟩:=hq
 exact⟨.inl ⟨.bool true,.bool true,[],rfl,λ_=>rfl,.bool true,post_true l _,λ_=>⟨List.Pairwise.nil,λ_ hm=>(nomatch hm)⟩⟩,h2,h3,h4⟩
section
variable{prog:ug}{w:vG}{A:vF}{E:Wp->uE->Prop}{s:uE}{K:KE}
end
end Att
namespace L2
open PySem PySem.Spec PyProof.Rows
theorem RZ:∀{vs:Gc Wp} {ns:Gc Int},yJ vs ns->Vals (ns.map V.int) vs
 |_,_,.nil=>.nil
 |_,_,.cons n t h=>.cons ⟨t,rfl⟩ (RZ h)
end L2
namespace L2
open PySem PySem.Spec PyProof.Rows
abbrev KOf{K:KE}{h:ux}(_:K.In h):KE:=K
end L2
namespace L2
open PySem PySem.Spec PyProof.Rows
noncomputable def OZ(s:vC):zH:=match s with
 | .FunctionDef _ a _ _ _ _ _ _ _ _=>a
 |_=>{posonlyargs:=[],args:=[],vararg:=uC,kwonlyargs:=[],kw_defaults:=[],kwarg:=uC,defaults:=[]}
noncomputable def DX(s:vC):Gc vC:=match s with
 | .FunctionDef _ _ b _ _ _ _ _ _ _=>b
 |_=>[]
noncomputable def AH(s:vC):vn:=match s with
 | .FunctionDef _ _ _ _ _ _ sc _ _ _=>sc
 |_=>{kind:=.function,names:=[],isGenerator:=false,isCoroutine:=false}
abbrev CX0:CXT:=λ_ _ _ _ _ _=>wk
abbrev E0:XK:=λ_ _ _=>wk
theorem pN{X:Cx}:Passes CX0 X E0:=λ_ _ _ _ _ _ _ h=>h.elim
structure Fun(K:KE)(x qual:Str)(st:vC)(f:uF)(fd:wV):Prop where
 ex:∃(oc:Wp) (od:uD uF) (kV doc pm:Wp) (an:uD uF) (cdv ct:Wp) (osl:vQ (uD Wp)),
  fd=x9 x qual (OZ st) (DX st) (AH st) .none kV doc pm an cdv ct/\K.lookup f=Fk ⟨oc,od,.func fd,osl⟩/\zM K cdv qual=true
 kp:we K (.ref f)=true
section
variable{P:ug}{w:vG}{K:KE}{mg:Str->uD Wp}{base:ux}
theorem Fun.ok{x qual:Str}{st:vC}{f:uF}{fd:wV}{N ps:Gc Str}{k:Nat}{sp:Sp}(F:Fun K x qual st f fd)(S:AQ N ps (AH st))(len:∀vs H Q E,sp vs H Q E->vs.length=ps.length)(hbody:∀(cdv:Wp) (A:vF) (outer:Gc Env) (s:uE) (H:Hp) (vs:Gc V) (Q:VK) (E:XK),Hu k (A.deeper (envOfC qual (AH st) s.heap.objs.size f cdv))->sp vs H Q E->∃t,PSs (NR CX0 P w K mg base N qual (AH st) f cdv A outer s H E).nox (DX st) t/\t {nx:=λ_ H'=>Q .non H',rt:=Q} (start N vs) H):Up P w K mg base CX0 (k+1) f fd ps sp:=by
 obtain⟨oc,od,kV,doc,pm,an,cdv,ct,osl,rfl,lk,hcd⟩:=F.ex
 refine eS lk hcd S len λA outer s H vs Q E hr hsp=>?_
 obtain⟨t,h,q⟩:=hbody cdv A outer s H vs Q E hr hsp
 exact⟨t,h.nox,q⟩
theorem Fun.binds{x qual:Str}{st:vC}{f:uF}{fd:wV}{ps:Gc Str}(F:Fun K x qual st f fd)(h:∀(kV doc pm:Wp) (an:uD uF) (cdv ct:Wp) (us:Gc Wp),us.length=ps.length->bindArgs (x9 x qual (OZ st) (DX st) (AH st) .none kV doc pm an cdv ct) ⟨us,[]⟩=pure (ps.zip us)):Binds K fd ps []:=by
 obtain⟨oc,od,kV,doc,pm,an,cdv,ct,osl,rfl,lk,hcd⟩:=F.ex
 exact .all (h kV doc pm an cdv ct)
theorem kW{x qual:Str}{st:vC}{f:uF}{oc:Wp}{od an:uD uF}{osl:vQ (uD Wp)}{kV doc pm cdv ct:Wp}(l:K.lookup f=Fk ⟨oc,od,.func (x9 x qual (OZ st) (DX st) (AH st) .none kV doc pm an cdv ct),osl⟩)(c:zM K cdv qual=true)(k:we K (.ref f)=true):Fun K x qual st f (x9 x qual (OZ st) (DX st) (AH st) .none kV doc pm an cdv ct):=⟨⟨oc,od,kV,doc,pm,an,cdv,ct,osl,rfl,l,c⟩,k⟩
end
section
variable{X:Cx}
end
theorem gF{A B:Prop}(h:B):if false=true then A else B:=by
 rw[vH vS]
 exact h
theorem gH{A B:Prop}(h:A):if true=true then A else B:=by
 rw[vD rfl]
 exact h
def Ce(H H':Hp):Prop:=∀b o,H b=Fk o->H' b=Fk o
end L2
end
noncomputable section
namespace L2
open PySem PySem.Spec PyProof.Rows
noncomputable def HW(cells:Gc (Str×uF)):Gc (Str×xk)->Gc (Str×uF)->Gc (Str×uF)
 | [],cs=>cs
 |(n,k)::r,cs=>if(k==vh)=true then HW cells r ((n,(cells.lookup n).getD 0)::cs)else HW cells r cs
theorem R1{env:Env}:∀(names:Gc (Str×xk)) (cs:Gc (Str×uF)),(∀y∈names,y.2=.free->∃a,env.cells.lookup y.1=Fk a)->(forIn names cs λ(x:Str×xk) r=>match x with|(name,kind)=>if(kind==vh)=true then(do let a<-cellOf env name;pure (yy ((name,a)::r)))else pure (yy r):Sem (Gc (Str×uF)))=pure (HW env.cells names cs)
 | [],cs,_=>by simp[HW]
 |(n,k)::r,cs,h=>by
  rw[AAX]
  have ih:=λcs=>R1 r cs λy hy=>h y (uJ _ hy)
  by_cases hk:(k==vh)=true
  .obtain⟨a,ha⟩:=h (n,k) uP (by simpa using hk)
   have ha':env.cells.lookup n=Fk a:=ha
   have e:cellOf env n=pure a:=by unfold cellOf;rw[ha']
   simp only[hk,ya,e,pure_bind,HW,ha',Option.getD_some]
   exact ih _
  .simp only[hk,zP,pure_bind,HW]
   exact ih _
theorem Q2{scope:vn}{env:Env}(h:∀y∈scope.names,y.2=.free->∃a,env.cells.lookup y.1=Fk a):closureFor scope env=pure (HW env.cells scope.names []):=by
 unfold closureFor
 have:=R1 (env:=env) scope.names [] h
 simp only[bind_pure]at this⊢
 exact this
theorem Lk{cells:Gc (Str×uF)}{x:Str}{c:uF}:∀{names:Gc (Str×xk)} {cs:Gc (Str×uF)},(∀y∈names,y.2=.free->∃a,cells.lookup y.1=Fk a)->(HW cells names cs).lookup x=Fk c->cs.lookup x=Fk c\/cells.lookup x=Fk c
 | [],cs,_,h=>.inl h
 |(n,k)::r,cs,hh,h=>by
  have hr:∀y∈r,y.2=.free->∃a,cells.lookup y.1=Fk a:=λy hy=>hh y (uJ _ hy)
  unfold HW at h
  by_cases hk:(k==vh)=true
  .rw[vD hk]at h
   rcases Lk hr h with q|q
   .obtain⟨a,ha⟩:=hh (n,k) uP (by simpa using hk)
    have ha':cells.lookup n=Fk a:=ha
    rw[vz]at q
    cases hx:x==n with
    |true=>
     rw[hx,ha']at q
     have e:x=n:=by simpa using hx
     subst e
     cases q
     exact .inr ha'
    |false=>
     rw[hx]at q
     exact .inl q
   .exact .inr q
  .rw[vH hk]at h
   exact Lk hr h
theorem Ip{cells:Gc (Str×uF)}{x:Str}:∀{names:Gc (Str×xk)} {cs:Gc (Str×uF)},((x,vh)∈names\/∃c,cs.lookup x=Fk c)->∃c,(HW cells names cs).lookup x=Fk c
 | [],cs,h=>h.elim (λz=>nomatch z) id
 |(n,k)::r,cs,h=>by
  unfold HW
  by_cases hk:(k==vh)=true
  .rw[vD hk]
   refine Ip ?_
   by_cases hx:x=n
   .subst hx
    exact .inr ⟨_,by rw[vz,beq_self_eq_true]⟩
   .rcases h with h|⟨c,h⟩
    .rcases uI.mp h with e|e
     .cases e;exact absurd rfl hx
     .exact .inl e
    .refine .inr ⟨c,?_⟩
     rw[vz,show(x==n)=false by simpa using hx]
     exact h
  .rw[vH hk]
   refine Ip ?_
   rcases h with h|h
   .rcases uI.mp h with e|e
    .cases e;exact absurd rfl hk
    .exact .inl e
   .exact .inr h
theorem NN{env:Env}{x:Str}:∀{names:Gc (Str×xk)},names.lookup x=Fk .free->(names.map λ(n,k)=>if(k==vh && env.scope.kind== .function && env.kindOf n==Fk .cell)then(n,xn)else(n,k)).lookup x=Fk .cell\/(names.map λ(n,k)=>if(k==vh && env.scope.kind== .function && env.kindOf n==Fk .cell)then(n,xn)else(n,k)).lookup x=Fk .free
 | [],h=>by simp at h
 |(n,k)::r,h=>by
  have ih:= @NN env x r
  show List.lookup x ((if(k==vh && env.scope.kind== .function && env.kindOf n==Fk .cell)=true then(n,xn)else(n,k))::_)=_\/List.lookup x ((if(k==vh && env.scope.kind== .function && env.kindOf n==Fk .cell)=true then(n,xn)else(n,k))::_)=_
  cases hx:x==n with
  |true=>
   simp only[vz,hx]at h
   cases h
   by_cases hc:(vh==vh && env.scope.kind== .function && env.kindOf n==Fk .cell)=true
   .rw[vD hc];simp only[vz,hx];exact .inl trivial
   .rw[vH hc];simp only[vz,hx];exact .inr trivial
  |false=>
   simp only[vz,hx]at h
   by_cases hc:(k==vh && env.scope.kind== .function && env.kindOf n==Fk .cell)=true
   .rw[vD hc];simp only[vz,hx];exact ih h
   .rw[vH hc];simp only[vz,hx];exact ih h
theorem N5{env:Env}{scope:vn}{x:Str}{k':xk}(hk:k'=.cell\/k'=.free)(h:(relabel scope env).names.lookup x=Fk k'):(x,vh)∈scope.names\/(x,xn)∈scope.names:=by
 have hm:=vN h
 obtain⟨⟨n,k⟩,hy,e⟩:=uk.mp (show(x,k')∈scope.names.map _ from hm)
 by_cases hc:(k==vh && env.scope.kind== .function && env.kindOf n==Fk .cell)=true
 .simp only[hc,ya]at e
  cases e
  have:k=.free:=by
   have:=((uT _ _).mp hc).1
   exact ABO.mp ((uT _ _).mp this).1
  subst this
  exact .inl hy
 .simp only[hc,zP]at e
  cases e
  rcases hk with rfl|rfl
  .exact .inr hy
  .exact .inl hy
theorem Ci:∀(names:Gc (Str×xk)) (n:Nat) (cs:Gc (Str×uF)),cellsFrom n names cs=cellsFrom n names []++cs
 | [],_,_=>rfl
 |(x,k)::r,n,cs=>by
  unfold cellsFrom
  split
  .rw[Ci r _ ((x,n)::cs),Ci r _ [(x,n)]];simp
  .exact Ci r n cs
theorem JX{x:Str}{c:uF}:∀{names:Gc (Str×xk)} {n:Nat},(x,c)∈cellsFrom n names []->(x,xn)∈names
 | [],_,h=>nomatch h
 |(y,k)::r,n,h=>by
  unfold cellsFrom at h
  split at h
  .rename_i hk
   rw[Ci]at h
   rcases ub.mp h with z|z
   .exact uJ _ (JX z)
   .have e:=uo.mp z
    cases e
    rw[ABO.mp hk]
    exact uP
  .exact uJ _ (JX h)
theorem MT{M:Model}{A:vF}{E:Wp->uE->Prop}{s:uE}{scope:vn}{globals:uF}{cl:Gc (Str×uF)}{qual:Str}{env:Env}{Q:Env->uE->Prop}(hQ:∀h':ux,h'.Ns s.heap.objs.size (λ_=>uC)->(∀b o,s.heap.get? b=Fk o->h'.get? b=Fk o)->CellsOk h' (s.heap.objs.size+1) (cellsFrom (s.heap.objs.size+1) scope.names [])->Q (newEnv scope s.heap.objs.size globals (cellsFrom (s.heap.objs.size+1) scope.names cl) qual uC .none (Fk env) builtinsNs) {s with heap:=h'}):wpAny M A (newFunctionEnv scope globals cl [] qual uC .none (Fk env)) Q E s:=by
 simp only[newFunctionEnv,Option.isSome_some,ya]
 refine tz (wpAny_alloc ?_)
 refine tz (wpAny_layCells _ (λname kind cells=>by cases hkc:kind==xn<;>simp[hkc]) _ _ _ _ ?_)
 have ok:=cellsFrom_ok scope.names (s.heap.push {cls:=.type "dict",data:=.dict #[]}) (s.heap.objs.size+1) [] ⟨λ_ _ hm=>(nomatch hm),List.Pairwise.nil⟩ (by rw[vv];exact uN _)
 rw[vv]at ok
 rw[show({s with heap:=s.heap.push {cls:=.type "dict",data:=.dict #[]}}:uE).heap.objs.size=s.heap.objs.size+1 from vv ..]
 rw[AAr]
 refine tz (uR (uR ?_))
 exact hQ _ ((Heap.Ns.new s.heap (.type "dict")).keeps (pushCells_keeps _ _)) (λb o e=>pushCells_keeps _ _ b o (uB _ e)) ok
end L2
end
noncomputable section
namespace L2
open PySem PySem.Spec PyProof.Rows
noncomputable def VE(N:Gc Str)(osc scope:vn):Gc Str->Gc (uD Nat)->vE
 | [],[]=>true
 |_::r,uC::q=>VE N osc scope r q
 |x::r,Fk i::q=>decide (N[i]?=Fk x) && (decide (osc.names.lookup x=Fk .cell)||decide (osc.names.lookup x=Fk .free)) && decide (scope.names.lookup x=Fk .free) && VE N osc scope r q
 |_,_=>false
theorem WQ{N:Gc Str}{osc scope:vn}:∀{N':Gc Str} {ix:Gc (uD Nat)},VE N osc scope N' ix=true->ix.length=N'.length
 | [],[],_=>rfl
 |_::r,uC::q,h=>by
  unfold VE at h
  simp[WQ h]
 |x::r,Fk i::q,h=>by
  unfold VE at h
  have:=((uT _ _).mp h).2
  simp[WQ this]
 | [],_::_,h=>by simp[VE]at h
 |_::_,[],h=>by simp[VE]at h
theorem fm{N:Gc Str}{osc scope:vn}:∀{N':Gc Str} {ix:Gc (uD Nat)},VE N osc scope N' ix=true->∀{j i:Nat} {x:Str},N'[j]?=Fk x->ix[j]?=Fk (Fk i)->N[i]?=Fk x/\(osc.names.lookup x=Fk .cell\/osc.names.lookup x=Fk .free)/\scope.names.lookup x=Fk .free
 | [],[],_,j,_,_,h,_=>by simp at h
 |_::r,uC::q,h,j,i,x,h1,h2=>by
  unfold VE at h
  cases j with
  |zero=>simp at h2
  |succ j=>exact fm h (by simpa using h1) (by simpa using h2)
 |y::r,Fk k::q,h,j,i,x,h1,h2=>by
  unfold VE at h
  obtain⟨ha,hr⟩:=(uT _ _).mp h
  obtain⟨ha,h3⟩:=(uT _ _).mp ha
  obtain⟨h4,h5⟩:=(uT _ _).mp ha
  cases j with
  |zero=>
   simp at h1 h2
   subst h1 h2
   refine⟨uW h4,?_,uW h3⟩
   rcases(vf _ _).mp h5 with z|z
   .exact .inl (uW z)
   .exact .inr (uW z)
  |succ j=>exact fm hr (by simpa using h1) (by simpa using h2)
 | [],_::_,h,_,_,_,_,_=>by simp[VE]at h
 |_::_,[],h,_,_,_,_,_=>by simp[VE]at h
structure Af(N:Gc Str)(osc:vn)(N':Gc Str)(ix:Gc (uD Nat))(scope:vn):Prop where
 kind:scope.kind=.function
 cells:∀y∈scope.names,y.2=.cell->scope.names.lookup y.1=Fk .cell
 names:∀y∈scope.names,y.2=.local->scope.names.lookup y.1=Fk .local
 free:∀y∈scope.names,y.2=.free->(osc.names.lookup y.1=Fk .cell\/osc.names.lookup y.1=Fk .free)
 ok:VE N osc scope N' ix=true
noncomputable def sig(ix:Gc (uD Nat))(σ:St):St:=ix.map λo=>o.bind λi=>(σ[i]?).join
noncomputable def Kb(X:Cx)(N':Gc Str)(scope:vn)(s:uE)(H:Hp)(fp:Gc uF):Cx where
 prog:=X.prog
 w:=X.w
 K:=X.K
 mg:=X.mg
 base:=X.base
 A:=X.A
 N:=N'
 s₀:=s
 H₀:=H
 env:=compEnvC scope (cellsFrom (s.heap.objs.size+1) scope.names (HW X.env.cells scope.names [])) s.heap.objs.size X.env
 outer:=X.stack
 stack:=X.stack
 ex:=fp
 fn:=λx=>decide (scope.names.lookup x=Fk .cell)
 calm:=true
 pn:=[]
 xe:=λ_ _=>wk
section
variable{X:Cx}{pins:Gc (uF×Obj)}{σ:St}{H:Hp}{s:uE}{N':Gc Str}{ix:Gc (uD Nat)}{scope:vn}{fp:Gc uF}
theorem Inv.cellsOf(I:Inv X pins σ H s)(S:Af X.N X.env.scope N' ix scope):∀y∈scope.names,y.2=.free->∃a,X.env.cells.lookup y.1=Fk a:=λy hy hk=>I.ok.has y.1 (S.free y hy hk)
theorem ZK(S:Af X.N X.env.scope N' ix scope)(hc:X.calm=true)(I:Inv X pins σ H s)(hf:∀b∈fp,TQ X pins H b)(hlt:∀b∈fp,b<s.heap.objs.size){h1:ux}{m1:Str->uD Wp}{tk:Nat}(hn:h1.Ns s.heap.objs.size m1)(hk:∀b o,s.heap.get? b=Fk o->h1.get? b=Fk o)(hC:CellsOk h1 (s.heap.objs.size+1) (cellsFrom (s.heap.objs.size+1) scope.names [])):Inv (Kb X N' scope s H fp) [] (sig ix σ) H {s with heap:=h1,toks:=tk}:=by
 have hcl:=I.cellsOf S
 have sub:∀{x:Str} {c:uF},(HW X.env.cells scope.names []).lookup x=Fk c->X.env.cells.lookup x=Fk c:=λ{x c} h=>by
  rcases Lk hcl h with z|z
  .simp at z
  .exact z
 have old:∀{x:Str} {c:uF},X.env.cells.lookup x=Fk c->c<s.heap.objs.size:=λ{x c} h=>by
  obtain⟨v,oc,ho,_⟩:=I.cell x c h
  exact uZ ho
 have look:∀{x:Str} {c:uF},(cellsFrom (s.heap.objs.size+1) scope.names (HW X.env.cells scope.names [])).lookup x=Fk c->(x,c)∈cellsFrom (s.heap.objs.size+1) scope.names []\/X.env.cells.lookup x=Fk c:=λ{x c} h=>by
  rw[Ci,yO]at h
  cases e:(cellsFrom (s.heap.objs.size+1) scope.names []).lookup x with
  |some a=>rw[e]at h;cases h;exact .inl (vN e)
  |none=>rw[e]at h;exact .inr (sub h)
 refine⟨⟨I.ok.mod,S.kind,I.ok.glob,I.ok.blt,uN _,λx y c h1 h2=>?_,λx hx=>?_,λx c hx h=>?_,λ_=>I.ok.hd hc,I.ok.frames,.inl rfl,λb hb=>?_,I.bs,uO I.ok.bsz I.sz,λb o e hb=>?_,λb hb hs=>?_,I.stack,I.Te⟩,
  rfl,I.bare,Un.kept hk,⟨m1,hn,λj x v h1 h2 h3=>?_⟩,λx c h=>?_,I.hok.fresh (uN _),λx c h=>?_,λp hp=>absurd (show p∈([]:Gc (uF×Obj))from hp) (by simp),I.hok.kept hk,?_⟩
 . -- inj
   rcases look h1 with a|a<;>rcases look h2 with b|b
   .exact name_of_addr hC.apart a b
   .exact absurd (uG (old b) (xq (hC.empty _ _ a).2)) (vw _)
   .exact absurd (uG (old a) (xq (hC.empty _ _ b).2)) (vw _)
   .exact I.ok.inj x y c a b
 . -- has
   have hx':(relabel scope X.env).names.lookup x=Fk .cell\/(relabel scope X.env).names.lookup x=Fk .free:=hx
   show∃c,(cellsFrom (s.heap.objs.size+1) scope.names (HW X.env.cells scope.names [])).lookup x=Fk c
   rw[Ci,yO]
   cases e:(cellsFrom (s.heap.objs.size+1) scope.names []).lookup x with
   |some a=>exact⟨a,rfl⟩
   |none=>
    rcases(hx'.elim (N5 (.inl rfl)) (N5 (.inr rfl)))with z|z
    .exact Ip (.inl z)
    .obtain⟨c,hc⟩:=Nr (n:=s.heap.objs.size+1) (S.cells _ z rfl)
     rw[e]at hc;cases hc
 . -- cab
   obtain⟨c',hc'⟩:=Nr (n:=s.heap.objs.size+1) (uW hx)
   have h:(cellsFrom (s.heap.objs.size+1) scope.names (HW X.env.cells scope.names [])).lookup x=Fk c:=h
   rw[Ci,yO,hc']at h
   cases h
   exact xq (hC.empty _ _ (vN hc')).2
 . -- exf
   refine⟨vB (hlt b hb),λx c h=>?_⟩
   rcases look h with a|a
   .exact λe=>absurd (uG (e▸hlt b hb) (xq (hC.empty _ _ a).2)) (vw _)
   .exact(hf b hb).2.2.2.2.1 x c a
 . -- dX
   rcases(hf b hb).2.2.2.1 with z|z
   .exact I.ok.dX b o e z
   .exact absurd (uG (uZ (I.ok.bs b o e).1) z) (vw _)
 . -- eU
   rcases uI.mp (I.XD b hs)with z|z
   .exact(hf b hb).2.1 z
   .exact(hf b hb).2.2.1 z
 . -- loc
   unfold sig at h2
   rw[uQ]at h2
   cases e:ix[j]? with
   |none=>rw[e]at h2;cases h2
   |some o=>
    rw[e]at h2
    cases o with
    |none=>cases h2
    |some i=>
     have h2':(σ[i]?).join=Fk v:=by simpa using h2
     have h4:σ[i]?=Fk (Fk v):=by
      cases e4:σ[i]? with
      |none=>rw[e4]at h2';cases h2'
      |some q=>rw[e4]at h2';exact congrArg Fk h2'
     obtain⟨q1,q2,q3⟩:=fm S.ok h1 e
     obtain⟨m,_,hl⟩:=I.loc
     obtain⟨u,r,l⟩:=hl i x v q1 h4 (q2.elim (λz=>.inr (.inl z)) λz=>.inr (.inr z))
     refine⟨u,r,?_⟩
     rcases l with⟨l,_⟩|⟨_,c,lc,z⟩
     .have l':X.env.scope.names.lookup x=Fk .local:=l
      rcases q2 with z|z<;>(rw[z]at l';cases l')
     .refine .inr ⟨NN q3,?_⟩
      obtain⟨c',hc'⟩:=Ip (cells:=X.env.cells) (cs:=[]) (.inl (vN q3))
      have ec:=sub hc'
      rw[lc]at ec
      cases ec
      have no:(cellsFrom (s.heap.objs.size+1) scope.names []).lookup x=none:=by
       cases e:(cellsFrom (s.heap.objs.size+1) scope.names []).lookup x with
       |none=>rfl
       |some a=>
        have q:=S.cells _ (JX (vN e)) rfl
        rw[q3]at q;cases q
      refine⟨c,(by show(cellsFrom (s.heap.objs.size+1) scope.names (HW X.env.cells scope.names [])).lookup x=Fk c;rw[Ci,yO,no];exact hc'),?_⟩
      obtain⟨oc,ho,hd⟩:=z
      exact⟨oc,hk _ _ ho,hd⟩
 .rcases look h with a|a
  .exact⟨_,(hC.empty _ _ a).1⟩
  .obtain⟨v,oc,ho,hd⟩:=I.cell x c a
   exact⟨v,oc,hk _ _ ho,hd⟩
 .rcases look h with a|a
  .exact I.hok.fresh (xq (hC.empty _ _ a).2)
  .exact I.L6 x c a
 .show(sig ix σ).length=N'.length
  unfold sig
  rw[vL]
  exact WQ S.ok
end
end L2
end
noncomputable section
namespace L2
open PySem PySem.Spec PyProof.Rows
def PTs(X:Cx)(ifs:Gc uh)(t:TT):Prop:=
 ∀(pins:Gc (uF×Obj)) (s:uE) (σ:St) (H:Hp) (Q:vE->Hp->Prop),Inv X pins σ H s->t σ H Q->
  wpAny (model X.prog X.w) X.A (forIn ifs true λc r=>if r=true then do let ok<-isTrue c X.env (eval c X.env);pure (yy ok)else pure (yy r)) (TP X pins σ Q) X.xe s
noncomputable def oV:TT:=λ_ H Q=>Q true H
theorem fc{X:Cx}:PTs X [] oV:=λ_ _ _ H _ I h=>wpAny_tests_nil ⟨H,I,h⟩
theorem gN{X:Cx}{c:uh}{t:TT}(h:PT X c t):PTs X [c] t:=λpins s σ H Q I q=>wpAny_tests_one (h pins s σ H Q I q)
theorem aP{α:Type}{M:Model}{A:vF}{t:Sem α}{Q:α->uE->Prop}{E:Wp->uE->Prop}{s:uE}(h:wpAny M A t Q (λ_ _=>wk) s):wpAny M A t Q E s:=wB h (λ_ _ q=>q) λ_ _ f=>f.elim
def kC(ix:Gc (uD Nat))(g:TG)(tc:TT)(te:TE)(J:It)(σ:St)(H:Hp)(Q:VK):Prop:=
 ∀D,H D=uC->∃W:Nat->Nat->St->Hp->Gc V->Prop,(∃m,W 0 m (sig ix σ) (upd H D (.lst [])) [])/\∀i m σ H ys,W i m σ H ys->H D=Fk (.lst ys)/\
  ((J.stop i H/\Q (.ref D) H)\/(J.go i H/\ys.length<sizeLine/\∀x H',J.yld i H x H'->g x σ H' λσ2 H2=>tc σ2 H2 λb H3=>
    if b=true then te σ2 H3 λy H4=>H4 D=Fk (.lst ys)/\∃m',m'<m/\W (i+1) m' σ2 (upd H4 D (.lst (ys++[y]))) (ys++[y])else∃m',m'<m/\W (i+1) m' σ2 H3 ys))
noncomputable def gY(ix:Gc (uD Nat))(wi:TI)(g:TG)(tc:TT)(te:TE):TE:=λσ H Q=>wi σ H λJ H1=>kC ix g tc te J σ H1 Q
section
variable{X:Cx}{pins:Gc (uF×Obj)}{σ:St}{s₂:uE}{N':Gc Str}{ix:Gc (uD Nat)}{scope:vn}{elt tg iter:uh}{ifs:Gc uh}{pos:Pos}{g:TG}{tc:TT}{te:TE}
def Block(X:Cx)(N':Gc Str)(scope:vn)(tg:uh)(ifs:Gc uh)(elt:uh)(g:TG)(tc:TT)(te:TE):Prop:=
 ∀(s:uE) (H:Hp) (fp:Gc uF),PG (Kb X N' scope s H fp) tg g/\PTs (Kb X N' scope s H fp) ifs tc/\PE (Kb X N' scope s H fp) elt te
theorem XI {X' : Cx} {it : uF} {fp : Gc uF} {tn : Nat -> ux -> Prop} {J : It} {D : uF} {Q : VK} {R : Result -> uE -> Prop} {W : Nat -> Nat -> St -> Hp -> Gc V -> Prop} {s : uE} {e : Env} {n : Nat} (he : X'.env = e) (hx : X'.xe = fun _ _ => wk) (hcm : X'.calm = true) (T : Turn X'.prog X'.w X'.K tg J fp it tn) (hfp : ∀ H : Hp, (∀ b ∈ fp, H b = uC) -> ∀ b ∈ fp, TQ X' [] H b) (hg : PG X' tg g) (ht : PTs X' ifs tc) (hb : PE X' elt te) (turn : ∀ i m σ H ys, W i m σ H ys -> H D = Fk (.lst ys) /\ ((J.stop i H /\ Q (.ref D) H) ∨ (J.go i H /\ ys.length < sizeLine /\ ∀ x H', J.yld i H x H' -> g x σ H' fun σ2 H2 => tc σ2 H2 fun b H3 =>
        if b = true then te σ2 H3 fun y H4 => H4 D = Fk (.lst ys) /\ ∃ m', m' < m /\ W (i + 1) m' σ2 (upd H4 D (.lst (ys ++ [y]))) (ys ++ [y]) else ∃ m', m' < m /\ W (i + 1) m' σ2 H3 ys)))
    (hR : ∀ s' σ' H', Inv X' [] σ' H' s' -> Q (.ref D) H' -> R (.ok .next) s')
    (h0 : ∃ i σ' H' ys, Inv X' [] σ' H' s /\ tn i s.heap /\ (∀ b ∈ fp, H' b = uC) /\ W i n σ' H' ys) :
    codeAny (model X'.prog X'.w) X'.A (.compLoop (.ListComp elt [⟨tg, iter, ifs, 0⟩] scope pos) 0 (.ref it) (.ref D) e) R s := by
  subst he
  refine codeAny_loop rfl (fun n s => ∃ i σ' H' ys, Inv X' [] σ' H' s /\ tn i s.heap /\ (∀ b ∈ fp, H' b = uC) /\ W i n σ' H' ys) (fun n s3 hI => ?_) n h0
  show wpAny _ X'.A ((compTurn (.ListComp elt [⟨tg, iter, ifs, 0⟩] scope pos) 0 (.ref it) (.ref D) X'.env).onRaise (fun x => do noteFrame x X'.env; theTreesLotGoes x)) _ _ s3
  refine wpAny_noted (aP ?_)
  rw [compTurn_list]
  obtain ⟨i, σ3, H3, ys, I3, st3, fr3, w3⟩ := hI
  obtain ⟨hD, alt⟩ := turn i n σ3 H3 ys w3
  rcases alt with ⟨stop, q⟩ | ⟨go, hlen, step⟩
  · refine tz (yH (tz (thn (T.done X' rfl rfl rfl hcm i [] s3 σ3 H3 _ I3 (hfp H3 fr3) st3 stop) fun r s4 ⟨hr, I4⟩ => ?_)))
    subst hr
    exact uR (hR s4 σ3 H3 I4 q)
  · refine tz (yH (tz (thn (T.item X' rfl rfl rfl hcm i [] s3 σ3 H3 _ I3 (hfp H3 fr3) st3 go) fun r s4 ⟨u, hr, h4⟩ => ?_)))
    subst hr
    refine tz (thn h4 fun _ s5 ⟨x, H5, I5, r5, y5, st5, fr5⟩ => ?_)
    have I5' := I5.pinned (hfp H5 fr5) (T.obj _ _ st5)
    have hg' := hg _ s5 σ3 H5 x u _ I5' r5 (step x H5 y5)
    rw [hx] at hg'
    refine tz (thn hg' fun _ s6 ⟨σ6, H6, I6, q6⟩ => ?_)
    have ht' := ht _ s6 σ6 H6 _ I6 q6
    rw [hx] at ht'
    refine tz (thn ht' fun ok s7 ⟨H7, I7, q7⟩ => ?_)
    have again : ∀ {s8 : uE} {H8 : Hp} {zs : Gc V} {m' : Nat}, Inv X' ([] ++ SX fp s5.heap) σ6 H8 s8 -> m' < n -> W (i + 1) m' σ6 H8 zs -> ∃ m, m < n /\ ∃ i σ' H' ys, Inv X' [] σ' H' s8 /\ tn i s8.heap /\ (∀ b ∈ fp, H' b = uC) /\ W i m σ' H' ys := fun {s8 H8 zs m'} I8 hm w8 => by
      refine ⟨m', hm, i + 1, σ6, H8, zs, I8.Nf, T.keep _ _ _ st5 fun b hb o e => (I8.pin (b, o) (vR _ (vR _ (Ky hb e)))).1, fun b hb => ?_, w8⟩
      obtain ⟨o, e, d⟩ := T.obj _ _ st5 b hb
      exact (I8.pin (b, o) (vR _ (vR _ (Ky hb e)))).2.1
    cases ok with
    | false =>
      rw [vH (by decide)] at q7
      obtain ⟨m', hm, w7⟩ := q7
      exact uR ⟨rfl, again I7 hm w7⟩
    | true =>
      rw [vD rfl] at q7
      have hb' := hb _ s7 σ6 H7 _ I7 q7
      rw [hx] at hb'
      refine tz (tz (thn hb' fun v s8 ⟨y, H8, I8, r8, hD8, m', hm, w8⟩ => ?_))
      have ha := R5 (X := X') _ s8 σ6 H8 (.ref D) [y] (.ref D) [v] (fun _ H9 => H9 = upd H8 D (.lst (ys ++ [y]))) I8 rfl (.cons r8 .nil) ⟨D, ys, y, rfl, rfl, hD8, hlen, rfl⟩
      rw [hx] at ha
      refine tz (thn ha fun _ s9 ⟨_, H9, I9, _, e9⟩ => ?_)
      subst e9
      exact uR (uR ⟨rfl, again I9 hm w8⟩)
theorem Uy(hc:X.calm=true)(S:Af X.N X.env.scope N' ix scope)(hb:Block X N' scope tg ifs elt g tc te){it:uF}{fp:Gc uF}{tn:Nat->ux->Prop}{J:It}{H₂:Hp}{Q:VK}{E:Wp->uE->Prop}{RR:Wp->uF->Result->uE->Prop}(I2:Inv X pins σ H₂ s₂)(T:Turn X.prog X.w X.K tg J fp it tn)(st2:tn 0 s₂.heap)(f2:∀b∈fp,TQ X pins H₂ b)(hW:kC ix g tc te J σ H₂ Q)(hRR:∀D C H' s',Inv X pins σ H' s'->(∃m,s'.heap.Ns C m)->TQ X pins H' C->Q (.ref D) H'->RR (.ref D) C (.ok .next) s'):wpAny (model X.prog X.w) X.A (newList []) (λacc s₃=>wpAny (model X.prog X.w) X.A (newFunctionEnv scope X.env.globals (HW X.env.cells scope.names []) [] X.env.qual uC .none (Fk X.env)) (λcenv s₄=>
  codeAny (model X.prog X.w) X.A (.compStart (.ListComp elt [⟨tg,iter,ifs,0⟩] scope pos) 0 (.ref it) acc {cenv with scope:=relabel scope X.env}) (RR acc cenv.locals) s₄) E s₃) E s₂:=by
 have hD0:H₂ s₂.heap.objs.size=none:=I2.hok.fresh (uN _)
 have hlt2:∀b∈fp,b<s₂.heap.objs.size:=λb hb=>by
  obtain⟨o,e,_⟩:=T.obj _ _ st2 b hb
  exact uZ e
 refine vp (MT (λh₁ hns₁ hsb₁ hcl₁=>?_))
 have I3:Inv X pins σ (upd H₂ s₂.heap.objs.size (.lst [])) {s₂ with heap:=s₂.heap.push {cls:=.type "list",dict:=uC,data:=.seq ([]:Gc Wp).toArray}}:=
  I2.laid (t':=s₂.toks) (λb u e=>uB _ e) (uN _) ⟨wR _,[],0,.nil,uf _ rfl⟩
 have f3:∀b∈fp,TQ X pins (upd H₂ s₂.heap.objs.size (.lst [])) b:=λb hb=>⟨by rw[Am (vB (hlt2 b hb))];exact(f2 b hb).1,(f2 b hb).2⟩
 have k3:∀b o,s₂.heap.get? b=Fk o->(s₂.heap.push {cls:=.type "list",dict:=uC,data:=.seq ([]:Gc Wp).toArray}).get? b=Fk o:=λb o e=>uB _ e
 dsimp only at hns₁ hsb₁ hcl₁⊢
 generalize hs3:({s₂ with heap:=s₂.heap.push {cls:=.type "list",dict:=uC,data:=.seq ([]:Gc Wp).toArray}}:uE)=s₃ at I3
 have eh:s₂.heap.push {cls:=.type "list",dict:=uC,data:=.seq ([]:Gc Wp).toArray}=s₃.heap:=by rw[<-hs3]
 have et:s₂.toks=s₃.toks:=by rw[<-hs3]
 have es:∀(h:ux) (t:Nat),({s₂ with heap:=h,toks:=t}:uE)={s₃ with heap:=h,toks:=t}:=λh t=>by rw[<-hs3]
 rw[eh]at hns₁ hsb₁ hcl₁ k3⊢
 have hlt3:∀b∈fp,b<s₃.heap.objs.size:=λb hb=>by
  obtain⟨o,e,_⟩:=T.obj _ _ st2 b hb
  exact uZ (k3 b o e)
 have k4:∀b o,s₃.heap.get? b=Fk o->h₁.get? b=Fk o:=hsb₁
 obtain⟨W,⟨m0,w0⟩,turn⟩:=hW _ hD0
 have I4:∀tk,Inv (Kb X N' scope s₃ (upd H₂ s₂.heap.objs.size (.lst [])) fp) [] (sig ix σ) (upd H₂ s₂.heap.objs.size (.lst [])) {s₃ with heap:=h₁,toks:=tk}:=λtk=>ZK S hc I3 f3 hlt3 hns₁ k4 hcl₁
 have st4:tn 0 h₁:=T.keep _ _ _ st2 λb hb o e=>k4 b o (k3 b o e)
 obtain⟨bg,bt,be⟩:=hb s₃ (upd H₂ s₂.heap.objs.size (.lst [])) fp
 have noX:∀(H:Hp),(∀b∈fp,H b=uC)->∀b∈fp,TQ (Kb X N' scope s₃ (upd H₂ s₂.heap.objs.size (.lst [])) fp) [] H b:=λH hn b hb=>by
  obtain⟨_,h2,h3⟩:=f3 b hb
  refine⟨hn b hb,vB (hlt3 b hb),λhs=>(I4 0).ok.eU b hb hs,.inl hb,λx c h=>?_,λp hp=>absurd (show p∈([]:Gc (uF×Obj))from hp) (by simp)⟩
  exact((I4 0).ok.exf b hb).2 x c h
 have fin:∀(s':uE) (σ':St) (H':Hp),Inv (Kb X N' scope s₃ (upd H₂ s₂.heap.objs.size (.lst [])) fp) [] σ' H' s'->Q (.ref s₂.heap.objs.size) H'->RR (.ref s₂.heap.objs.size) s₃.heap.objs.size (.ok .next) s':=λs' σ' H' I' q=>by
  refine hRR _ _ H' s' ?_ (let⟨m,hn,_⟩:=I'.loc;⟨m,hn⟩) (I3.fW (uN _) I'.free) q
  exact I3.dy I'.os I'.base I'.hok I'.bare λb hb=>⟨(f3 b hb).2.2.2.1,(f3 b hb).2.1,(f3 b hb).2.2.2.2.1,(f3 b hb).2.2.2.2.2⟩
 have loop:∀tk,codeAny (model X.prog X.w) X.A (.compLoop (.ListComp elt [⟨tg,iter,ifs,0⟩] scope pos) 0 (.ref it) (.ref s₂.heap.objs.size) (compEnvC scope (cellsFrom (s₃.heap.objs.size+1) scope.names (HW X.env.cells scope.names [])) s₃.heap.objs.size X.env)) (RR (.ref s₂.heap.objs.size) s₃.heap.objs.size) {s₃ with heap:=h₁,toks:=tk}:=λtk=>
  XI (X':=Kb X N' scope s₃ (upd H₂ s₂.heap.objs.size (.lst [])) fp) (D:=s₂.heap.objs.size) (Q:=Q) (W:=W) rfl rfl rfl T noX bg bt be turn fin ⟨0,_,_,_,I4 tk,st4,λb hb=>(f3 b hb).1,w0⟩
 rw[es]
 exact codeAny_compStart_list (loop _) (T.self _ 0 _ _ _ st4 (loop _))
theorem fA{wi:TI}(hc:X.calm=true)(S:Af X.N X.env.scope N' ix scope)(hi:PI X tg iter wi)(hb:Block X N' scope tg ifs elt g tc te)(hs:∀x,foldedSetIterable iter X.env x=pure x:=by intro _;rfl):PE X (.ListComp elt [⟨tg,iter,ifs,0⟩] scope pos) (gY ix wi g tc te):=by
 intro pins s σ H Q I h
 rw[eval_ListComp]
 refine zo (use:=uC) rfl hs (Q2 (I.cellsOf S)) S.kind S.names (thn (hi pins s σ H _ I h) λv s1 h1=>thn h1 λitv s2 h2=>?_)
 obtain⟨it,fp,tn,J,H2,e,I2,T,st2,f2,hW⟩:=h2
 subst e
 refine Uy (RR:=λacc C=>compPost (model X.prog X.w) X.A X.xe uC (EP X pins σ Q) acc C) hc S hb I2 T st2 f2 hW ?_
 intro D C H' s' I' hm hC q
 obtain⟨m,hm⟩:=hm
 refine⟨m,hm,λh' hs'=>⟨.ref D,H',I'.turned (it:=C) (t':=s'.toks) (λb o hb e=>hs'.extBut b o hb e) hC.1 hC.2.1 hC.2.2.2.1 hC.2.2.2.2.1 hC.2.2.2.2.2,rfl,q⟩⟩
end
end L2
end
noncomputable section
namespace L2
open PySem PySem.Spec PyProof.Rows
section
variable{X:Cx}{N':Gc Str}{ix:Gc (uD Nat)}{scope:vn}{elt tg iter:uh}{ifs:Gc uh}{pos spos py:Pos}{g:TG}{tc:TT}{te:TE}{wi:TI}{i:Nat}{y:Str}
theorem VX(hc:X.calm=true)(hN:X.N.Nodup)(hi':X.N[i]?=Fk y)(hx:X.env.scope.names.lookup y=Fk .local)(S:Af X.N X.env.scope N' ix scope)(hi:PI X tg iter wi)(hb:Block X N' scope tg ifs elt g tc te)(hsw:swapsWith (.ListComp elt [⟨tg,iter,ifs,0⟩] scope pos) (Fk (.Name y py)) spos.line X.env=pure true:=by rfl)(hs:∀x,foldedSetIterable iter X.env x=pure x:=by intro _;rfl):PS X (.Assign [.Name y py] (.ListComp elt [⟨tg,iter,ifs,0⟩] scope pos) spos) (oR (gY ix wi g tc te) (gE i)):=by
 intro pins s σ H D I h
 rw[exec_Assign_Name_used _ _ _ _ hsw]
 refine tz (yH (tz ?_))
 show wpAny _ X.A (do let _<-comprehension (.ListComp elt [⟨tg,iter,ifs,0⟩] scope pos) scope X.env _ (newList []) false (eval iter X.env) (Fk (assign (.Name y py) X.env))) _ _ s
 refine tz (wB (zo (use:=Fk (assign (.Name y py) X.env)) (Q:=λ_ s'=>SP X pins D .next s') rfl hs (Q2 (I.cellsOf S)) S.kind S.names
  (thn (hi pins s σ H _ I h) λv s1 h1=>thn h1 λitv s2 h2=>?_)) (λ_ s' hq=>uR (uR hq)) λ_ _ e=>e)
 obtain⟨it,fp,tn,J,H2,e,I2,T,st2,f2,hW⟩:=h2
 subst e
 refine Uy (RR:=λacc C=>compPost (model X.prog X.w) X.A X.xe (Fk (assign (.Name y py) X.env)) (λ_ s'=>SP X pins D .next s') acc C) hc S hb I2 T st2 f2 hW ?_
 intro L C H' s' I' hm hC q
 obtain⟨m,hm⟩:=hm
 show wpAny _ X.A (assign (.Name y py) X.env (.ref L)) _ _ _
 refine wpAny_assign_Name (Rn I' hN hi' (.inl hx) (v:=.ref L) rfl (λs'' I'' ⟨a,sb,ha⟩=>?_) (.inr hx))
 have hCa:C≠a:=by
  rcases ha with rfl|ha
  .exact hC.2.1
  .exact wI (hC.2.2.2.2.1 y a ha)
 refine⟨m,hm.sameBut sb hCa,λh' hs'=>?_⟩
 exact⟨_,H',I''.turned (it:=C) (t':=s''.toks) (λb o hb e=>hs'.extBut b o hb e) hC.1 hC.2.1 hC.2.2.2.1 hC.2.2.2.2.1 hC.2.2.2.2.2,q⟩
end
end L2
end
noncomputable section
namespace L2
open PySem PySem.Spec PyProof.Rows
section
variable{κ:Type} [DecidableEq κ]
noncomputable def putK(kvs:Gc (κ×V))(k:κ)(v:V):Gc (κ×V):=
 if(kvs.any λkv=>decide (kv.1=k))=true then kvs.map (λkv=>if kv.1=k then(kv.1,v)else kv)else kvs++[(k,v)]
theorem Tn(kvs:Gc (κ×V))(k:κ)(v:V):(putK kvs k v).length<=kvs.length+1:=by
 unfold putK
 split
 .rw[vL];lia
 .rw[vd,vJ,yN];lia
theorem KV.any{kvs:Gc (κ×V)}{vs:Gc (κ×Wp)}(r:KV kvs vs)(k:κ):(kvs.any λkv=>decide (kv.1=k))=vs.any λkv=>decide (kv.1=k):=by
 unfold KV at r
 induction r with
 |nil=>rfl
 |cons h t ih=>rw[w6,w6,ih,h.1]
theorem KV.jE{kvs:Gc (κ×V)}{vs:Gc (κ×Wp)}(r:KV kvs vs)(k:κ){y:V}{u:Wp}(ry:RelV y u):KV (kvs.map λkv=>if kv.1=k then(kv.1,y)else kv) (vs.map λkv=>if kv.1=k then(kv.1,u)else kv):=by
 unfold KV at r⊢
 induction r with
 |nil=>exact .nil
 | @cons p q ps qs h t ih=>
   rw[ui,ui]
   refine .cons ?_ ih
   obtain⟨h1,h2⟩:=h
   by_cases e:p.1=k
   .rw[vD e,vD (h1.symm.trans e)];exact⟨h1,ry⟩
   .rw[vH e,vH (λz=>e (h1.trans z))];exact⟨h1,h2⟩
theorem KV.put{kvs:Gc (κ×V)}{vs:Gc (κ×Wp)}(r:KV kvs vs)(k:κ){y:V}{u:Wp}(ry:RelV y u):KV (putK kvs k y) (stored vs k u):=by
 unfold putK stored
 rw[r.any k]
 by_cases e:(vs.any λkv=>decide (kv.1=k))=true
 .rw[vD e,vD e];exact r.jE k ry
 .rw[vH e,vH e];exact Paired.snoc r ⟨rfl,ry⟩
end
theorem kH{P:ug}{w:vG}{k:Key}{u:Wp}(r:RelV (kV k) u):(Eh P w).is k u=true:=by
 cases k with
 |inl i=>obtain⟨t,e⟩:=(show∃t,u=zG i t from r);subst e;exact TZ P w i t
 |inr x=>obtain⟨t,e⟩:=(show∃t,u=zv x t from r);subst e;exact Tu P w x t
theorem Rt{P:ug}{w:vG}:∀{ks:Gc Key} {us:Gc Wp},Vals (ks.map kV) us->ItemsAre (Eh P w) ks us
 | [],_,r=>by rw[vy]at r;cases r;exact .nil
 |k::ks,_,r=>by
  rw[ui]at r
  cases r with
  |cons h t=>exact .cons (kH h) (Rt t)
abbrev KT(H:Hp):Gc (Gc Key×V)->Gc (Gc Key×uF×Wp)->Prop:=Paired λp q=>p.1=q.1/\H q.2.1=Fk (.tup (p.1.map kV))/\RelV p.2 q.2.2
section
variable{P:ug}{w:vG}{H:Hp}{h:ux}{a:uF}
theorem ik{u:HO}(ok:HOk P w H h)(e:Rd H a u):EL P w H h a u:=e.ok ok
theorem oF{kvs:Gc (Key×V)}(ok:HOk P w H h)(e:Rd H a (.dK kvs)):kvs.length<=sizeLine/\(a==sysModules)=false/\∃vs,KV kvs vs/\h.DictOf (Eh P w) a vs:=
 show EL P w H h a (.dK kvs)from ik ok e
theorem nX{kvs:Gc (Key×V)}(ok:HOk P w H h)(e:H a=Fk (.dK kvs)):kvs.length<=sizeLine/\(a==sysModules)=false/\∃vs,KV kvs vs/\h.DictOf (Eh P w) a vs:=oF ok (.inl e)
theorem ki{ks:Gc Key}(ok:HOk P w H h)(e:H a=Fk (.tup (ks.map kV))):(tupleKind (Eh P w)).is h ks a:=by
 obtain⟨_,its,r,o,h1,h2,n,h3⟩:=(show EL P w H h a (.tup (ks.map kV))from ok a _ e)
 exact⟨o,its.toArray,n,h1,h2,h3,by simpa using Rt r⟩
theorem oK{kvs:Gc (Gc Key×V)}(ok:HOk P w H h)(e:Rd H a (.dT kvs)):kvs.length<=sizeLine/\(a==sysModules)=false/\∃xs,KT H kvs xs/\h.DictOfH (tupleKind (Eh P w)) a xs:=by
 obtain⟨z,y,xs,r,o,es,ep,h1,h2,h3,h4,h5⟩:=(show EL P w H h a (.dT kvs)from ik ok e)
 refine⟨z,y,xs,r,o,es,ep,h1,h2,h3,h4,λx hx=>?_,h5⟩
 have all:∀{l:Gc (Gc Key×V)} {m:Gc (Gc Key×uF×Wp)},KT H l m->∀x∈m,(tupleKind (Eh P w)).is h x.1 x.2.1:=by
  intro l m q
  induction q with
  |nil=>intro x hx;exact nomatch hx
  | @cons p q ps qs hq t ih=>
    intro x hx
    rcases uI.mp hx with e|hx
    .subst e
     exact ki ok (by rw[<-hq.1];exact hq.2.1)
    .exact ih x hx
 exact all r x hx
theorem gc{kvs:Gc (Gc Key×V)}(ok:HOk P w H h)(e:H a=Fk (.dT kvs)):kvs.length<=sizeLine/\(a==sysModules)=false/\∃xs,KT H kvs xs/\h.DictOfH (tupleKind (Eh P w)) a xs:=oK ok (.inl e)
end
section
variable{X:Cx}{pins:Gc (uF×Obj)}{σ:St}{H:Hp}{s:uE}{a:uF}{y v:V}{u r:Wp}{o:uD V}{A:vF}{E:Wp->uE->Prop}
theorem Inv.big(I:Inv X pins σ H s):sysModules<s.heap.objs.size:=by
 have h:mainGlobals<s.heap.objs.size:=(I.mod.glob.keeps I.bk).lt
 exact Nat.lt_trans (by decide) h
theorem dg{h':ux}{t':Nat}{ob:HO}(I:Inv X pins σ H s)(mu:Mut (H a))(hs:yU a s.heap h')(he:∃q,h'.get? a=Fk q)(new:EL X.prog X.w (upd H a ob) h' a ob):Inv X pins σ (upd H a ob) {s with heap:=h',toks:=t'}:=
 I.write (x:=a) (e:=a) mu (.inl rfl) (λb q hb z=>(hs.2 b hb).trans z) he new
theorem js{P:ug}{w:vG}{H':Hp}{h':ux}{kvs:Gc (Key×V)}{vs:Gc (Key×Wp)}(z:kvs.length<=sizeLine)(hd:(a==sysModules)=false)(rel:KV kvs vs)(dd:h'.DictOf (Eh P w) a vs):EL P w H' h' a (.dK kvs):=⟨z,hd,vs,rel,dd⟩
end
section
variable{X:Cx}{pins:Gc (uF×Obj)}{σ:St}{H:Hp}{s:uE}{a:uF}{kvs:Gc (Key×V)}{k:Key}{u:Wp}{A:vF}{E:Wp->uE->Prop}
end
section
variable{X:Cx}{o i e value:uh}{pos pos' tpos:Pos}{td ty tv:TE}
end
theorem az{P:ug}{w:vG}{H:Hp}(h:ux)(hb:sysModules<h.objs.size):EL P w H (h.push {cls:=.type "dict",data:=.dict #[]}) h.objs.size (.dK []):=
 ⟨wR _,AA7.mpr (wI (vB hb)),[],.nil,Heap.DictOf.new h⟩
section
variable{X:Cx}{pos:Pos}
end
def VQ:Gc (TE×TE)->St->Hp->(Gc (V×V)->Hp->Prop)->Prop
 | [],_,H,Q=>Q [] H
 |(tk,tv)::r,σ,H,Q=>tk σ H λx H1=>tv σ H1 λy H2=>VQ r σ H2 λps H3=>Q ((x,y)::ps) H3
abbrev VV:Gc (V×V)->Gc (Wp×Wp)->Prop:=Paired λp q=>RelV p.1 q.1/\RelV p.2 q.2
def PPs(X:Cx)(pos:Pos)(keys:Gc (uD uh))(values:Gc uh)(trs:Gc (TE×TE)):Prop:=
 ∀(pins:Gc (uF×Obj)) (s:uE) (σ:St) (H:Hp) (Q:Gc (V×V)->Hp->Prop),Inv X pins σ H s->VQ trs σ H Q->
  wpAny (model X.prog X.w) X.A (evalPairs (pairTrees keys values X.env pos)) (λvs s'=>∃ps H',Inv X pins σ H' s'/\VV ps vs/\Q ps H') X.xe s
theorem fU{X:Cx}{pos:Pos}:PPs X pos [] [] []:=λpins s σ H Q I h=>pairTrees_nil_walk ⟨[],H,I,.nil,h⟩
theorem aj{X:Cx}{pos:Pos}{k v:uh}{ks:Gc (uD uh)}{vs:Gc uh}{tk tv:TE}{trs:Gc (TE×TE)}(hk:PE X k tk)(hv:PE X v tv)(hr:PPs X pos ks vs trs):PPs X pos (Fk k::ks) (v::vs) ((tk,tv)::trs):=λpins s σ H Q I h=>
 pairTrees_cons_walk (thn (hk pins s σ H _ I h) λu s1 ⟨x,H1,I1,rx,q1⟩=>thn (hv pins s1 σ H1 _ I1 q1) λw2 s2 ⟨y,H2,I2,ry,q2⟩=>
  thn (hr pins s2 σ H2 _ I2 q2) λws s3 ⟨ps,H3,I3,rel,q3⟩=>⟨(x,y)::ps,H3,I3,.cons ⟨rx,ry⟩ rel,q3⟩)
noncomputable def Og(kvs more:Gc (Key×V)):Gc (Key×V):=more.foldl (λacc kv=>putK acc kv.1 kv.2) kvs
theorem KV.merge:∀{more:Gc (Key×V)} {rs:Gc (Key×Wp)} {kvs:Gc (Key×V)} {vs:Gc (Key×Wp)},KV more rs->KV kvs vs->KV (Og kvs more) (merged vs rs):=by
 intro more rs kvs vs r
 unfold KV at r
 induction r generalizing kvs vs with
 |nil=>intro q;exact q
 | @cons p q ps qs h t ih=>
   intro r0
   have e:KV (putK kvs p.1 p.2) (stored vs q.1 q.2):=by
    have:=r0.put p.1 h.2
    rw[<-h.1];exact this
   exact ih e
theorem MI:∀(more kvs:Gc (Key×V)),(Og kvs more).length<=kvs.length+more.length
 | [],kvs=>by show kvs.length<=kvs.length+0;lia
 |p::r,kvs=>by
  have h1:=MI r (putK kvs p.1 p.2)
  have h2:=Tn kvs p.1 p.2
  show(Og (putK kvs p.1 p.2) r).length<=_
  rw[vJ];lia
theorem QF{P:ug}{w:vG}:∀{kvs:Gc (Key×V)} {ws:Gc (Wp×Wp)},VV (kvs.map λkv=>(kV kv.1,kv.2)) ws->∃rs,Carries (Eh P w) ws rs/\KV kvs rs
 | [],_,r=>by rw[vy]at r;cases r;exact⟨[],yo,.nil⟩
 |p::kvs,_,r=>by
  rw[ui]at r
  cases r with
  | @cons a b as bs h t=>
    obtain⟨rs,c,q⟩:=QF (P:=P) (w:=w) t
    obtain⟨b1,b2⟩:=b
    exact⟨(p.1,b2)::rs,⟨kH h.1,rfl,c⟩,.cons ⟨rfl,h.2⟩ q⟩
noncomputable def nE(trs:Gc (TE×TE)):TE:=λσ H Q=>∀p,H p=uC->VQ trs σ (upd H p (.dK [])) λps H2=>H2 p=Fk (.dK [])/\∃kvs:Gc (Key×V),ps=kvs.map (λkv=>(kV kv.1,kv.2))/\kvs.length<=15/\Q (.ref p) (upd H2 p (.dK (Og [] kvs)))
theorem fH{X:Cx}{pos:Pos}{keys:Gc (uD uh)}{values:Gc uh}{trs:Gc (TE×TE)}(h:PPs X pos keys values trs)(hall:keys.all (·.isSome)=true)(hl:keys.length=values.length)(h0:keys≠[])(h15:keys.length<=15):PE X (.Dict keys values pos) (nE trs):=by
 intro pins s σ H Q I q
 have hn:=I.hok.fresh (uN s.heap.objs.size)
 have I1:=I.laid (a:=s.heap.objs.size) (o:=.dK []) (h':=s.heap.push {cls:=.type "dict",data:=.dict #[]}) (t':=s.toks) (λ_ _ q=>uB _ q) (uN _) (az s.heap I.big)
 refine wpAny_Dict_walk (knd:=Eh X.prog X.w) hall hl h0 h15 (thn (h pins _ σ _ _ I1 (q _ hn)) λws s2 ⟨ps,H2,I2,rel,e,kvs,ep,lk,q2⟩=>?_)
 subst ep
 obtain⟨rs,c,rk⟩:=QF (P:=X.prog) (w:=X.w) rel
 obtain⟨z,hd,vs0,r0,dd⟩:=nX I2.hok e
 cases r0
 refine⟨rs,c,dd,λh' dd' hs=>⟨.ref s.heap.objs.size,_,?_,rfl,q2⟩⟩
 have hz:(Og [] kvs).length<=sizeLine:=by
  have h1:=MI kvs []
  rw[yN]at h1
  rw[sizeLine_eq];lia
 have he:∃q,h'.get? s.heap.objs.size=Fk q:=let⟨q,_,_,hq,_⟩:=dd';⟨q,hq⟩
 exact dg I2 (by rw[e];exact yo) hs he (js hz hd (rk.merge .nil) dd')
structure M1(X:Cx)(o:uh)(m:Str)(apos:Pos)(e:uh)(cpos:Pos):Prop where
 base:attributeBase o m X.env (eval o X.env)=eval o X.env
 few:((backTo cpos (ue [e] X.env)).all (λx=> !x.1) && (backToKw cpos (keywordEach [] X.env)).all (λx=>x.1.isSome)
  && decide (([e]:Gc uh).length+([]:Gc zf).length+(if([]:Gc zf).isEmpty then 0 else 1)<30))=true
 line:(apos.endLine==cpos.line)=true
 trees:backTo cpos (ue [e] X.env)=[(false,eval e X.env)]
structure M2(X:Cx)(o:uh)(m:Str)(apos:Pos)(e f:uh)(cpos:Pos):Prop where
 base:attributeBase o m X.env (eval o X.env)=eval o X.env
 few:((backTo cpos (ue [e,f] X.env)).all (λx=> !x.1) && (backToKw cpos (keywordEach [] X.env)).all (λx=>x.1.isSome)
  && decide (([e,f]:Gc uh).length+([]:Gc zf).length+(if([]:Gc zf).isEmpty then 0 else 1)<30))=true
 line:(apos.endLine==cpos.line)=true
 trees:backTo cpos (ue [e,f] X.env)=[(false,eval e X.env),(false,eval f X.env)]
def IsD(H:Hp)(a:uF):Prop:=(∃kvs,Rd H a (.dK kvs))\/∃kvs,Rd H a (.dT kvs)
section
variable{X:Cx}{pins:Gc (uF×Obj)}{σ:St}{H:Hp}{s:uE}{a:uF}{y d:V}{u r:Wp}{o:uD V}{A:vF}{E:Wp->uE->Prop}
end
section
variable{X:Cx}{o e f:uh}{apos cpos:Pos}{td ty tx:TE}
end
section
variable{X:Cx}{pins:Gc (uF×Obj)}{σ:St}{H:Hp}{s:uE}{a:uF}{kvs:Gc (Key×V)}{A:vF}{E:Wp->uE->Prop}
end
section
variable{X:Cx}{pins:Gc (uF×Obj)}{σ:St}{H:Hp}{s:uE}{a:uF}{y:V}{u:Wp}{A:vF}{E:Wp->uE->Prop}
end
end L2
end
noncomputable section
namespace L2
open PySem PySem.Spec PyProof.Rows
section
variable{prog:ug}{w:vG}{A:vF}{E:Wp->uE->Prop}{s:uE}
theorem Vn{h:ux}{it t:uF}{i:Nat}{o:Obj}(ho:h.get? it=Fk o)(hc:o.cls=.type "tuple_iterator")(hd:o.data=.fields #[.ref t,.int i 0]){h':ux}(e:h'=h.update it (λo=>o.mapFields λa=>a.setIfInBounds 1 (rawInt ((i:Int)+1)))):h'.IsTupleIter it t (i+1):=by
 subst e
 have d:=Obj.data_mapFields hd λa=>a.setIfInBounds 1 (rawInt ((i:Int)+1))
 refine⟨_,AAf _ ho (Obj.isFreed_of_fields d),?_,?_⟩
 .rw[Obj.cls_mapFields];exact hc
 .rw[d];simp[rawInt]
theorem ak{it t:uF}{i:Nat}{items:vQ Wp}{x:Wp}{Q:Wp->uE->Prop}(hit:s.heap.IsTupleIter it t i)(ht:s.heap.IsTuple t items)(hx:items[i]?=Fk x)(hQ:∀h',h'.IsTupleIter it t (i+1)->yU it s.heap h'->Q x {s with heap:=h'}):wpAny (model prog w) A (vM (.ref it)) Q E s:=by
 obtain⟨⟨c,dd,dt,sl⟩,ho,hc,hd⟩:=id hit
 obtain⟨⟨c2,dd2,dt2,sl2⟩,ho2,hc2,n2,hd2⟩:=id ht
 simp only at hc hd hc2 hd2
 subst hc hd hc2 hd2
 unfold vM
 refine tz (vq (name:=vk "__next__") hit.typeIs xD (wK xD hit.typeIs zB ?_ (yz _)))
 unfold xr.«tuple_iterator.__next__»
 wp_walk using uj ho,uj ho2
 have e:items[(i:Int).toNat]?=Fk x:=by rw[xp];exact hx
 rw[e]
 refine tz (wpAny_setField ho rfl (by simp) ?_)
 exact uR ⟨x,rfl,uR (hQ _ (Vn ho rfl rfl rfl) (AA9 ..))⟩
theorem af{it t:uF}{i:Nat}{items:vQ Wp}{Q:Wp->uE->Prop}(hh:A.handled=uC)(hit:s.heap.IsTupleIter it t i)(ht:s.heap.IsTuple t items)(hx:items[i]?=uC)(hE:∀h' e,zk it s.heap h'->(∃o,h'.get? e=Fk o/\o.cls=.type "StopIteration")->E (.ref e) {s with heap:=h'}):wpAny (model prog w) A (vM (.ref it)) Q E s:=by
 obtain⟨⟨c,dd,dt,sl⟩,ho,hc,hd⟩:=id hit
 obtain⟨⟨c2,dd2,dt2,sl2⟩,ho2,hc2,n2,hd2⟩:=id ht
 simp only at hc hd hc2 hd2
 subst hc hd hc2 hd2
 unfold vM
 refine tz (vq (name:=vk "__next__") hit.typeIs xD (wK xD hit.typeIs zB ?_ (yz _)))
 unfold xr.«tuple_iterator.__next__»
 wp_walk using uj ho,uj ho2
 have e:items[(i:Int).toNat]?=none:=by rw[xp];exact hx
 rw[e]
 refine tz (AAF (tz (wpAny_setField ho rfl (by simp) ?_)))
 have hh1:A.in1.handled=none:=hh
 unfold Builtin.SmallTypes.stopIteration
 simp only[newExc,newTuple,raiseNew]
 wp_walk
 refine hE _ _ ?_ ⟨_,uf _ rfl,rfl⟩
 have a:=(AA9 (a:=it) (h:=s.heap) (f:=Obj.mapFields λx=>x.setIfInBounds 0 vo)).extBut
 exact(a.push _).push _
theorem Xp(l:uF)(items:vQ Wp)(n:Nat)(dct:uD uF)(sl:vQ (uD Wp)):Meets (xr.«enumerate.__new__» ⟨[.type "enumerate",.ref l],[]⟩) (λ_ R s=>s.heap.get? l=Fk {cls:=.type "tuple",dict:=dct,data:=.seq items n,slots:=sl}/\R (.ok (.ret (.ref (s.heap.objs.size+1)))) {s with heap:=(s.heap.push {cls:=.type "tuple_iterator",data:=.fields #[.ref l,.int 0 0]}).push {cls:=.type "enumerate",data:=.fields #[.none,.bool false,.ref s.heap.objs.size,rawInt 0,.none,.none]}}):=
 .of_wp λprog w A R s h=>by
  obtain⟨hp,g,d,tk,os⟩:=s
  obtain⟨hl,h⟩:=h
  have hsub:=sub_enumerate
  have hT:zC (xP ⟨hp,g,d,tk,os⟩) l items:=⟨_,hl,rfl,n,rfl⟩
  wp_walk using uj hl
  refine wpAny_stack_any λst=>uR ?_
  split
  .rename_i c _ _ _ _ _
   cases (c==AAE "enumerate")<;>(wp_walk using uj hl,wW hT)<;>(refine⟨_,rfl,?_⟩;rw[vv];exact h)
  .wp_walk using uj hl,wW hT
   refine⟨_,rfl,?_⟩
   rw[vv]
   exact h
theorem V5{l:uF}{items:vQ Wp}{Q:Wp->uE->Prop}(hT:s.heap.IsTuple l items)(h:∀h',IsEnum h' (s.heap.objs.size+1) s.heap.objs.size 0 .none->h'.IsTupleIter s.heap.objs.size l 0->(∀b o,s.heap.get? b=Fk o->h'.get? b=Fk o)->Q (.ref (s.heap.objs.size+1)) {s with heap:=h'}):wpAny (model prog w) A (call (.type "enumerate") [.ref l]) Q E s:=by
 obtain⟨⟨c,dct,dt,sl⟩,hl,hc,n,hd⟩:=hT
 simp only at hc hd
 subst hc hd
 refine callType_new F.called_enumerate (by decide) (F.typeCall_enumerate_1 _) (F.newCall_enumerate_1 _) (λobj=>F.args_object_init_2 obj _) F.entry_enumerate_new (Xp l items n dct sl) ⟨hl,?_⟩
 have z:=uf (s.heap.push {cls:=.type "tuple_iterator",data:=.fields #[.ref l,.int 0 0]}) (o:={cls:=.type "enumerate",data:=.fields #[.none,.bool false,.ref s.heap.objs.size,rawInt 0,.none,.none]}) rfl
 rw[vv]at z
 exact⟨⟨_,z,rfl⟩,h _ z ⟨_,uB _ (uf _ rfl),rfl,rfl⟩ λb o x=>uB _ (uB _ x)⟩
end
section
variable{X:Cx}
end
end L2
end
noncomputable section
namespace L2
open PySem PySem.Spec PyProof.Rows
structure TopD(K:KE)(w:vG)(a:uF)(kvs:Gc (Str×V)):Prop where
 ex:∃(es:vQ DictEntry) (n:Nat),K.lookup a=Fk ⟨.type "dict",uC,.dict es n, #[]⟩/\PySem.W.KeysLit w.params es.toList/\(a==sysModules)=false/\∀x,lL (kvs.lookup x) (findBy ABE es x)
section
variable{X:Cx}
end
end L2
end
noncomputable section
namespace L2
open PySem PySem.Spec PyProof.Rows
def SIt(h:ux)(j l:uF)(i:Nat)(its:vQ Wp):Prop:=(h.IsListIter j l i/\h.IsList l its)\/(h.IsTupleIter j l i/\h.IsTuple l its)
section
variable{prog:ug}{w:vG}{A:vF}{E:Wp->uE->Prop}{s:uE}{h h':ux}{j l:uF}{i:Nat}{its:vQ Wp}
theorem SIt.at(q:SIt h j l i its)(k1:∀o,h.get? j=Fk o->h'.get? j=Fk o)(k2:∀o,h.get? l=Fk o->h'.get? l=Fk o):SIt h' j l i its:=by
 rcases q with⟨a,b⟩|⟨a,b⟩
 .exact .inl ⟨a.at k1,b.at k2⟩
 .exact .inr ⟨a.at k1,let⟨o,e,r⟩:=b;⟨o,k2 o e,r⟩⟩
theorem SIt.but{c:uF}(q:SIt h j l i its)(sb:zk c h h')(n1:j≠c)(n2:l≠c):SIt h' j l i its:=q.at (λo e=>sb _ o n1 e) λo e=>sb _ o n2 e
theorem SIt.live(q:SIt h j l i its):∃o,h.get? j=Fk o/\∀v,o.data≠.cell v:=by
 rcases q with⟨⟨o,a,b,c⟩,_⟩|⟨⟨o,a,b,c⟩,_⟩
 .exact⟨o,a,λv z=>by rw[c]at z;cases z⟩
 .exact⟨o,a,λv z=>by rw[c]at z;cases z⟩
theorem SIt.ne(q:SIt h j l i its):l≠j:=by
 rcases q with⟨⟨o,a,b,_⟩,⟨o2,a2,b2,_⟩⟩|⟨⟨o,a,b,_⟩,⟨o2,a2,b2,_⟩⟩
 .intro z;subst z;rw[a]at a2;cases a2;rw[b]at b2;injection b2 with q;exact absurd q (by decide)
 .intro z;subst z;rw[a]at a2;cases a2;rw[b]at b2;injection b2 with q;exact absurd q (by decide)
theorem Na{x:Wp}{Q:Wp->uE->Prop}(q:SIt s.heap j l i its)(hx:its[i]?=Fk x)(k:∀h',SIt h' j l (i+1) its->yU j s.heap h'->Q x {s with heap:=h'}):wpAny (model prog w) A (vM (.ref j)) Q E s:=by
 have n:=q.ne
 rcases q with⟨a,b⟩|⟨a,b⟩
 .exact wpAny_nextOf_list_item a b hx λh' a' sb=>k h' (.inl ⟨a',b.extBut sb.extBut n⟩) sb
 .exact ak a b hx λh' a' sb=>k h' (.inr ⟨a',let⟨o,e,r⟩:=b;⟨o,sb.extBut _ o n e,r⟩⟩) sb
theorem Nq{Q:Wp->uE->Prop}(hh:A.handled=uC)(q:SIt s.heap j l i its)(hx:its[i]?=uC)(k:∀h' e,zk j s.heap h'->(∃o,h'.get? e=Fk o/\o.cls=.type "StopIteration")->E (.ref e) {s with heap:=h'}):wpAny (model prog w) A (vM (.ref j)) Q E s:=by
 rcases q with⟨a,b⟩|⟨a,b⟩
 .exact wpAny_nextOf_list_end hh a b hx k
 .exact af hh a b hx k
theorem Yc{z ti tt j1 j2 l1 l2:uF}{m:Nat}{xs ys:vQ Wp}{x y u1 u2:Wp}{Q:Wp->uE->Prop}(D:ZipApart z ti tt j1 j2 l1 l2)(oz:zU s.heap z ti tt .none)(oi:xT s.heap ti (.ref j1) (.ref j2))(ot:xT s.heap tt u1 u2)(q1:SIt s.heap j1 l1 m xs)(q2:SIt s.heap j2 l2 m ys)(ex:xs[m]?=Fk x)(ey:ys[m]?=Fk y)(k:∀h',zU h' z ti tt (rawInt s.heap.objs.size)->xT h' tt x y->SIt h' j1 l1 (m+1) xs->SIt h' j2 l2 (m+1) ys->xT h' s.heap.objs.size x y->(∀c o,c≠z->c≠tt->c≠j1->c≠j2->s.heap.get? c=Fk o->h'.get? c=Fk o)->Q (.ref s.heap.objs.size) {s with heap:=h'}):wpAny (model prog w) A (xr.«zip.__next__» ⟨[.ref z],[]⟩) (λfin s'=>∃v,fin=.done (.ret v)/\Q v s') E s:=by
 show wpAny _ _ (field (.ref z) 2 >>= _) _ _ _
 refine tz (wD oz rfl (x:=.bool false) rfl ?_)
 show wpAny _ _ (field (.ref z) 3 >>= _) _ _ _
 refine tz (wD oz rfl (x:=.ref ti) rfl (tz (xw oi rfl ?_)))
 show wpAny _ _ (wH (.ref z) >>= _) _ _ _
 refine tz ?_
 unfold wH
 refine tz (wD oz rfl (x:=.none) rfl (uR ?_))
 simp only[ya]
 refine tz (AAF (tz (wD oz rfl (x:=.ref tt) rfl (tz (xE oz (by simp) λg1 oz1 b1=>?_)))))
 have oz1:zU g1 z ti tt .ellipsis:=oz1
 refine tz ?_
 simp only[List.zipIdx_cons,List.zipIdx_nil,AAX,AAr]
 refine tz (tz (zp ?_))
 show wpAny _ _ (vM (.ref j1) >>= _) _ _ _
 refine tz (Na (q1.but b1.extBut D.i1z D.l1z) ex λg2 q12 b2=>uR ?_)
 have ot2:xT g2 tt u1 u2:=b2.extBut _ _ D.TOi1 (b1.extBut _ _ D.TOz ot)
 refine tz (xw ot2 rfl (tz (yw ot2 λg3 ot3 b3=>?_)))
 have ot3:xT g3 tt x u2:=ot3
 refine tz (wpAny_letGo (uR (tz (tz (zp ?_)))))
 show wpAny _ _ (vM (.ref j2) >>= _) _ _ _
 refine tz (Na (((q2.but b1.extBut D.i2z D.l2z).but b2.extBut D.i12.symm D.l2i1).but b3.extBut D.TOi2.symm D.l2TO) ey λg4 q24 b4=>uR ?_)
 have ot4:xT g4 tt x u2:=b4.extBut _ _ D.TOi2 ot3
 refine tz (xw ot4 rfl (tz (yw ot4 λg5 ot5 b5=>?_)))
 have ot5:xT g5 tt x y:=ot5
 refine tz (wpAny_letGo (uR (uR (tz (xw ot5 rfl (tz (wpAny_newTuple ?_)))))))
 have sz:g5.objs.size=s.heap.objs.size:=by rw[b5.1,b4.1,b3.1,b2.1,b1.1]
 have oz5:zU g5 z ti tt .ellipsis:=b5.extBut _ _ D.TOz.symm (b4.extBut _ _ D.i2z.symm (b3.extBut _ _ D.TOz.symm (b2.extBut _ _ D.i1z.symm oz1)))
 have k5:∀c o,c≠z->c≠tt->c≠j1->c≠j2->s.heap.get? c=Fk o->g5.get? c=Fk o:=λc o c1 c2 c3 c4 e=>b5.extBut _ _ c2 (b4.extBut _ _ c4 (b3.extBut _ _ c2 (b2.extBut _ _ c3 (b1.extBut _ _ c1 e))))
 have q15:SIt g5 j1 l1 (m+1) xs:=((q12.but b3.extBut D.TOi1.symm D.l1TO).but b4.extBut D.i12 D.l1i2).but b5.extBut D.TOi1.symm D.l1TO
 have q25:SIt g5 j2 l2 (m+1) ys:=q24.but b5.extBut D.TOi2.symm D.l2TO
 have zlt:z<g5.objs.size:=uZ oz5
 show wpAny _ _ (yF (.ref z) (.ref g5.objs.size) >>= _) _ _ _
 refine tz ?_
 unfold yF
 have oz6:zU (g5.push {cls:=.type "tuple",data:=.seq #[x,y]}) z ti tt .ellipsis:=uB _ oz5
 refine tz (xE oz6 (by simp) λg7 oz7 b7=>?_)
 have oz7:zU g7 z ti tt (rawInt g5.objs.size):=oz7
 refine xE oz7 (by simp) λg8 oz8 b8=>?_
 have oz8:zU g8 z ti tt (rawInt g5.objs.size):=oz8
 have up:∀c o,c≠z->g5.get? c=Fk o->g8.get? c=Fk o:=λc o c1 e=>b8.extBut _ _ c1 (b7.extBut _ _ c1 (uB _ e))
 have op8:xT g8 g5.objs.size x y:=b8.extBut _ _ (Nat.ne_of_gt zlt) (b7.extBut _ _ (Nat.ne_of_gt zlt) (uf _ rfl))
 rw[sz]at oz8 op8
 refine uR ⟨_,rfl,?_⟩
 show Q (.ref g5.objs.size) _
 rw[sz]
 exact k g8 oz8 (up _ _ D.TOz ot5) (q15.at (λo e=>up _ o D.i1z e) λo e=>up _ o D.l1z e) (q25.at (λo e=>up _ o D.i2z e) λo e=>up _ o D.l2z e) op8 λc o c1 c2 c3 c4 e=>up c o c1 (k5 c o c1 c2 c3 c4 e)
theorem cA{z ti tt j1 j2 l1 l2:uF}{m:Nat}{xs ys:vQ Wp}{u1 u2:Wp}{Q:Fin->uE->Prop}(hh:A.handled=uC)(D:ZipApart z ti tt j1 j2 l1 l2)(oz:zU s.heap z ti tt .none)(oi:xT s.heap ti (.ref j1) (.ref j2))(ot:xT s.heap tt u1 u2)(q1:SIt s.heap j1 l1 m xs)(q2:SIt s.heap j2 l2 m ys)(en:xs[m]?=uC\/ys[m]?=uC)(k:∀h' e,(∀c o,c≠z->c≠tt->c≠j1->c≠j2->s.heap.get? c=Fk o->h'.get? c=Fk o)->(∃o,h'.get? e=Fk o/\o.cls=.type "StopIteration")->E (.ref e) {s with heap:=h'}):wpAny (model prog w) A (xr.«zip.__next__» ⟨[.ref z],[]⟩) Q E s:=by
 show wpAny _ _ (field (.ref z) 2 >>= _) _ _ _
 refine tz (wD oz rfl (x:=.bool false) rfl ?_)
 show wpAny _ _ (field (.ref z) 3 >>= _) _ _ _
 refine tz (wD oz rfl (x:=.ref ti) rfl (tz (xw oi rfl ?_)))
 show wpAny _ _ (wH (.ref z) >>= _) _ _ _
 refine tz ?_
 unfold wH
 refine tz (wD oz rfl (x:=.none) rfl (uR ?_))
 simp only[ya]
 refine tz (AAF (tz (wD oz rfl (x:=.ref tt) rfl (tz (xE oz (by simp) λg1 oz1 b1=>?_)))))
 have oz1:zU g1 z ti tt .ellipsis:=oz1
 refine tz ?_
 simp only[List.zipIdx_cons,List.zipIdx_nil,AAX,AAr]
 refine tz (tz (zp ?_))
 show wpAny _ _ (vM (.ref j1) >>= _) _ _ _
 cases ex:xs[m]? with
 |none=>
  refine tz (Nq hh (q1.but b1.extBut D.i1z D.l1z) ex λg2 e b2 he=>?_)
  obtain⟨oe,e1,e2⟩:=he
  have oz2:zU g2 z ti tt .ellipsis:=b2 _ _ D.i1z.symm oz1
  have nez:e≠z:=λx=>by subst x;rw[oz2]at e1;cases e1;simp at e2
  exact xE oz2 (by simp) λg3 _ b3=>k g3 e (λc o c1 _ c3 _ x=>b3.extBut _ _ c1 (b2 _ _ c3 (b1.extBut _ _ c1 x))) ⟨oe,b3.extBut _ _ nez e1,e2⟩
 |some x=>
  have ey:ys[m]?=none:=by
   rcases en with z|z
   .rw[ex]at z;cases z
   .exact z
  refine tz (Na (q1.but b1.extBut D.i1z D.l1z) ex λg2 q12 b2=>uR ?_)
  have ot2:xT g2 tt u1 u2:=b2.extBut _ _ D.TOi1 (b1.extBut _ _ D.TOz ot)
  refine tz (xw ot2 rfl (tz (yw ot2 λg3 ot3 b3=>?_)))
  refine tz (wpAny_letGo (uR (tz (tz (zp ?_)))))
  show wpAny _ _ (vM (.ref j2) >>= _) _ _ _
  refine tz (Nq hh (((q2.but b1.extBut D.i2z D.l2z).but b2.extBut D.i12.symm D.l2i1).but b3.extBut D.TOi2.symm D.l2TO) ey λg4 e b4 he=>?_)
  obtain⟨oe,e1,e2⟩:=he
  have oz4:zU g4 z ti tt .ellipsis:=b4 _ _ D.i2z.symm (b3.extBut _ _ D.TOz.symm (b2.extBut _ _ D.i1z.symm oz1))
  have nez:e≠z:=λx=>by subst x;rw[oz4]at e1;cases e1;simp at e2
  exact xE oz4 (by simp) λg5 _ b5=>k g5 e (λc o c1 c2 c3 c4 x=>b5.extBut _ _ c1 (b4 _ _ c4 (b3.extBut _ _ c2 (b2.extBut _ _ c3 (b1.extBut _ _ c1 x))))) ⟨oe,b5.extBut _ _ nez e1,e2⟩
theorem Vb{z ti tt j1 j2 l1 l2:uF}{m:Nat}{xs ys:vQ Wp}{x y u1 u2:Wp}{Q:uD Wp->uE->Prop}(D:ZipApart z ti tt j1 j2 l1 l2)(oz:zU s.heap z ti tt .none)(oi:xT s.heap ti (.ref j1) (.ref j2))(ot:xT s.heap tt u1 u2)(q1:SIt s.heap j1 l1 m xs)(q2:SIt s.heap j2 l2 m ys)(ex:xs[m]?=Fk x)(ey:ys[m]?=Fk y)(k:∀h',zU h' z ti tt (rawInt s.heap.objs.size)->xT h' tt x y->SIt h' j1 l1 (m+1) xs->SIt h' j2 l2 (m+1) ys->xT h' s.heap.objs.size x y->(∀c o,c≠z->c≠tt->c≠j1->c≠j2->s.heap.get? c=Fk o->h'.get? c=Fk o)->Q (Fk (.ref s.heap.objs.size)) {s with heap:=h'}):wpAny (model prog w) A (pyNext (.ref z)) Q E s:=by
 have ht:s.TypeIs (.ref z) "zip":=⟨_,oz,rfl⟩
 unfold pyNext
 exact tz (wpAny_attempt (vq (name:=vk "__next__") ht y0 (wK y0 ht F.entry_zip_next
  (Yc D oz oi ot q1 q2 ex ey λh' a1 a2 a3 a4 a5 a6=>uR (k h' a1 a2 a3 a4 a5 a6)) (F.args_zip_next_1 _))))
theorem YN{z ti tt j1 j2 l1 l2:uF}{m:Nat}{xs ys:vQ Wp}{u1 u2:Wp}{Q:uD Wp->uE->Prop}(hh:A.handled=uC)(D:ZipApart z ti tt j1 j2 l1 l2)(oz:zU s.heap z ti tt .none)(oi:xT s.heap ti (.ref j1) (.ref j2))(ot:xT s.heap tt u1 u2)(q1:SIt s.heap j1 l1 m xs)(q2:SIt s.heap j2 l2 m ys)(en:xs[m]?=uC\/ys[m]?=uC)(k:∀h',(∀c o,c≠z->c≠tt->c≠j1->c≠j2->s.heap.get? c=Fk o->h'.get? c=Fk o)->Q uC {s with heap:=h'}):wpAny (model prog w) A (pyNext (.ref z)) Q E s:=by
 have ht:s.TypeIs (.ref z) "zip":=⟨_,oz,rfl⟩
 unfold pyNext
 refine tz (wpAny_attempt (vq (name:=vk "__next__") ht y0 (wK y0 ht F.entry_zip_next
  (cA hh D oz oi ot q1 q2 en λh' e kp he=>?_) (F.args_zip_next_1 _))))
 obtain⟨o,e1,e2⟩:=he
 exact tz (wpAny_isInstance (T:="StopIteration") (b:=true) ⟨o,e1,e2⟩ isSubtype_stop (uR (k _ kp)))
end
end L2
end
noncomputable section
namespace L2
open PySem PySem.Spec PyProof.Rows
def Pc(h:ux)(b:vE)(l:uF)(its:vQ Wp):Prop:=match b with|true=>h.IsTuple l its|false=>h.IsList l its
noncomputable def iq:vE->xA|true=>"tuple_iterator" |false=>"list_iterator"
noncomputable def zh1(h:ux)(b:vE)(l:uF):ux:=h.push {cls:=.type (iq b),data:=.fields #[.ref l,.int 0 0]}
noncomputable def zh2(h:ux)(b c:vE)(l m:uF):ux:=zh1 (zh1 h b l) c m
noncomputable def zh3(h:ux)(b c:vE)(l m:uF):ux:=(zh2 h b c l m).push {cls:=.type "tuple",data:=.seq #[.ref h.objs.size,.ref (zh1 h b l).objs.size]}
noncomputable def zh4(h:ux)(b c:vE)(l m:uF):ux:=(zh3 h b c l m).push {cls:=.type "tuple",data:=.seq #[.none,.none]}
noncomputable def zh5(h:ux)(b c:vE)(l m:uF):ux:=(zh4 h b c l m).push {cls:=.type "zip",data:=.fields #[.none,.bool false,.bool false,.ref (zh2 h b c l m).objs.size,.ref (zh3 h b c l m).objs.size]}
theorem Pc.push{h:ux}{b:vE}{l:uF}{its:vQ Wp}(q:Pc h b l its)(o:Obj):Pc (h.push o) b l its:=by
 cases b
 .exact Heap.IsList.push q _
 .obtain⟨u,e,r⟩:=(show h.IsTuple l its from q)
  exact⟨u,uB _ e,r⟩
theorem ZS(b c:vE)(l m:uF)(xs ys:vQ Wp):Meets (xr.«zip.__new__» ⟨[.type "zip",.ref l,.ref m],[]⟩) (λ_ R s=>Pc s.heap b l xs/\Pc s.heap c m ys/\R (.ok (.ret (.ref (zh4 s.heap b c l m).objs.size))) {s with heap:=zh5 s.heap b c l m}):=
 .of_wp λprog w A R s hyp=>by
  obtain⟨hp,gs,dr,tk,os⟩:=s
  obtain⟨i1,i2,hyp⟩:=hyp
  have hsub:=sub_zip
  have i3:Pc (xP ⟨zh1 hp b l,gs,dr,tk,os⟩) c m ys:=Pc.push i2 _
  cases b<;>cases c
  .have a1:AAs (xP ⟨hp,gs,dr,tk,os⟩) l xs:=i1
   have a2:AAs (xP ⟨hp.push {cls:=.type "list_iterator",data:=.fields #[.ref l,.int 0 0]},gs,dr,tk,os⟩) m ys:=i3
   wp_walk using wN a1,wN a2
   exact⟨_,rfl,hyp⟩
  .have a1:AAs (xP ⟨hp,gs,dr,tk,os⟩) l xs:=i1
   have a2:zC (xP ⟨hp.push {cls:=.type "list_iterator",data:=.fields #[.ref l,.int 0 0]},gs,dr,tk,os⟩) m ys:=i3
   wp_walk using wN a1,wW a2
   exact⟨_,rfl,hyp⟩
  .have a1:zC (xP ⟨hp,gs,dr,tk,os⟩) l xs:=i1
   have a2:AAs (xP ⟨hp.push {cls:=.type "tuple_iterator",data:=.fields #[.ref l,.int 0 0]},gs,dr,tk,os⟩) m ys:=i3
   wp_walk using wW a1,wN a2
   exact⟨_,rfl,hyp⟩
  .have a1:zC (xP ⟨hp,gs,dr,tk,os⟩) l xs:=i1
   have a2:zC (xP ⟨hp.push {cls:=.type "tuple_iterator",data:=.fields #[.ref l,.int 0 0]},gs,dr,tk,os⟩) m ys:=i3
   wp_walk using wW a1,wW a2
   exact⟨_,rfl,hyp⟩
section
variable{prog:ug}{w:vG}{A:vF}{E:Wp->uE->Prop}{s:uE}
theorem cX{h h':ux}{b:vE}{l j:uF}{its:vQ Wp}(q:Pc h b l its)(k:∀c o,h.get? c=Fk o->h'.get? c=Fk o)(e:h'.get? j=Fk {cls:=.type (iq b),data:=.fields #[.ref l,.int 0 0]}):SIt h' j l 0 its:=by
 cases b
 .exact .inl ⟨⟨_,e,rfl,rfl⟩,(show h.IsList l its from q).at λo z=>k _ o z⟩
 .exact .inr ⟨⟨_,e,rfl,rfl⟩,let⟨o,z,r⟩:=(show h.IsTuple l its from q);⟨o,k _ o z,r⟩⟩
theorem Wc{b c:vE}{l m:uF}{xs ys:vQ Wp}{Q:Wp->uE->Prop}(i1:Pc s.heap b l xs)(i2:Pc s.heap c m ys)(k:∀h',zU h' (s.heap.objs.size+4) (s.heap.objs.size+2) (s.heap.objs.size+3) .none->xT h' (s.heap.objs.size+2) (.ref s.heap.objs.size) (.ref (s.heap.objs.size+1))->xT h' (s.heap.objs.size+3) .none .none->SIt h' s.heap.objs.size l 0 xs->SIt h' (s.heap.objs.size+1) m 0 ys->(∀c o,s.heap.get? c=Fk o->h'.get? c=Fk o)->Q (.ref (s.heap.objs.size+4)) {s with heap:=h'}):wpAny (model prog w) A (call (.type "zip") [.ref l,.ref m]) Q E s:=by
 refine callType_new F.called_zip (by decide) (F.typeCall_zip_2 _ _) (F.newCall_zip_2 _ _) (λobj=>F.args_object_init_3 obj _ _) F.entry_zip_new (ZS b c l m xs ys) ⟨i1,i2,?_⟩
 have z1:(zh1 s.heap b l).objs.size=s.heap.objs.size+1:=vv ..
 have z2:(zh2 s.heap b c l m).objs.size=s.heap.objs.size+2:=by unfold zh2 zh1;rw[vv];exact congrArg (· +1) z1
 have z3:(zh3 s.heap b c l m).objs.size=s.heap.objs.size+3:=by unfold zh3;rw[vv,z2]
 have z4:(zh4 s.heap b c l m).objs.size=s.heap.objs.size+4:=by unfold zh4;rw[vv,z3]
 have kp:∀d o,s.heap.get? d=Fk o->(zh5 s.heap b c l m).get? d=Fk o:=λd o e=>by
  unfold zh5 zh4 zh3 zh2 zh1
  exact uB _ (uB _ (uB _ (uB _ (uB _ e))))
 have g5:(zh5 s.heap b c l m).get? (zh4 s.heap b c l m).objs.size=Fk _:=uf _ rfl
 have g4:(zh5 s.heap b c l m).get? (zh3 s.heap b c l m).objs.size=Fk _:=uB _ (uf _ rfl)
 have g3:(zh5 s.heap b c l m).get? (zh2 s.heap b c l m).objs.size=Fk _:=uB _ (uB _ (uf _ rfl))
 have g2:(zh5 s.heap b c l m).get? (zh1 s.heap b l).objs.size=Fk _:=uB _ (uB _ (uB _ (uf _ rfl)))
 have g1:(zh5 s.heap b c l m).get? s.heap.objs.size=Fk _:=uB _ (uB _ (uB _ (uB _ (uf _ rfl))))
 show _/\_
 rw[z2,z3,z4]at g5
 rw[z1,z2]at g3
 rw[z3]at g4
 rw[z1]at g2
 rw[z4]
 exact⟨⟨_,g5,rfl⟩,k _ g5 g3 g4 (cX i1 kp g1) (cX i2 kp g2) kp⟩
end
end L2
end
noncomputable section
namespace L2
open PySem PySem.Spec PyProof.Rows
def SqB(K:KE)(H:Hp)(k:vE)(a:uF)(xs:Gc V):Prop:=match k with|true=>SqT K H a xs|false=>SqL K H a xs
def JIt(h:ux)(k:vE)(j l:uF)(i:Nat):Prop:=match k with|true=>h.IsTupleIter j l i|false=>h.IsListIter j l i
theorem JIt.at{h h':ux}{k:vE}{j l:uF}{i:Nat}(q:JIt h k j l i)(e:∀o,h.get? j=Fk o->h'.get? j=Fk o):JIt h' k j l i:=by
 cases k
 .exact Heap.IsListIter.at q e
 .exact Heap.IsTupleIter.at q e
theorem JIt.sit{h:ux}{k:vE}{j l:uF}{i:Nat}{its:vQ Wp}(q:JIt h k j l i)(p:Pc h k l its):SIt h j l i its:=by
 cases k
 .exact .inl ⟨q,p⟩
 .exact .inr ⟨q,p⟩
theorem SIt.jit{h:ux}{k:vE}{j l:uF}{i:Nat}{its:vQ Wp}(q:SIt h j l i its)(p:Pc h k l its):JIt h k j l i:=by
 rcases q with⟨q,r⟩|⟨q,r⟩
 .cases k
  .exact q
  .obtain⟨o,e,c,_⟩:=r;obtain⟨o',e',c',_⟩:=(show h.IsTuple l its from p)
   rw[e]at e';cases e';rw[c]at c';injection c' with z;exact absurd z (by decide)
 .cases k
  .obtain⟨o,e,c,_⟩:=r;obtain⟨o',e',c',_⟩:=(show h.IsList l its from p)
   rw[e]at e';cases e';rw[c]at c';injection c' with z;exact absurd z (by decide)
  .exact q
theorem Inv.sqB{X:Cx}{pins:Gc (uF×Obj)}{σ:St}{H:Hp}{s:uE}{k:vE}{a:uF}{xs:Gc V}(I:Inv X pins σ H s)(h:SqB X.K H k a xs):∃its:Gc Wp,Vals xs its/\Pc s.heap k a its.toArray:=by
 cases k
 .obtain⟨its,h1,⟨o,n,q1,q2,_,q3⟩,h3⟩:=I.list h
  exact⟨its,h1,o,q1,q2,n,q3⟩
 .obtain⟨its,h1,h2,h3⟩:=I.tuple h
  exact⟨its,h1,h2⟩
theorem Inv.UP{X:Cx}{pins:Gc (uF×Obj)}{σ:St}{H:Hp}{s:uE}{k:vE}{a:uF}{xs ys:Gc V}(I:Inv X pins σ H s)(h:SqB X.K H k a xs)(g:SqB X.K H k a ys):xs=ys:=by
 cases k
 .exact I.U5 h g
 .exact I.Rj h g
noncomputable def Itz(K:KE)(k:vE)(a:uF)(m:vE)(b:uF):It:=
 ⟨λi H=>∃(xs ys:Gc V) (x y:V),SqB K H k a xs/\SqB K H m b ys/\xs[i]?=Fk x/\ys[i]?=Fk y,
  λi H v H'=>∃(p:uF) (x y:V),H p=uC/\v=.ref p/\(∀xs,SqB K H k a xs->xs[i]?=Fk x)/\(∀ys,SqB K H m b ys->ys[i]?=Fk y)/\H'=upd H p (.tup [x,y]),
  λi H=>∃(xs ys:Gc V),SqB K H k a xs/\SqB K H m b ys/\(xs.length<=i\/ys.length<=i)⟩
structure ZSt(h:ux)(z ti tt j1 j2:uF)(k:vE)(a:uF)(m:vE)(b:uF)(i:Nat):Prop where
 oz:zU h z ti tt .none
 oi:xT h ti (.ref j1) (.ref j2)
 ot:∃u v,xT h tt u v
 q1:JIt h k j1 a i
 q2:JIt h m j2 b i
structure ZNe(z ti tt j1 j2:uF):Prop where
 n1:ti≠z
 n2:tt≠z
 n3:j1≠z
 n4:j2≠z
 n5:ti≠tt
 n6:ti≠j1
 n7:ti≠j2
 n8:tt≠j1
 n9:tt≠j2
 n10:j1≠j2
theorem ZNe.apart{z ti tt j1 j2 a b:uF}(N:ZNe z ti tt j1 j2)(ha:a∉ [z,tt,j1,j2])(hb:b∉ [z,tt,j1,j2]):ZipApart z ti tt j1 j2 a b:=by
 simp only[uI,uX,vV,AAt]at ha hb
 exact⟨N.n1,N.n2,N.n3,N.n4,N.n5,N.n6,N.n7,N.n8,N.n9,N.n10,ha.1,ha.2.1,ha.2.2.1,ha.2.2.2,hb.1,hb.2.1,hb.2.2.1,hb.2.2.2⟩
theorem B4{X:Cx}{pins:Gc (uF×Obj)}{σ:St}{H:Hp}{s:uE}{k:vE}{a c:uF}{xs:Gc V}(I:Inv X pins σ H s)(q:SqB X.K H k a xs)(f:TQ X pins H c):a≠c:=by
 intro e
 subst e
 have rd:∀o,Rd H a o->wk:=λo r=>by
  rcases r with r|⟨_,r⟩<;>(rw[f.1]at r;cases r)
 have kk:∀o,X.K.lookup a=Fk o->wk:=λo hk=>by
  have b:=I.ok.mod.kin a o hk
  rcases f.2.2.2.1 with z|z
  .exact I.ok.dX a o b z
  .exact absurd (uG (uZ (I.ok.bs a o b).1) z) (vw _)
 cases k
 .rcases(show SqL X.K H a xs from q)with q|⟨o,_,_,hk,_⟩
  .exact rd _ q
  .exact kk o hk
 .rcases(show SqT X.K H a xs from q)with q|⟨o,_,_,hk,_⟩
  .exact rd _ q
  .exact kk o hk
theorem ZN{P:ug}{w:vG}{K:KE}{elts:Gc uh}{n:Nat}{pos:Pos}(k:vE)(a:uF)(m:vE)(b:uF)(z ti tt j1 j2:uF)(N:ZNe z ti tt j1 j2):Turn P w K (.Tuple elts n pos) (Itz K k a m b) [z,ti,tt,j1,j2] z (λi h=>ZSt h z ti tt j1 j2 k a m b i) where
 mem:=by simp
 obj:=λi h st c hc=>by
  have jl:∀{q:vE} {j l:uF},JIt h q j l i->∃o,h.get? j=Fk o/\∀v,o.data≠.cell v:=λ{q j l} x=>by
   cases q
   .obtain⟨o,e,_,d⟩:=(show h.IsListIter j l i from x)
    exact⟨o,e,λv z=>by rw[d]at z;cases z⟩
   .obtain⟨o,e,_,d⟩:=(show h.IsTupleIter j l i from x)
    exact⟨o,e,λv z=>by rw[d]at z;cases z⟩
  simp only[uI,uX,vV]at hc
  rcases hc with rfl|rfl|rfl|rfl|rfl
  .exact⟨_,st.oz,λv z=>nomatch z⟩
  .exact⟨_,st.oi,λv z=>nomatch z⟩
  .obtain⟨u,v,e⟩:=st.ot
   exact⟨_,e,λv z=>nomatch z⟩
  .exact jl st.q1
  .exact jl st.q2
 keep:=λi h h' st kp=>⟨kp z (by simp) _ st.oz,kp ti (by simp) _ st.oi,let⟨u,v,e⟩:=st.ot;⟨u,v,kp tt (by simp) _ e⟩,st.q1.at λo e=>kp j1 (by simp) o e,st.q2.at λo e=>kp j2 (by simp) o e⟩
 item:=by
  intro X hP hw hK hc i pins s σ H E I hf st hg
  subst hP hw hK
  obtain⟨xs,ys,x,y,s1,s2,e1,e2⟩:=hg
  obtain⟨i1,r1,p1⟩:=I.sqB s1
  obtain⟨i2,r2,p2⟩:=I.sqB s2
  obtain⟨u1,h1,ru1⟩:=r1.get e1
  obtain⟨u2,h2,ru2⟩:=r2.get e2
  have fz:=hf z (by simp);have fi:=hf ti (by simp);have ft:=hf tt (by simp);have f1:=hf j1 (by simp);have f2:=hf j2 (by simp)
  have ap:=N.apart (a:=a) (b:=b) (by simp[B4 I s1 fz,B4 I s1 ft,B4 I s1 f1,B4 I s1 f2]) (by simp[B4 I s2 fz,B4 I s2 ft,B4 I s2 f1,B4 I s2 f2])
  obtain⟨v1,v2,ot⟩:=st.ot
  refine Vb ap st.oz st.oi ot (st.q1.sit p1) (st.q2.sit p2) (x:=u1) (y:=u2) (by simpa using h1) (by simpa using h2) λh' oz ot' q1 q2 op kp=>⟨_,rfl,wpAny_letOwnedTupleGo_zip oz λg oz' sb=>?_⟩
  have lt:∀c o,s.heap.get? c=Fk o->c≠s.heap.objs.size:=λc o q=>vB (uZ q)
  have nz:z≠s.heap.objs.size:=lt _ _ st.oz
  have nt:tt≠s.heap.objs.size:=lt _ _ ot
  have n1:j1≠s.heap.objs.size:=by obtain⟨o,e,_⟩:=(st.q1.sit p1).live;exact lt _ _ e
  have n2:j2≠s.heap.objs.size:=by obtain⟨o,e,_⟩:=(st.q2.sit p2).live;exact lt _ _ e
  have kp2:∀c o,c≠z->c≠tt->c≠j1->c≠j2->s.heap.get? c=Fk o->g.get? c=Fk o:=λc o c1 c2 c3 c4 q=>(sb.2 c c1).trans (kp c o c1 c2 c3 c4 q)
  have fr:H s.heap.objs.size=none:=I.hok.fresh (uN _)
  have op2:g.get? s.heap.objs.size=Fk {cls:=.type "tuple",data:=.seq #[u1,u2]}:=(sb.2 _ (wI nz)).trans op
  have ne:∀c u,c∈ [z,ti,tt,j1,j2]->∀d,H d=Fk u->d≠c:=λc u hc d q e=>by rw[e,(hf c hc).1]at q;cases q
  have kpH:∀c u,H c=Fk u->∀o,s.heap.get? c=Fk o->g.get? c=Fk o:=λc u q o e=>kp2 c o (ne z u (by simp) c q) (ne tt u (by simp) c q) (ne j1 u (by simp) c q) (ne j2 u (by simp) c q) e
  have ka:∀o,s.heap.get? a=Fk o->g.get? a=Fk o:=λo e=>kp2 a o (B4 I s1 fz) (B4 I s1 ft) (B4 I s1 f1) (B4 I s1 f2) e
  have kb:∀o,s.heap.get? b=Fk o->g.get? b=Fk o:=λo e=>kp2 b o (B4 I s2 fz) (B4 I s2 ft) (B4 I s2 f1) (B4 I s2 f2) e
  have sq:∀{q:vE} {d:uF} {is:vQ Wp},Pc s.heap q d is->(∀o,s.heap.get? d=Fk o->h'.get? d=Fk o)->Pc h' q d is:=λ{q d is} x kd=>by
   cases q
   .exact(show s.heap.IsList d is from x).at kd
   .obtain⟨o,e,r⟩:=(show s.heap.IsTuple d is from x)
    exact⟨o,kd o e,r⟩
  have ka1:∀o,s.heap.get? a=Fk o->h'.get? a=Fk o:=λo e=>kp a o (B4 I s1 fz) (B4 I s1 ft) (B4 I s1 f1) (B4 I s1 f2) e
  have kb1:∀o,s.heap.get? b=Fk o->h'.get? b=Fk o:=λo e=>kp b o (B4 I s2 fz) (B4 I s2 ft) (B4 I s2 f1) (B4 I s2 f2) e
  refine⟨.ref s.heap.objs.size,upd H s.heap.objs.size (.tup [x,y]),?_,rfl,⟨_,x,y,fr,rfl,λzs hz=>by rw[I.UP hz s1];exact e1,λzs hz=>by rw[I.UP hz s2];exact e2,rfl⟩,⟨oz',(sb.2 _ N.n1).trans (kp ti _ N.n1 N.n5 N.n6 N.n7 st.oi),⟨_,_,(sb.2 _ N.n2).trans ot'⟩,(q1.jit (sq p1 ka1)).at λo e=>(sb.2 _ N.n3).trans e,(q2.jit (sq p2 kb1)).at λo e=>(sb.2 _ N.n4).trans e⟩,?_⟩
  .show Inv X pins σ _ {s with heap:=g,gens:=s.gens,drawn:=s.drawn,toks:=s.toks}
   refine I.step (g':=s.gens) (d':=s.drawn) (ch:=[z,tt,j1,j2]) ?_ ?_ ?_ ?_ ?_ ?_ ?_ ?_ ?_ ?_ I.bare
   .intro c hc
    have q:TQ X pins H c:=hf c (by simp only[uI,uX,vV]at hc ⊢; rcases hc with z|z|z|z<;>simp[z])
    exact⟨q.2.2.2.1,q.2.1,q.2.2.2.2.1,q.2.2.2.2.2⟩
   .exact λc o _ _ hc q _=>by
     simp only[uI,uX,vV,AAt]at hc
     exact kp2 c o hc.1 hc.2.1 hc.2.2.1 hc.2.2.2 q
   .exact λc o _ _ hc q _=>by
     simp only[uI,uX,vV,AAt]at hc
     exact⟨o.slots,kp2 c o hc.1 hc.2.1 hc.2.2.1 hc.2.2.2 q⟩
   .exact λc o _ q n=>by rw[Am (lt c o q)];exact n
   .exact λc o hc q=>by
     simp only[uI,uX,vV,AAt]at hc
     exact⟨o,kp2 c o hc.1 hc.2.1 hc.2.2.1 hc.2.2.2 q⟩
   .exact λc ys q=>by rw[Am (Br q fr)];exact q
   .exact λc o u q=>by rw[Am (Br q fr)];exact q
   .exact λc ps q=>⟨#[],by rw[Am (Br q fr),q];simp⟩
   .rintro mm ⟨o,es,ep,ho,r⟩
    exact⟨o,es,ep,kp2 _ o (wI fz.2.1) (wI ft.2.1) (wI f1.2.1) (wI f2.2.1) ho,r⟩
   .intro c v q
    by_cases hb:c=s.heap.objs.size
    .subst hb
     rw[Bf]at q
     cases q
     exact⟨by show 2<=sizeLine;decide,[u1,u2],.cons ru1 (.cons ru2 .nil),⟨_,op2,rfl,0,rfl⟩⟩
    .rw[Am hb]at q
     refine(I.hok c v q).Ym (λd o hd r=>?_) (λd r=>by rw[Am (Br r fr)];exact r) (λd ys r=>by rw[Am (Br r fr)];exact r)
     rcases hd with e|e
     .rw[e]at r ⊢; exact kpH c v q o r
     .exact kpH d _ e o r
  .intro c hc
   have q:=hf c hc
   have:c≠s.heap.objs.size:=by
    simp only[uI,uX,vV]at hc
    rcases hc with e|e|e|e|e
    .rw[e];exact nz
    .rw[e];exact lt _ _ st.oi
    .rw[e];exact nt
    .rw[e];exact n1
    .rw[e];exact n2
   rw[Am this];exact q.1
 done:=by
  intro X hP hw hK hc i pins s σ H E I hf st hg
  subst hP hw hK
  obtain⟨xs,ys,s1,s2,e⟩:=hg
  obtain⟨i1,r1,p1⟩:=I.sqB s1
  obtain⟨i2,r2,p2⟩:=I.sqB s2
  have l1:=r1.length
  have l2:=r2.length
  have hh:X.A.in1.handled=none:=I.ok.hd hc
  have hh0:X.A.handled=none:=I.ok.hd hc
  have fz:=hf z (by simp);have fi:=hf ti (by simp);have ft:=hf tt (by simp);have f1:=hf j1 (by simp);have f2:=hf j2 (by simp)
  have ap:=N.apart (a:=a) (b:=b) (by simp[B4 I s1 fz,B4 I s1 ft,B4 I s1 f1,B4 I s1 f2]) (by simp[B4 I s2 fz,B4 I s2 ft,B4 I s2 f1,B4 I s2 f2])
  obtain⟨v1,v2,ot⟩:=st.ot
  refine YN hh0 ap st.oz st.oi ot (st.q1.sit p1) (st.q2.sit p2) (by rcases e with e|e;exact .inl (by simp;lia);exact .inr (by simp;lia)) λh' kp=>⟨rfl,?_⟩
  have ne:∀c u,c∈ [z,ti,tt,j1,j2]->∀d,H d=Fk u->d≠c:=λc u hc d q e=>by rw[e,(hf c hc).1]at q;cases q
  show Inv X pins σ _ {s with heap:=h',gens:=s.gens,drawn:=s.drawn,toks:=s.toks}
  refine I.step (g':=s.gens) (d':=s.drawn) (ch:=[z,tt,j1,j2]) ?_ ?_ ?_ ?_ ?_ ?_ ?_ ?_ ?_ ?_ I.bare
  .intro c hc
   have q:TQ X pins H c:=hf c (by simp only[uI,uX,vV]at hc ⊢; rcases hc with z|z|z|z<;>simp[z])
   exact⟨q.2.2.2.1,q.2.1,q.2.2.2.2.1,q.2.2.2.2.2⟩
  .exact λc o _ _ hc q _=>by
    simp only[uI,uX,vV,AAt]at hc
    exact kp c o hc.1 hc.2.1 hc.2.2.1 hc.2.2.2 q
  .exact λc o _ _ hc q _=>by
    simp only[uI,uX,vV,AAt]at hc
    exact⟨o.slots,kp c o hc.1 hc.2.1 hc.2.2.1 hc.2.2.2 q⟩
  .exact λc o _ q n=>n
  .exact λc o hc q=>by
    simp only[uI,uX,vV,AAt]at hc
    exact⟨o,kp c o hc.1 hc.2.1 hc.2.2.1 hc.2.2.2 q⟩
  .exact λc ys q=>q
  .exact λc o u q=>q
  .exact λc ps q=>⟨#[],by rw[q];simp⟩
  .rintro mm ⟨o,es,ep,ho,r⟩
   exact⟨o,es,ep,kp _ o (wI fz.2.1) (wI ft.2.1) (wI f1.2.1) (wI f2.2.1) ho,r⟩
  .intro c v q
   refine(I.hok c v q).Ym (λd o hd r=>?_) (λd r=>r) (λd ys r=>r)
   rcases hd with e|e
   .rw[e]at r ⊢; exact kp c o (ne z v (by simp) c q) (ne tt v (by simp) c q) (ne j1 v (by simp) c q) (ne j2 v (by simp) c q) r
   .exact kp d o (ne z _ (by simp) d e) (ne tt _ (by simp) d e) (ne j1 _ (by simp) d e) (ne j2 _ (by simp) d e) r
 self:=λ_ _ _ _ _ st h=>wpAny_pyIter_zip st.oz h
end L2
end
noncomputable section
namespace L2
open PySem PySem.Spec PyProof.Rows
theorem zne(n:Nat):ZNe (n+4) (n+2) (n+3) n (n+1):=⟨λe=>by have:n+2=n+4:=e;lia,λe=>by have:n+3=n+4:=e;lia,λe=>by have:n=n+4:=e;lia,λe=>by have:n+1=n+4:=e;lia,λe=>by have:n+2=n+3:=e;lia,λe=>by have:n+2=n:=e;lia,λe=>by have:n+2=n+1:=e;lia,λe=>by have:n+3=n:=e;lia,λe=>by have:n+3=n+1:=e;lia,λe=>by have:n=n+1:=e;lia⟩
section
variable{X:Cx}
noncomputable def rJ(K:KE)(ta:TA):TI:=λσ H R=>ta σ H λvs H1=>∃k a m b,vs=[.ref a,.ref b]/\(∃xs,SqB K H1 k a xs)/\(∃ys,SqB K H1 m b ys)/\R (Itz K k a m b) H1
theorem kN{a b:uh}{ta:TA}{p pos tp:Pos}{elts:Gc uh}{n:Nat}(hg:Gl X "zip")(hm:X.mg "zip"=uC)(ha:PA X [a,b] ta)(hs:ue [a,b] X.env=[(false,eval a X.env),(false,eval b X.env)]:=by rfl)(hs2:ue [b] X.env=[(false,eval b X.env)]:=by rfl):PI X (.Tuple elts n tp) (.Call (.Name "zip" p) [a,b] [] pos) (rJ X.K ta):=by
 intro pins s σ H R I h
 refine Call_ (Mr I hg hm boot_zip (wL (thn (ha pos pins s σ H _ I h) λus s1 ⟨vs,H1,I1,r1,q1⟩=>?_) (by rw[hs,hs2]) (by rw[hs2];rfl)))
 obtain⟨k,a',m,b',e,⟨xs,hq⟩,⟨ys,hr⟩,q⟩:=q1
 subst e
 obtain⟨u,v,rfl,ru,rv⟩:=r1.two
 cases (show u=va a' from ru)
 cases (show v=va b' from rv)
 obtain⟨i1,v1,p1⟩:=I1.sqB hq
 obtain⟨i2,v2,p2⟩:=I1.sqB hr
 refine Wc p1 p2 λh' oz oi ot q1 q2 kp=>wpAny_pyIter_zip (s:={s1 with heap:=h'}) oz ?_
 have sq:∀{q:vE} {d:uF} {is:vQ Wp},Pc s1.heap q d is->Pc h' q d is:=λ{q d is} x=>by
  cases q
  .exact(show s1.heap.IsList d is from x).at λo e=>kp _ o e
  .obtain⟨o,e,r⟩:=(show s1.heap.IsTuple d is from x)
   exact⟨o,kp _ o e,r⟩
 refine⟨s1.heap.objs.size+4,[s1.heap.objs.size+4,s1.heap.objs.size+2,s1.heap.objs.size+3,s1.heap.objs.size,s1.heap.objs.size+1],_,_,H1,rfl,I1.kept (t':=s1.toks) kp,
  ZN k a' m b' _ _ _ _ _ (zne s1.heap.objs.size),⟨oz,oi,⟨_,_,ot⟩,q1.jit (sq p1),q2.jit (sq p2)⟩,λc hc=>?_,q⟩
 simp only[uI,uX,vV]at hc
 have:s1.heap.objs.size<=c:=by rcases hc with rfl|rfl|rfl|rfl|rfl<;>first|exact uN _|exact Nat.le_add_right _ _
 exact I1.fW this (I1.hok.fresh this)
end
end L2
end
noncomputable section
namespace L2
open PySem PySem.Spec PyProof.Rows
section
variable{prog:ug}{w:vG}{A:vF}{E:Wp->uE->Prop}{s:uE}
theorem IsList.VI{h h':ux}{a:uF}{items:vQ Wp}(p:h.IsList a items)(k:∀o,h.get? a=Fk o->h'.get? a=Fk o):h'.IsList a items:=by
 obtain⟨o,ho,r⟩:=p
 exact⟨o,k o ho,r⟩
theorem Rr{it t:uF}{items:vQ Wp}(hne:t≠it):∀(n i:Nat) (s:uE) (Q:Gc Wp->uE->Prop),s.heap.IsListIter it t i->s.heap.IsList t items->i+n<=items.size->(∀h',h'.IsListIter it t (i+n)->yU it s.heap h'->Q ((items.toList.drop i).take n) {s with heap:=h'})->wpAny (model prog w) A (draw (.ref it) n) Q E s
 |0,i,s,Q,hit,_,_,hQ=>by
  show wpAny _ _ (pure []) Q E s
  exact uR (by simpa using hQ s.heap hit (Heap.SameBut.refl ..))
 |n+1,i,s,Q,hit,ht,hle,hQ=>by
  have hlt:i<items.size:=by lia
  show wpAny _ _ (pyNext (.ref it) >>= _) Q E s
  refine tz (yV hit ht (x:=items[i]) (by simp[hlt]) λh1 hit1 hs1=>?_)
  refine tz (wM (Rr hne n (i+1) _ _ hit1 (IsList.VI ht λo e=>hs1.extBut t o hne e) (by lia) λh2 hit2 hs2=>uR ?_))
  have hd:items.toList.drop i=items[i]::items.toList.drop (i+1):=by simp[uy,hlt]
  have:=hQ h2 (by rw[show i+(n+1)=i+1+n by lia];exact hit2) (hs1.trans hs2)
  rw[hd,List.take_succ_cons]at this
  exact this
theorem NX{t:uF}{items:vQ Wp}{Q:Gc Wp->uE->Prop}(hh:A.handled=uC)(ht:s.heap.IsList t items)(hty:s.TypeIs (.ref t) "list")(hQ:∀h',zk s.heap.objs.size s.heap h'->Q items.toList {s with heap:=h'}):wpAny (model prog w) A (unpackItems (.ref t) items.size uC) Q E s:=by
 have hlt:t≠s.heap.objs.size:=by obtain⟨o,ho,_⟩:=ht;exact vB (uZ ho)
 unfold unpackItems
 refine tz ?_
 .unfold notIterableAtAll
  refine tz (wpAny_specialOf hty F.slot_list_iter.lookup ?_)
  refine uR ?_
  simp only[ABP,zP]
  refine tz (wM (wN ht ?_))
  refine tz (wM (Rr hlt items.size 0 _ _ ⟨_,uf _ rfl,rfl,rfl⟩ (IsList.VI ht λo e=>uB _ e) (by lia) λh1 hit1 hs1=>?_))
  have hall:List.take items.size (List.drop 0 items.toList)=items.toList:=by
   rw[List.drop_zero];exact yc (by simp)
  rw[hall]
  rw[vH (by simp)]
  have ht1:h1.IsList t items:=IsList.VI (IsList.VI ht λo e=>uB _ e) λo e=>hs1.extBut t o hlt e
  refine tz (wM (ym hh hit1 ht1 (by simp) λh2 he2=>?_))
  simp only[Option.isSome_none,ABP,zP]
  refine uR (hQ h2 λb o hb e=>he2 b o hb (hs1.extBut b o hb (uB _ e)))
theorem Mf{env:Env}{elts:Gc uh}{x1}{pos:Pos}{t:uF}{items:vQ Wp}{Q:Unit->uE->Prop}(hh:A.handled=uC)(ht:s.heap.IsList t items)(hty:s.TypeIs (.ref t) "list")(hn:(assignEach elts env).length=items.size)(hstar:(assignEach elts env).findIdx? (·.1)=uC)(h:∀h',zk s.heap.objs.size s.heap h'->wpAny (model prog w) A (assignInOrder ((assignEach elts env).map (·.2)) items.toList) Q E {s with heap:=h'}):wpAny (model prog w) A (assign (.Tuple elts x1 pos) env (.ref t)) Q E s:=by
 rw[PyProof.Rows.assign_Tuple]
 refine tz (yH ?_)
 unfold unpack
 rw[hn,hstar]
 exact tz (wM (NX hh ht hty h))
end
section
variable{X:Cx}{pos:Pos}
noncomputable def tE(K:KE)(n:Nat)(t:TGs):TG:=λv σ H Q=>∃a xs,v=.ref a/\(SqT K H a xs\/H a=Fk (.lst xs))/\xs.length=n/\t xs σ H Q
theorem iW{es:Gc uh}{k:Nat}{t:TGs}{n:Nat}(hc:X.calm=true)(h:PGs X es t)(hn:(assignEach es X.env).length=n:=by rfl)(hst:(assignEach es X.env).findIdx? (·.1)=none:=by rfl):PG X (.Tuple es k pos) (tE X.K n t):=by
 intro pins s σ H v u Q I r hw
 obtain⟨a,xs,e1,hq,hl,hw⟩:=hw
 rcases hq with hq|hq
 .exact jY hc h hn hst pins s σ H v u Q I r ⟨a,xs,e1,hq,hl,hw⟩
 .subst e1
  cases r
  obtain⟨its,rv,p,hz⟩:=I.list (SqL.of hq)
  obtain⟨z,its2,m,rv2,_,e⟩:=I.c8 hq
  refine Mf (I.ok.hd hc) p.isList ⟨_,e,rfl⟩ (by simp[hn,<-hl,rv.length]) hst λh' hx=>?_
  have I1:Inv X pins σ H {s with heap:=h'}:=I.kept (t':=s.toks) λb o e=>hx b o (vB (uZ e)) e
  exact h pins _ σ H xs _ Q I1 (by simpa using rv) hw
end
end L2
end
noncomputable section
namespace L2
open PySem PySem.Spec PyProof.Rows
theorem JIt.live{h:ux}{k:vE}{j l:uF}{i:Nat}(q:JIt h k j l i):∃o,h.get? j=Fk o/\∀v,o.data≠.cell v:=by
 cases k with
 |true=>obtain⟨o,e,c,d⟩:=q;exact⟨o,e,λv z=>by rw[d]at z;cases z⟩
 |false=>obtain⟨o,e,c,d⟩:=q;exact⟨o,e,λv z=>by rw[d]at z;cases z⟩
theorem Pc.mono{h h':ux}{k:vE}{l:uF}{its:vQ Wp}(q:Pc h k l its)(e:∀o,h.get? l=Fk o->h'.get? l=Fk o):Pc h' k l its:=by
 cases k with
 |true=>obtain⟨o,ho,r⟩:=q;exact⟨o,e o ho,r⟩
 |false=>obtain⟨o,ho,r⟩:=q;exact⟨o,e o ho,r⟩
theorem Xz{prog:ug}{w:vG}{A:vF}(hh:A.handled=uC)(it t:uF)(hne:t≠it)(items:vQ Wp):Draws prog w A it [it,t] items.size (λi v=>items[i]?=Fk v) (λi h=>SIt h it t i items) where
 live:=λ_ _ st=>let⟨o,ho,_⟩:=st.live;⟨o,ho⟩
 frame:=λ_ _ _ st hk=>st.at (λo e=>hk it (by simp) o e) λo e=>hk t (by simp) o e
 item:=λi s Q E hi st hQ=>Na st (x:=items[i]) (by simp[hi]) λh' a b=>hQ _ h' s.toks (by simp[hi]) a b
 done:=λs Q E st hE=>Nq hh st (by simp) hE
noncomputable def ItE(K:KE)(kk:vE)(a:uF):It:=
 ⟨λi H=>∃xs x,SqB K H kk a xs/\xs[i]?=Fk x,λi H x H'=>∃p y,H p=uC/\x=.ref p/\(∀xs,SqB K H kk a xs->xs[i]?=Fk y)/\H'=upd H p (.tup [.int i,y]),λi H=>∃xs,SqB K H kk a xs/\xs.length<=i⟩
theorem V6{P:ug}{w:vG}{K:KE}{elts:Gc uh}{k:Nat}{pos:Pos}(kk:vE)(a e it:uF)(hei:e≠it):Turn P w K (.Tuple elts k pos) (ItE K kk a) [e,it] e (λi h=>(∃old,IsEnum h e it i old)/\JIt h kk it a i) where
 mem:=by simp
 obj:=λi h st b hb=>by
  obtain⟨⟨old,h1⟩,st2⟩:=st
  obtain⟨o,h2,h4⟩:=st2.live
  simp only[uI,uX,vV]at hb
  rcases hb with rfl|rfl
  .exact⟨_,h1,λv z=>nomatch z⟩
  .exact⟨o,h2,h4⟩
 keep:=λi h h' st k=>by
  obtain⟨⟨old,h1⟩,h2⟩:=st
  exact⟨⟨old,k e (by simp) _ h1⟩,h2.at λo q=>k it (by simp) o q⟩
 item:=by
  intro X hP hw hK hc i pins s σ H E I hf st hg
  subst hP hw hK
  obtain⟨xs,x,hq,hx⟩:=hg
  obtain⟨its,rv,p⟩:=I.sqB hq
  obtain⟨u,hu,ru⟩:=rv.get hx
  obtain⟨⟨old,h1⟩,h2⟩:=st
  obtain⟨oi,hi1,hi2⟩:=h2.live
  have hea:a≠e:=B4 I hq (hf e (by simp))
  have hia:a≠it:=B4 I hq (hf it (by simp))
  have hil:i<its.toArray.size:=by
   have:=(uL.mp hu).1
   simpa using this
  have hh:X.A.in1.handled=none:=I.ok.hd hc
  have D:=Xz (prog:=X.prog) (w:=X.w) hh it a hia its.toArray
  refine wpAny_pyNext_enum_itemD D h1 (h2.sit p) hil hei (by simp[hei,wI hea]) ?_
  intro y h' tk hy out st' tup size kept
  have ey:y=u:=by
   have:its[i]?=Fk y:=by simpa using hy
   rw[hu]at this
   exact(vY this).symm
  subst ey
  refine⟨_,rfl,wpAny_letOwnedTupleGo_enum out λh'' en sb=>?_⟩
  have hfe:=hf e (by simp)
  have hfi:=hf it (by simp)
  have lt:∀b o,s.heap.get? b=Fk o->b≠s.heap.objs.size:=λb o q=>vB (uZ q)
  have kept2:∀b o,b≠e->b≠it->s.heap.get? b=Fk o->h''.get? b=Fk o:=λb o b1 b2 q=>(sb.2 b b1).trans (kept b o b1 b2 q)
  have fr:H s.heap.objs.size=none:=I.hok.fresh (uN _)
  have tup2:h''.get? s.heap.objs.size=Fk {cls:=.type "tuple",data:=.seq #[.int i tk,y]}:=(sb.2 _ (wI (lt e _ h1))).trans tup
  have ne1:∀b u,H b=Fk u->b≠e:=λb u q z=>by rw[z,hfe.1]at q;cases q
  have ne2:∀b u,H b=Fk u->b≠it:=λb u q z=>by rw[z,hfi.1]at q;cases q
  refine⟨.ref s.heap.objs.size,upd H s.heap.objs.size (.tup [.int i,x]),?_,rfl,⟨_,x,fr,rfl,λys hys=>by rw[I.UP hys hq];exact hx,rfl⟩,⟨⟨y,en⟩,?_⟩,?_⟩
  .show Inv X pins σ _ {s with heap:=h'',gens:=s.gens,drawn:=s.drawn,toks:=tk+1}
   refine I.step (g':=s.gens) (d':=s.drawn) (ch:=[e,it]) ?_ ?_ ?_ ?_ ?_ ?_ ?_ ?_ ?_ ?_ I.bare
   .intro b hb
    simp only[uI,uX,vV]at hb
    rcases hb with rfl|rfl
    .exact⟨hfe.2.2.2.1,hfe.2.1,hfe.2.2.2.2.1,hfe.2.2.2.2.2⟩
    .exact⟨hfi.2.2.2.1,hfi.2.1,hfi.2.2.2.2.1,hfi.2.2.2.2.2⟩
   .exact λb o _ _ hc q _=>kept2 b o (λz=>hc (by simp[z])) (λz=>hc (by simp[z])) q
   .exact λb o _ _ hc q _=>⟨o.slots,kept2 b o (λz=>hc (by simp[z])) (λz=>hc (by simp[z])) q⟩
   .exact λb o _ q n=>by rw[Am (lt b o q)];exact n
   .exact λb o hc q=>⟨o,kept2 b o (λz=>hc (by simp[z])) (λz=>hc (by simp[z])) q⟩
   .exact λb ys q=>by rw[Am (Br q fr)];exact q
   .exact λb o u q=>by rw[Am (Br q fr)];exact q
   .exact λb ps q=>⟨#[],by rw[Am (Br q fr),q];simp⟩
   .rintro m ⟨o,es,ep,ho,r⟩
    exact⟨o,es,ep,kept2 _ o (wI hfe.2.1) (wI hfi.2.1) ho,r⟩
   .intro b v q
    by_cases hb:b=s.heap.objs.size
    .subst hb
     rw[Bf]at q
     cases q
     exact⟨by show 2<=sizeLine;decide,[.int i tk,y],.cons ⟨tk,rfl⟩ (.cons ru .nil),⟨_,tup2,rfl,0,rfl⟩⟩
    .rw[Am hb]at q
     refine(I.hok b v q).Ym (λc z hc r=>kept2 c z ?_ ?_ r) (λc r=>by rw[Am (Br r fr)];exact r) (λc ys r=>by rw[Am (Br r fr)];exact r)
     .rcases hc with z|z
      .rw[z];exact ne1 b v q
      .exact ne1 c _ z
     .rcases hc with z|z
      .rw[z];exact ne2 b v q
      .exact ne2 c _ z
  .have pa:Pc h'' kk a its.toArray:=p.mono λo q=>kept2 a o hea hia q
   exact(st'.at (λo q=>(sb.2 it (wI hei)).trans q) λo q=>(sb.2 a hea).trans q).jit pa
  .intro b hb
   simp only[uI,uX,vV]at hb
   rcases hb with rfl|rfl
   .rw[Am (lt b _ h1)];exact hfe.1
   .rw[Am (lt b _ hi1)];exact hfi.1
 done:=by
  intro X hP hw hK hc i pins s σ H E I hf st hg
  subst hP hw hK
  obtain⟨xs,hq,hx⟩:=hg
  obtain⟨its,rv,p⟩:=I.sqB hq
  obtain⟨⟨old,h1⟩,h2⟩:=st
  have hl:=rv.length
  have hh:X.A.in1.handled=none:=I.ok.hd hc
  obtain⟨f0,f1,f2,f3,f4,f5⟩:=hf it (by simp)
  have D:Draws X.prog X.w X.A.in1 it [it,a] i (λ_ _=>True) (λj h=>j=i/\SIt h it a i its.toArray):=
   {live:=λ_ _ st=>let⟨o,ho,_⟩:=st.2.live;⟨o,ho⟩
    frame:=λ_ _ _ st hk=>⟨st.1,st.2.at (λo e=>hk it (by simp) o e) λo e=>hk a (by simp) o e⟩
    item:=λj s Q E hj st _=>absurd st.1 (vB hj)
    done:=λs Q E st hE=>Nq hh st.2 (by simp;lia) hE}
  exact wpAny_pyNext_enum_endD D h1 ⟨rfl,h2.sit p⟩ λh' eb=>⟨rfl,I.turned (t':=s.toks) (λb o hb q=>eb b o hb q) f0 f1 f3 f4 f5⟩
 self:=λ_ _ _ _ _ st h=>by
  obtain⟨⟨old,h1⟩,_⟩:=st
  exact wpAny_pyIter_enum h1 h
section
variable{X:Cx}
noncomputable def jo(K:KE)(ta:TA):TI:=λσ H R=>ta σ H λvs H1=>∃kk a,vs=[.ref a]/\(∃xs,SqB K H1 kk a xs)/\R (ItE K kk a) H1
theorem aa{a:uh}{ta:TA}{p pos tp:Pos}{elts:Gc uh}{k:Nat}(hg:Gl X "enumerate")(hm:X.mg "enumerate"=uC)(ha:PA X [a] ta)(hs:ue [a] X.env=[(false,eval a X.env)]:=by rfl):PI X (.Tuple elts k tp) (.Call (.Name "enumerate" p) [a] [] pos) (jo X.K ta):=by
 intro pins s σ H R I h
 refine Call_ (Mr I hg hm boot_enumerate (callWith_type1 (thn (ha pos pins s σ H _ I h) λus s1 ⟨vs,H1,I1,r1,q1⟩=>?_) hs rfl))
 obtain⟨kk,b,e,⟨xs,hq⟩,q⟩:=q1
 subst e
 obtain⟨u,rfl,ru⟩:=r1.one
 cases (show u=va b from ru)
 obtain⟨its,rv,pt⟩:=I1.sqB hq
 have fin:∀h':ux,IsEnum h' (s1.heap.objs.size+1) s1.heap.objs.size 0 .none->JIt h' kk s1.heap.objs.size b 0->(∀b o,s1.heap.get? b=Fk o->h'.get? b=Fk o)->wpAny (model X.prog X.w) X.A (pyIter (.ref (s1.heap.objs.size+1))) (PIE X pins σ (.Tuple elts k tp) R) X.xe {s1 with heap:=h'}:=λh' en it kp=>by
  refine wpAny_pyIter_enum (s:={s1 with heap:=h'}) en ?_
  refine⟨s1.heap.objs.size+1,[s1.heap.objs.size+1,s1.heap.objs.size],_,_,H1,rfl,I1.kept (t':=s1.toks) kp,V6 kk b (s1.heap.objs.size+1) s1.heap.objs.size (Nat.succ_ne_self _),⟨⟨_,en⟩,it⟩,λc hc=>?_,q⟩
  simp only[uI,uX,vV]at hc
  rcases hc with rfl|rfl
  .exact I1.fW (by lia) (I1.hok.fresh (by lia))
  .exact I1.fW (uN _) (I1.hok.fresh (uN _))
 cases kk with
 |true=>exact V5 (show s1.heap.IsTuple b its.toArray from pt) λh' en it kp=>fin h' en it kp
 |false=>exact call_enumerate_list (show s1.heap.IsList b its.toArray from pt) λh' en it _ kp=>fin h' en it kp
end
end L2
end
noncomputable section
namespace L2
open PySem PySem.Spec PyProof.Rows PySem.SeqAt
open AutoSeq1 (wpAny_loadPart')
open MeetsSeq
abbrev O1(dt:zV)(dd:uD uF)(sl:vQ (uD Wp)):Obj:={cls:=.type "dict",dict:=dd,data:=dt,slots:=sl}
theorem SU(l:uF)(dt:zV)(dd:uD uF)(sl:vQ (uD Wp))(b:Int)(u:Tok):Meets (xr.«dict.__eq__» ⟨[.ref l,.int b u],[]⟩) (λ_ R s=>s.heap.get? l=Fk (O1 dt dd sl)/\R (.ok (.ret .notImplemented)) s):=
 .of_wp λprog w A R s h=>by obtain⟨hp,g,d,tk,os⟩:=s;obtain⟨hl,h⟩:=h;have f1:=F.sub_int_dict;wp_walk using wpAny_loadPart' hl;exact⟨_,rfl,h⟩
theorem Mm(T:xA)(l b:uF)(dt:zV)(dd:uD uF)(sl:vQ (uD Wp))(ob:Obj)(hT:ob.cls=.type T)(hs:isSubtype (.type T) (.type "dict")=pure false):Meets (xr.«dict.__eq__» ⟨[.ref l,.ref b],[]⟩) (λ_ R s=>s.heap.get? l=Fk (O1 dt dd sl)/\s.heap.get? b=Fk ob/\R (.ok (.ret .notImplemented)) s):=
 .of_wp λprog w A R s h=>by
  obtain⟨hp,g,d,tk,os⟩:=s;obtain⟨hl,hb,h⟩:=h
  obtain⟨oc,od,odt,osl⟩:=ob
  simp only at hT
  subst hT
  wp_walk using wpAny_loadPart' hl,wpAny_loadPart' hb
  exact⟨_,rfl,h⟩
theorem TC(b:Int)(u:Tok)(l:uF)(dt:zV)(dd:uD uF)(sl:vQ (uD Wp)):Meets (xr.«int.__eq__» ⟨[.int b u,.ref l],[]⟩) (λ_ R s=>s.heap.get? l=Fk (O1 dt dd sl)/\(∃es ep,dt=.dict es ep)/\R (.ok (.ret .notImplemented)) s):=
 .of_wp λprog w A R s h=>by
  obtain⟨hp,g,d,tk,os⟩:=s;obtain⟨hl,⟨es,ep,rfl⟩,h⟩:=h
  wp_walk using wpAny_loadPart' hl,wpAny_load hl
  exact⟨_,rfl,h⟩
theorem Qn(l b:uF)(items:vQ Wp)(n:Nat)(dd:uD uF)(sl:vQ (uD Wp))(dt:zV)(dd2:uD uF)(sl2:vQ (uD Wp)):Meets (xr.«list.__eq__» ⟨[.ref l,.ref b],[]⟩) (λ_ R s=>s.heap.get? l=Fk {cls:=.type "list",dict:=dd,data:=.seq items n,slots:=sl}/\s.heap.get? b=Fk (O1 dt dd2 sl2)/\R (.ok (.ret .notImplemented)) s):=
 .of_wp λprog w A R s h=>by obtain⟨hp,g,d,tk,os⟩:=s;obtain⟨hl,hb,h⟩:=h;have f1:=F.sub_dict_list;wp_walk using wpAny_loadPart' hl,wpAny_loadPart' hb;exact⟨_,rfl,h⟩
theorem Pd(l b:uF)(items:vQ Wp)(n:Nat)(dd:uD uF)(sl:vQ (uD Wp))(dt:zV)(dd2:uD uF)(sl2:vQ (uD Wp)):Meets (xr.«tuple.__eq__» ⟨[.ref l,.ref b],[]⟩) (λ_ R s=>s.heap.get? l=Fk {cls:=.type "tuple",dict:=dd,data:=.seq items n,slots:=sl}/\s.heap.get? b=Fk (O1 dt dd2 sl2)/\R (.ok (.ret .notImplemented)) s):=
 .of_wp λprog w A R s h=>by obtain⟨hp,g,d,tk,os⟩:=s;obtain⟨hl,hb,h⟩:=h;have f1:=F.sub_dict_tuple;wp_walk using wpAny_loadPart' hl,wpAny_loadPart' hb;exact⟨_,rfl,h⟩
section
variable{A:vF}{s:uE}{l:uF}{es:vQ DictEntry}{ep:Nat}{dd:uD uF}{sl:vQ (uD Wp)}
theorem UN(b:Int)(u:Tok)(ho:s.heap.get? l=Fk (O1 (.dict es ep) dd sl))(hu:A.units<cLine):RcAt A s (.ref l) (.int b u) false:=λprog w E Q h=>
 z8 (k:=false) ⟨_,ho,rfl⟩ (xv s b u) (by decide) F.sub_int_dict xy ABQ
  (λ_ hq=>wu xy ⟨_,ho,rfl⟩ AAY (z9 _ _) (SU l _ dd sl b u) ⟨ho,hq⟩)
  (λ_ hq=>wu ABQ (xv s b u) F.entry_int_eq (F.args_int_eq_2 _ _) (TC b u l _ dd sl) ⟨ho,⟨_,_,rfl⟩,hq⟩)
  (λ_ hq=>wpAny_of_eq (rfl:isSame (.ref l) (.int b u)=pure false) hq) (.inr hu) h
theorem R7{b:uF}{items:vQ Wp}(ho:s.heap.get? l=Fk (O1 (.dict es ep) dd sl))(hb:s.heap.IsList b items)(hu:A.units<cLine):RcAt A s (.ref l) (.ref b) false:=λprog w E Q h=>by
 obtain⟨⟨cls,dd2,data,sl2⟩,ho2,hc,n,hd⟩:=id hb
 simp only at hc hd
 subst hc hd
 have hne:l≠b:=λe=>by subst e;rw[ho]at ho2;exact absurd (congrArg Obj.cls (vY ho2)) (by simp[O1])
 exact z8 (k:=false) ⟨_,ho,rfl⟩ ⟨_,ho2,rfl⟩ (by decide) F.sub_list_dict xy ABA
  (λ_ hq=>wu xy ⟨_,ho,rfl⟩ AAY (z9 _ _) (Mm "list" l b _ dd sl _ rfl F.sub_list_dict) ⟨ho,ho2,hq⟩)
  (λ_ hq=>wu ABA ⟨_,ho2,rfl⟩ F.entry_list_eq (F.args_list_eq_2 _ _) (Qn b l items n dd2 sl2 _ dd sl) ⟨ho2,ho,hq⟩)
  (λ_ hq=>wpAny_isSame_ref_other' hne ho ho2 (by simp) hq) (.inr hu) h
theorem Q4{b:uF}{items:vQ Wp}(ho:s.heap.get? l=Fk (O1 (.dict es ep) dd sl))(hb:s.heap.IsTuple b items)(hu:A.units<cLine):RcAt A s (.ref l) (.ref b) false:=λprog w E Q h=>by
 obtain⟨⟨cls,dd2,data,sl2⟩,ho2,hc,n,hd⟩:=id hb
 simp only at hc hd
 subst hc hd
 have hne:l≠b:=λe=>by subst e;rw[ho]at ho2;exact absurd (congrArg Obj.cls (vY ho2)) (by simp[O1])
 exact z8 (k:=false) ⟨_,ho,rfl⟩ ⟨_,ho2,rfl⟩ (by decide) F.sub_tuple_dict xy AAu
  (λ_ hq=>wu xy ⟨_,ho,rfl⟩ AAY (z9 _ _) (Mm "tuple" l b _ dd sl _ rfl F.sub_tuple_dict) ⟨ho,ho2,hq⟩)
  (λ_ hq=>wu AAu ⟨_,ho2,rfl⟩ F.entry_tuple_eq (F.args_tuple_eq_2 _ _) (Pd b l items n dd2 sl2 _ dd sl) ⟨ho2,ho,hq⟩)
  (λ_ hq=>wpAny_isSame_ref_other hne ho ho2 (by simp) hq) (.inr hu) h
end
end L2
end
noncomputable section
namespace St
open PySem PySem.Spec L2 PyProof.Rows
inductive Kd where
 |non|bl|int|str|tup|lst|dct
 deriving DecidableEq
noncomputable def Kd.ty:Kd->xA
 | .non=>"NoneType" | .bl=>"bool" | .int=>"int" | .str=>"str" | .tup=>"tuple" | .lst=>"list" | .dct=>"dict"
noncomputable def Kd.isA:Kd->xA->vE
 | .bl,"bool"=>true| .bl,"int"=>true| .int,"int"=>true| .str,"str"=>true| .tup,"tuple"=>true| .lst,"list"=>true| .dct,"dict"=>true
 |_,_=>false
section
variable{K:KE}
theorem eW(k:Kd):xB K (.type k.ty) (.type "int")=Fk (k.isA "int"):=by
 cases k<;>first|rfl|(unfold xB;rfl)
theorem ZO(k:Kd):xB K (.type k.ty) (.type "bool")=Fk (k.isA "bool"):=by
 cases k<;>rfl
theorem kit_tuple(k:Kd):xB K (.type k.ty) (.type "tuple")=Fk (k.isA "tuple"):=by
 cases k<;>rfl
theorem eQ(k:Kd):xB K (.type k.ty) (.type "str")=Fk (k.isA "str"):=by
 cases k<;>rfl
end
structure Dfn(P:ug)(w:vG)(K:KE)(mg:Str->uD Wp)(base:ux)(x:Str)(k:Nat)(ps:Gc Str)(sp:Sp):Prop where
 ex:∃f fd,mg x=Fk (.ref f)/\we K (.ref f)=true/\Binds K fd ps []/\Up P w K mg base CX0 k f fd ps sp
structure Src(K:KE)(mg:Str->uD Wp)(x:Str)(st:vC):Prop where
 ex:∃f fd,Fun K x x st f fd/\mg x=Fk (.ref f)
theorem pb{X:Cx}{k:Nat}{x:Str}{ps:Gc Str}{sp:Sp}{e:uh}{es:Gc uh}{t:TA}{p pos:Pos}(d:Dfn X.prog X.w X.K X.mg X.base x k ps sp)(hr:Hu k X.A)(hg:Gl X x)(ha:PA X (e::es) t)(hdb:(x==("__debug__":Str))=false:=by decide)(he:ue (e::es) X.env=(false,eval e X.env)::ue es X.env:=by rfl)(hpl:(backTo pos (ue es X.env)).any (·.1)=false:=by rfl):PE X (.Call (.Name x p) (e::es) [] pos) (dY sp [] E0 t):=by
 obtain⟨f,fd,a,b,c,F⟩:=d.ex
 exact gh F hr hg a b c .nil pN ha hdb he hpl
section
variable{X:Cx}
theorem dw{n:Nat}(h:n<2^8000):n.log2<9000:=by
 by_cases h0:n=0
 .subst h0;decide
 .exact Nat.lt_trans ((Nat.log2_lt h0).mpr h) (by decide)
theorem ao:OpR X (binaryOp .FloorDiv) (rI (λ_ j=>0<j/\j.natAbs<2^8000) λi j=>.int (i / j)):=opI λi j _ _ _ _ _ hc q=>by
 have h1:(0:Int)<j:=hc.1
 exact floordiv_int (by lia) (by rw[Int.fdiv_eq_ediv_of_nonneg i (by lia)];exact q) (.inl (PyProof.noPylong_of_log2 (dw hc.2)))
theorem QK{prog:ug}{w:vG}{A:vF}(hh:A.handled=uC){a it:uF}(hne:a≠it){vs:Gc Wp}:Walks prog w A it [it,a] [it] vs.length (λi v=>vs[i]?=Fk v) (λi h=>h.IsListIter it a i/\h.IsList a vs.toArray) where
 sub:=λb hb=>by simp at hb;simp[hb]
 frame:=λi h h' st k=>⟨st.1.at λo e=>k it (by simp) o e,by
  obtain⟨o,ho,r⟩:=st.2
  exact⟨o,k a (by simp) o ho,r⟩⟩
 item:=λi s Q E hi st hQ=>by
  refine yV st.1 st.2 (x:=vs[i]) (by simp[hi]) λh' st' sb=>?_
  refine hQ _ h' s.toks (by simp[hi]) ⟨st',?_⟩ λb o hb e=>(sb.2 b (by simpa using hb)).trans e
  obtain⟨o,ho,r⟩:=st.2
  exact⟨o,(sb.2 a hne).trans ho,r⟩
 done:=λs Q E st hQ=>ym hh st.1 st.2 (by simp) λh' eb=>hQ h' s.toks λb o hb e=>eb b o (by simpa using hb) e
 self:=λi s Q E st hQ=>AAd st.1 hQ
theorem Xq(hc:X.calm=true):Fe X (.builtin "all") (λxs H Q=>∃(p:uF) (bs:Gc vE),xs=[.ref p]/\SqL X.K H p (bs.map V.bl)/\Q (.bl (bs.all id)) H):=by
 intro pins s σ H xs us Q I r h
 obtain⟨p,bs,rfl,hp,q⟩:=h
 obtain⟨u,rfl,ru⟩:=r.one
 cases (show u=va p from ru)
 obtain⟨its,rv,pl,hz⟩:=I.list hp
 have hd:X.A.in1.handled=none:=I.ok.hd hc
 refine call_all_walk (wN pl.isList ?_)
 have hlen:bs.length=its.length:=by have:=rv.length;simpa using this
 have hpl:=pl.isList
 have hne:p≠s.heap.objs.size:=by
  obtain⟨o,ho,_⟩:=hpl
  exact vB (uZ ho)
 refine⟨s.heap.objs.size,_,_,its.length,_,_,λi=>bs.getD i true,rfl,QK (vs:=its) hd hne,⟨⟨_,uf _ rfl,rfl,rfl⟩,?_⟩,?_,?_⟩
 .obtain⟨o,ho,r⟩:=hpl
  exact⟨o,uB _ ho,r⟩
 .intro i v s' Q' E' hv hq
  have hi:i<its.length:=(uL.mp hv).1
  have hb:(bs.map V.bl)[i]?=Fk (.bl (bs.getD i true)):=by
   rw[uQ,W1 (by lia)]
   simp[uM,W1 (show i<bs.length by lia)]
  obtain⟨u,hu,ru⟩:=rv.get hb
  rw[hv]at hu
  cases hu
  cases (show v=AAD _ from ru)
  exact xo hq
 .intro h' tk hk
  have e:(uU its.length).all (λi=>bs.getD i true)=bs.all id:=by
   rw[<-hlen]
   clear q hp rv hlen
   have:∀(l:Gc vE),(uU l.length).all (λi=>l.getD i true)=l.all id:=by
    intro l
    induction l with
    |nil=>rfl
    |cons b l ih=>
     rw[vJ,AAN,wy,AAO,wy,<-ih]
     rfl
   exact this bs
  rw[e]
  exact⟨.bl _,H,I.kept (t':=tk) λb o eb=>hk b o (by simp;exact vB (uZ eb)) (uB _ eb),rfl,q⟩
theorem aw{ns:Gc Int}{j:Nat}(h:j<ns.length):(ns.take (j+1)).sum=(ns.take j).sum+ns.getD j 0:=by
 have e:ns.getD j 0=ns[j]:=by simp[uM,W1 h]
 rw[List.take_succ,W1 h,List.sum_append,e]
 show _+(ns[j]+0)=_
 lia
theorem Od{ns:Gc Int}:∀{j:Nat},j<=ns.length->preSum (λi=>ns.getD i 0) j=(ns.take j).sum
 |0,_=>by simp[preSum]
 |j+1,h=>by
  rw[preSum,Od (by lia),aw (by lia)]
theorem WV{ns:Gc Int}(h:∀n∈ns,0<=n/\n<=1000000):0<=ns.sum/\ns.sum<=1000000*ns.length:=by
 induction ns with
 |nil=>simp
 |cons a l ih=>
  have h1:=h a (by simp)
  have h2:=ih λn hn=>h n (by simp[hn])
  rw[wZ,vJ]
  have:((l.length+1:Nat):Int)=(l.length:Int)+1:=by lia
  lia
end
section
variable{prog:ug}{w:vG}{A:vF}{E:Wp->uE->Prop}{s:uE}
theorem MR{t sl:uF}{items:vQ Wp}{vl vu:Wp}{lo hi:uD Int}{Q:Wp->uE->Prop}(ht:IsTup s.heap t items)(hs:s.heap.IsSliceOf sl vl vu .none)(pl:AAI vl lo)(pu:AAI vu hi)(hw:HT.sIx items.size 0 lo=0/\HT.sIx items.size items.size hi=items.size)(h:Q (.ref t) s):wpAny (model prog w) A (getItem (.ref t) (.ref sl)) Q E s:=by
 obtain⟨os,hos,hcs,hds⟩:=id hs
 have hTs:s.TypeIs (.ref sl) "slice":=⟨os,hos,hcs⟩
 unfold getItem
 try with_reducible refine wM ?_
 first|refine tz (uR ?_)|skip
 refine tz (zg ht.typeIs (by decide) ?_)
 refine tz (vq (name:=vk "__getitem__") ht.typeIs uw
  (wK uw ht.typeIs y9 ?_ (zR _ _)))
 show wpAny _ _ (xu (.ref t) >>= _) _ _ s
 refine tz (ABG ht ?_)
 refine tz (AAJ hTs ?_)
 rw[vD (by decide)]
 refine tz (HT.Jh hs pl pu ?_)
 show wpAny _ _ (if(((HT.sIx items.size 0 lo:Nat):Int)==0 && (1:Int)==1 && (HT.sIx items.size items.size hi-HT.sIx items.size 0 lo)==items.size)=true then _ else _) _ _ s
 rw[vD (by rw[hw.1,hw.2];simp)]
 unfold Builtin.Tuple.tupleIsExact
 refine tz (tz (AAJ ht.typeIs (uR ?_)))
 rw[vD (by decide)]
 exact tz (AAF (uR ⟨_,rfl,uR h⟩))
theorem NW{sl:uF}{u:Tok}{n:Nat}{Q:Int×Int×Nat->uE->Prop}(hs:s.heap.IsSliceOf sl .none .none (.int (-1) u))(h:Q ((n:Int)-1,-1,n) s):wpAny (model prog w) A (xC (.ref sl) (pure (n:Int))) Q E s:=by
 obtain⟨os,hos,hcs,hds⟩:=id hs
 unfold xC zc
 refine tz (tz (wD hos hds (x:=.none) rfl (tz (wD hos hds (x:=.none) rfl (tz (wD hos hds (x:=.int (-1) u) rfl (uR ?_)))))))
 refine tz (slicePart_int ?_)
 show wpAny _ _ (if((-1:Int)==0)=true then _ else _) _ _ s
 rw[vH (by decide)]
 refine tz (zQ (tz (zQ (tz (uR ?_)))))
 show wpAny _ _ (match v5 uC uC (-1) (n:Int)with|(lo,hi)=>pure (lo,(-1:Int),vb lo hi (-1))) _ _ s
 have e:v5 uC uC (-1) (n:Int)=((n:Int)-1,-1):=by
  unfold v5
  have h1:((-1:Int)<0):=by decide
  simp only[h1,ya]
 rw[e]
 have e2:vb ((n:Int)-1) (-1) (-1)=n:=by
  unfold vb
  have h1:¬((-1:Int)>0):=by decide
  simp only[h1,zP]
  by_cases h0:n=0
  .subst h0;rfl
  .rw[vD (by lia)]
   have:(-(-1):Int)=1:=rfl
   rw[this,Int.ediv_one]
   lia
 show wpAny _ _ (pure ((n:Int)-1,(-1:Int),vb ((n:Int)-1) (-1) (-1))) _ _ s
 rw[e2]
 exact uR h
noncomputable def Qf(n:Nat)(k:Nat):Nat:=((n:Int)-1+(k:Int)*(-1)).toNat
theorem Mc{t sl:uF}{items:vQ Wp}{u:Tok}{Q:Wp->uE->Prop}(ht:IsTup s.heap t items)(hs:s.heap.IsSliceOf sl .none .none (.int (-1) u))(hz:items.size<=sizeLine)(h:Q (.ref s.heap.objs.size) {s with heap:=s.heap.push {cls:=.type "tuple",data:=.seq ((uU items.size).filterMap λk=>items[Qf items.size k]?).toArray}}):wpAny (model prog w) A (getItem (.ref t) (.ref sl)) Q E s:=by
 obtain⟨os,hos,hcs,hds⟩:=id hs
 have hTs:s.TypeIs (.ref sl) "slice":=⟨os,hos,hcs⟩
 have htake:sizeOk (.seq ((uU items.size).filterMap λk=>items[Qf items.size k]?).toArray):=by
  show((uU items.size).filterMap λk=>items[Qf items.size k]?).toArray.size<=sizeLine
  rw[uV]
  refine uO (yK _ _) ?_
  rw[yd]
  exact hz
 unfold getItem
 try with_reducible refine wM ?_
 first|refine tz (uR ?_)|skip
 refine tz (zg ht.typeIs (by decide) ?_)
 refine tz (vq (name:=vk "__getitem__") ht.typeIs uw
  (wK uw ht.typeIs y9 ?_ (zR _ _)))
 show wpAny _ _ (xu (.ref t) >>= _) _ _ s
 refine tz (ABG ht ?_)
 refine tz (AAJ hTs ?_)
 rw[vD (by decide)]
 refine tz (NW hs ?_)
 show wpAny _ _ (if(((items.size:Int)-1)==0 && (-1:Int)==1 && items.size==items.size)=true then _ else _) _ _ s
 rw[vH (by rw[show((-1:Int)==1)=false from rfl,AAp,AAl];decide)]
 first
  |exact tz (m:=ve _) (vp (uR ⟨_,rfl,uR h⟩) htake)
  |exact tz (m:=ve _) (vp (tz (uR (uR ⟨_,rfl,uR h⟩))) htake)
  |exact tz (tz (m:=ve _) (vp (uR (uR ⟨_,rfl,uR h⟩)) htake))
  |exact tz (tz (m:=ve _) (vp (uR ⟨_,rfl,uR h⟩) htake))
end
section
variable{X:Cx}
def rM(K:KE):V->uD Int->uD Int->Hp->VK->Prop:=λx lo hi H Q=>∃a xs,x=.ref a/\SqT K H a xs/\HT.sIx xs.length 0 lo=0/\HT.sIx xs.length xs.length hi=xs.length/\Q x H
theorem kX:SlR X (rM X.K):=by
 intro pins s σ H x v vl vu lo hi sl Q I rx hs pl pu h
 obtain⟨a,xs,rfl,hx,h1,h2,q⟩:=h
 cases rx
 obtain⟨its,r,ht,hz⟩:=I.tuple hx
 have hlen:its.toArray.size=xs.length:=by rw[uV];exact r.length.symm
 refine⟨"tuple",_,uw.lookup,ht.typeIs,?_⟩
 exact MR ht hs pl pu (by rw[hlen];exact⟨h1,h2⟩) ⟨.ref a,H,I,rfl,q⟩
noncomputable def nI(K:KE):R2:=λx y H Q=>∃a b ys,x=.ref a/\y=.ref b/\SqT K H a []/\SqT K H b ys/\Q (.ref b) H
theorem fe:OpR X (binaryOp .Add) (nI X.K):=by
 intro pins s σ H x y v u Q I rx ry h
 obtain⟨a,b,ys,rfl,rfl,ha,hb,q⟩:=h
 cases rx
 cases ry
 obtain⟨its,r1,p1,_⟩:=I.tuple ha
 obtain⟨its2,r2,p2,_⟩:=I.tuple hb
 have e0:its=[]:=r1.Qx.mpr rfl
 subst e0
 obtain⟨⟨cls,dd,data,sl⟩,ho,hc,n,hd⟩:=id p1
 obtain⟨⟨cls2,dd2,data2,sl2⟩,ho2,hc2,n2,hd2⟩:=id p2
 simp only at hc hd hc2 hd2
 subst hc hd hc2 hd2
 exact concat_meets ⟨_,ho,rfl⟩ ⟨_,ho2,rfl⟩ zy ABF yZ yS (yI _ _)
  (tuple_addW0 a b #[] its2.toArray n n2 dd dd2 sl sl2 rfl) ⟨ho,ho2,⟨.ref b,H,I,rfl,q⟩⟩
theorem Vals.pick{xs:Gc V}{us:Gc Wp}(r:Vals xs us)(f:Nat->Nat):∀ks:Gc Nat,Vals (ks.filterMap λk=>xs[f k]?) (ks.filterMap λk=>us[f k]?)
 | []=>.nil
 |k::ks=>by
  have ih:=Vals.pick r f ks
  rw[ur,ur]
  cases e:xs[f k]? with
  |none=>rw[r.none_of e];exact ih
  |some x=>
   obtain⟨u,hu,ru⟩:=r.get e
   rw[hu]
   exact .cons ru ih
end
end St
end
noncomputable section
namespace Mi
open PySem PySem.Spec L2
inductive D where
 |non|bl (b:vE)|int (i:Int)|str (x:Str)|ty (n:xA)|tup (ds:Gc D)|lst (ds:Gc D)|dct (kvs:Gc (Key×D))|scr (ns:Gc Int)|ref (n:Nat)
inductive Wv where
 |val (d:D)|own (ds:Gc D)
inductive Cl where
 |lst (ds:Gc D)|dct (kvs:Gc (Key×D))|tab (x:Str)
abbrev Sto:=Gc Cl
structure Ms where
 cel:Gc uF
 tmp:Gc uF
def Ms.mem(M:Ms)(a:uF):Prop:=a∈M.cel\/a∈M.tmp
noncomputable def Ms.no:Ms:=⟨[],[]⟩
def KL(K:KE)(a:uF)(xs:Gc V):Prop:=∃(o:Obj) (its:vQ Wp) (n:Nat),K.lookup a=Fk o/\o.cls=.type "list" /\o.dict=uC/\o.data=.seq its n/\its.size<=sizeLine/\Vals xs its.toList
mutual
inductive EJ(K:KE)(M:Ms)(H:Hp):V->D->Prop
 |non:EJ K M H .non .non
 |bl (b:vE):EJ K M H (.bl b) (.bl b)
 |int (i:Int):EJ K M H (.int i) (.int i)
 |str (x:Str):EJ K M H (.str x) (.str x)
 |ty (n:xA):EJ K M H (.ty n) (.ty n)
 |tup {a:uF} {xs:Gc V} {ds:Gc D} (h:SqT K H a xs) (r:A1 K M H xs ds):EJ K M H (.ref a) (.tup ds)
 |lst {a:uF} {xs:Gc V} {ds:Gc D} (h:H a=Fk (.lst xs)) (n:¬M.mem a) (r:A1 K M H xs ds):EJ K M H (.ref a) (.lst ds)
 |scr {a:uF} {ns:Gc Int} (h:(Rd H a (.lst (ns.map V.int))/\¬M.mem a)\/KL K a (ns.map V.int)):EJ K M H (.ref a) (.scr ns)
 |dct {a:uF} {kvs:Gc (Key×V)} {es:Gc (Key×D)} (h:H a=Fk (.dK kvs)) (n:¬M.mem a) (r:Dk K M H kvs es):EJ K M H (.ref a) (.dct es)
 |ref {a:uF} {n:Nat} (h:M.cel[n]?=Fk a):EJ K M H (.ref a) (.ref n)
inductive A1(K:KE)(M:Ms)(H:Hp):Gc V->Gc D->Prop
 |nil:A1 K M H [] []
 |cons {v:V} {d:D} {vs:Gc V} {ds:Gc D} (h:EJ K M H v d) (t:A1 K M H vs ds):A1 K M H (v::vs) (d::ds)
inductive Dk(K:KE)(M:Ms)(H:Hp):Gc (Key×V)->Gc (Key×D)->Prop
 |nil:Dk K M H [] []
 |cons {k:Key} {v:V} {d:D} {vs:Gc (Key×V)} {ds:Gc (Key×D)} (h:EJ K M H v d) (t:Dk K M H vs ds):Dk K M H ((k,v)::vs) ((k,d)::ds)
end
def MOk(M:Ms)(H:Hp):Prop:=∀a,M.mem a->(∃xs,H a=Fk (.lst xs))\/(∃kvs,H a=Fk (.dK kvs))\/∃ps,H a=Fk (.tbl ps)
structure Sp1(M:Ms)(H:Hp)(M':Ms)(H':Hp):Prop where
 mo:MOk M H
 pre:M.cel <+: M'.cel
 fresh:∀a,M'.mem a->M.mem a\/H a=uC
 keep:∀a o,H a=Fk o->¬M.mem a->H' a=Fk o
structure Gr(M:Ms)(H:Hp)(M':Ms)(H':Hp):Prop where
 mo:MOk M H
 pre:M.cel <+: M'.cel
 tmp:M'.tmp=M.tmp
 fresh:∀a,a∈M'.cel->a∈M.cel\/H a=uC
 keep:∀a o,H a=Fk o->a∉M.cel->H' a=Fk o
 some:∀a,H a≠uC->H' a≠uC
section
variable{K:KE}{M M' M2:Ms}{H H' H2:Hp}
theorem MOk.some(mo:MOk M H){a:uF}(h:M.mem a):H a≠none:=λz=>by
 rcases mo a h with⟨xs,e⟩|⟨xs,e⟩|⟨xs,e⟩<;>(rw[e]at z;cases z)
theorem Gr.st(g:Gr M H M' H'):Sp1 M H M' H':=⟨g.mo,g.pre,λa z=>z.elim (λz=>(g.fresh a z).imp .inl id) λz=>.inl (.inr (by rw[<-g.tmp];exact z)),λa o e n=>g.keep a o e λz=>n (.inl z)⟩
theorem Gr.refl(mo:MOk M H):Gr M H M H:=⟨mo,vg,rfl,λ_ z=>.inl z,λ_ _ e _=>e,λ_ e=>e⟩
theorem Gr.none(g:Gr M H M' H'){a:uF}(h:H' a=uC):H a=none:=by
 cases e:H a with
 |none=>rfl
 |some o=>exact absurd h (g.some a (by rw[e];intro z;cases z))
theorem Gr.trans(h:Gr M H M' H')(g:Gr M' H' M2 H2):Gr M H M2 H2:=
 ⟨h.mo,h.pre.trans g.pre,g.tmp.trans h.tmp,λa z=>(g.fresh a z).elim (h.fresh a) λz=>.inr (h.none z),λa o e n=>g.keep a o (h.keep a o e n) (λz=>by
   rcases h.fresh a z with z|z
   .exact n z
   .rw[e]at z;cases z),λa e=>g.some a (h.some a e)⟩
theorem Gr.grow(mo:MOk M H)(k:∀a o,H a=Fk o->H' a=Fk o):Gr M H M H':=
 ⟨mo,vg,rfl,λ_ z=>.inl z,λb u eb _=>k b u eb,λb eb z=>by
   cases h:H b with
   |none=>exact eb h
   |some o=>rw[k b o h]at z;cases z⟩
theorem Qr{α:Type}{xs ys:Gc α}(h:xs <+: ys){n:Nat}{a:α}(e:xs[n]?=Fk a):ys[n]?=Fk a:=by
 obtain⟨zs,rfl⟩:=h
 rw[uH (uL.mp e).1]
 exact e
theorem aE{a:uF}{xs:Gc V}(h:SqT K H a xs)(k:∀b o,H b=Fk o->(∀ys,o≠.lst ys)->(∀ys,o≠.dK ys)->(∀ys,o≠.tbl ys)->H' b=Fk o):SqT K H' a xs:=by
 rcases h with h|h
 .rcases h with h|⟨o,h⟩
  .exact .inl (.inl (k _ _ h (λys z=>by cases z) (λys z=>by cases z) λys z=>by cases z))
  .exact .inl (.inr ⟨o,k _ _ h (λys z=>by cases z) (λys z=>by cases z) λys z=>by cases z⟩)
 .exact .inr h
theorem Sp1.sqT(g:Sp1 M H M' H'){a:uF}{xs:Gc V}(h:SqT K H a xs):SqT K H' a xs:=aE h λb o e n1 n2 n3=>g.keep b o e λz=>by
 rcases g.mo b z with⟨ys,q⟩|⟨ys,q⟩|⟨ys,q⟩
 .exact n1 ys (vY (e.symm.trans q))
 .exact n2 ys (vY (e.symm.trans q))
 .exact n3 ys (vY (e.symm.trans q))
theorem Sp1.nm(g:Sp1 M H M' H'){a:uF}{o:HO}(e:H a=Fk o)(n:¬M.mem a):¬M'.mem a:=λz=>by
 rcases g.fresh _ z with z|z
 .exact n z
 .rw[z]at e;cases e
mutual
theorem EJ.step(g:Sp1 M H M' H'):∀{v:V} {d:D},EJ K M H v d->EJ K M' H' v d
 |_,_,.non=>.non
 |_,_,.bl b=>.bl b
 |_,_,.int b=>.int b
 |_,_,.str b=>.str b
 |_,_,.ty b=>.ty b
 |_,_,.tup h r=>.tup (g.sqT h) (A1.step g r)
 |_,_,.lst (a:=a) (xs:=xs) h n r=>.lst (g.keep _ _ h n) (g.nm h n) (A1.step g r)
 |_,_,.scr (a:=a) (ns:=ns) h=>by
  rcases h with⟨h,n⟩|h
  .rcases h with h|⟨o,h⟩
   .exact .scr (.inl ⟨.inl (g.keep _ _ h n),g.nm h n⟩)
   .exact .scr (.inl ⟨.inr ⟨o,g.keep _ _ h n⟩,g.nm h n⟩)
  .exact .scr (.inr h)
 |_,_,.dct (a:=a) h n r=>.dct (g.keep _ _ h n) (g.nm h n) (Dk.step g r)
 |_,_,.ref h=>.ref (Qr g.pre h)
theorem A1.step(g:Sp1 M H M' H'):∀{v:Gc V} {d:Gc D},A1 K M H v d->A1 K M' H' v d
 |_,_,.nil=>.nil
 |_,_,.cons h t=>.cons (EJ.step g h) (A1.step g t)
theorem Dk.step(g:Sp1 M H M' H'):∀{v:Gc (Key×V)} {d:Gc (Key×D)},Dk K M H v d->Dk K M' H' v d
 |_,_,.nil=>.nil
 |_,_,.cons h t=>.cons (EJ.step g h) (Dk.step g t)
end
theorem A1.length:∀{v:Gc V} {d:Gc D},A1 K M H v d->v.length=d.length
 |_,_,.nil=>rfl
 |_,_,.cons _ t=>by simp[A1.length t]
theorem A1.get:∀{v:Gc V} {d:Gc D} {i:Nat} {y:D},A1 K M H v d->d[i]?=Fk y->∃x,v[i]?=Fk x/\EJ K M H x y
 |_,_,i,y,.nil,e=>by simp at e
 |_,_,0,y,.cons h t,e=>by simp at e;subst e;exact⟨_,rfl,h⟩
 |_,_,i+1,y,.cons h t,e=>by
  obtain⟨x,h1,h2⟩:=A1.get (i:=i) t (by simpa using e)
  exact⟨x,by simpa using h1,h2⟩
theorem A1.append:∀{v v':Gc V} {d d':Gc D},A1 K M H v d->A1 K M H v' d'->A1 K M H (v++v') (d++d')
 |_,_,_,_,.nil,s=>s
 |_,_,_,_,.cons h t,s=>.cons h (A1.append t s)
theorem A1.take:∀{v:Gc V} {d:Gc D} (n:Nat),A1 K M H v d->A1 K M H (v.take n) (d.take n)
 |_,_,0,_=>.nil
 |_,_,_+1,.nil=>.nil
 |_,_,n+1,.cons h t=>.cons h (A1.take n t)
theorem A1.drop:∀{v:Gc V} {d:Gc D} (n:Nat),A1 K M H v d->A1 K M H (v.drop n) (d.drop n)
 |_,_,0,r=>r
 |_,_,_+1,.nil=>.nil
 |_,_,n+1,.cons _ t=>A1.drop n t
theorem A1.set{x:V}{y:D}(r:EJ K M H x y):∀{v:Gc V} {d:Gc D} (i:Nat),A1 K M H v d->A1 K M H (v.set i x) (d.set i y)
 |_,_,_,.nil=>.nil
 |_,_,0,.cons _ t=>.cons r t
 |_,_,i+1,.cons q t=>.cons q (A1.set r i t)
end
abbrev En:=Gc (uD D)
abbrev Sg:=Gc (uD V)
structure EnR(K:KE)(M:Ms)(E:En)(σ:Sg)(H:Hp):Prop where
 len:E.length=σ.length
 val:∀(i:Nat) (d:D),E[i]?=Fk (Fk d)->∃v,σ[i]?=Fk (Fk v)/\EJ K M H v d
noncomputable def PH(x:Str):Str:=(x++(".<locals>.":Str))++("<lambda>":Str)
def MS(K:KE)(c P:uF):Prop:=
 ∃o vs file tf flags tg inF text tt,K.lookup c=Fk o/\o.cls=AAE "code" /\o.data=Data.fields vs/\vs[11]?=Fk (va P)/\vs.getD 11 vo=va P/\vs.getD 18 vo=zv file tf/\vs.getD 7 vo=zG flags tg/\vs.getD 9 vo=AAD inF/\vs.getD 10 vo=zG text tt/\c≠P
def TabAt(K:KE)(x:Str)(P:uF):Prop:=
 ∃f oc od fd osl c,wO K mainGlobals x=Fk (Fk (va f))/\K.lookup f=Fk ⟨oc,od,Data.func fd,osl⟩/\fd.code=va c/\MS K c P
def XU(q:Str)(o:Obj):Prop:=∃vs t,o.data=Data.fields vs/\vs[1]?=Fk (zv q t)
structure Vu(K:KE)(H:Hp)(x:Str)(P:uF)(ps:vQ Wp):Prop where
 tri:PySem.TriplesOk ps.toList
 tat:TabAt K x P
 cod:∀pos cv,PySem.codeAmong pos ps.toList=Fk cv->∃c o,cv=va c/\H c=Fk (.frz o (.own 0))/\XU (PH x) o
theorem Vu.step{x:Str}{P:uF}{ps:vQ Wp}{K:KE}{M M':Ms}{H H':Hp}(t:Vu K H x P ps)(g:Sp1 M H M' H'):Vu K H' x P ps:=⟨t.tri,t.tat,λpos cv e=>by
 obtain⟨c,o,h1,h2,h3⟩:=t.cod pos cv e
 refine⟨c,o,h1,g.keep _ _ h2 λz=>?_,h3⟩
 rcases g.mo c z with⟨ys,q⟩|⟨ys,q⟩|⟨ys,q⟩<;>(rw[h2]at q;cases q)⟩
def eM(K:KE)(M:Ms)(H:Hp)(a:uF):Cl->Prop
 | .lst ds=>∃xs,H a=Fk (.lst xs)/\A1 K M H xs ds
 | .dct es=>∃kvs,H a=Fk (.dK kvs)/\Dk K M H kvs es
 | .tab x=>∃ps,H a=Fk (.tbl ps)/\Vu K H x a ps
structure StR(K:KE)(M:Ms)(S:Sto)(H:Hp):Prop where
 mo:MOk M H
 nd:M.cel.Nodup
 nt:∀a∈M.tmp,a∉M.cel
 len:M.cel.length=S.length
 cell:∀(n:Nat) (a:uF) (c:Cl),M.cel[n]?=Fk a->S[n]?=Fk c->eM K M H a c
section
variable{K:KE}{M M' M2:Ms}{H H' H2:Hp}{E:En}{σ:Sg}{S:Sto}
theorem EnR.step(r:EnR K M E σ H)(g:Sp1 M H M' H'):EnR K M' E σ H':=⟨r.len,λi d e=>by
 obtain⟨v,h1,h2⟩:=r.val i d e
 exact⟨v,h1,h2.step g⟩⟩
theorem StR.at(r:StR K M S H){n:Nat}{c:Cl}(e:S[n]?=Fk c):∃a,M.cel[n]?=Fk a/\eM K M H a c:=by
 have hn:n<M.cel.length:=by rw[r.len];exact(uL.mp e).1
 exact⟨_,W1 hn,r.cell n _ c (W1 hn) e⟩
theorem StR.grow(r:StR K M S H)(k:∀a o,H a=Fk o->H' a=Fk o):StR K M S H':=by
 have g:Sp1 M H M H':=⟨r.mo,vg,λ_ z=>.inl z,λa o e _=>k a o e⟩
 refine⟨λa z=>(r.mo a z).imp (λ⟨xs,e⟩=>⟨xs,k _ _ e⟩) (Or.imp (λ⟨xs,e⟩=>⟨xs,k _ _ e⟩) λ⟨xs,e⟩=>⟨xs,k _ _ e⟩),r.nd,r.nt,r.len,λn a c h1 h2=>?_⟩
 have q:=r.cell n a c h1 h2
 cases c with
 |lst ds=>obtain⟨xs,e,rr⟩:=q;exact⟨xs,k _ _ e,rr.step g⟩
 |dct ds=>obtain⟨xs,e,rr⟩:=q;exact⟨xs,k _ _ e,rr.step g⟩
 |tab ds=>obtain⟨xs,e,rr⟩:=q;exact⟨xs,k _ _ e,rr.step g⟩
theorem StR.chg(r:StR K M S H){n:Nat}{a:uF}{ds es:Gc D}{ys:Gc V}(h1:M.cel[n]?=Fk a)(h2:S[n]?=Fk (.lst ds))(hy:A1 K M H ys es):StR K M (S.set n (.lst es)) (upd H a (.lst ys))/\Gr M H M (upd H a (.lst ys)):=by
 have ha:a∈M.cel:=uY h1
 have hl:n<S.length:=(uL.mp h2).1
 have g:Gr M H M (upd H a (.lst ys)):=⟨r.mo,vg,rfl,λ_ z=>.inl z,λb o eb nb=>by rw[Am (λz=>nb (by rw[z];exact ha))];exact eb,λb eb=>by
  by_cases h:b=a
  .subst h;rw[Bf];intro z;cases z
  .rw[Am h];exact eb⟩
 refine⟨⟨λb z=>?_,r.nd,r.nt,by rw[wt];exact r.len,λm b c e1 e2=>?_⟩,g⟩
 .by_cases h:b=a
  .subst h;exact .inl ⟨ys,Bf⟩
  .rw[Am h];exact r.mo b z
 .by_cases h:n=m
  .subst h
   rw[h1]at e1;cases e1
   rw[uS hl]at e2;cases e2
   exact⟨ys,Bf,hy.step g.st⟩
  .rw[uK h]at e2
   have hb:b≠a:=λz=>by
    subst z
    exact h ((ye (uL.mp h1).1 r.nd).mp (h1.trans e1.symm))
   have q:=r.cell m b c e1 e2
   cases c with
   |lst fs=>obtain⟨xs,e,rr⟩:=q;exact⟨xs,by rw[Am hb];exact e,rr.step g.st⟩
   |dct fs=>obtain⟨xs,e,rr⟩:=q;exact⟨xs,by rw[Am hb];exact e,rr.step g.st⟩
   |tab fs=>obtain⟨xs,e,rr⟩:=q;exact⟨xs,by rw[Am hb];exact e,rr.step g.st⟩
theorem StR.eF(r:StR K M S H){a:uF}{xs:Gc V}{ds:Gc D}(e:H a=uC)(k:∀b o,H b=Fk o->H' b=Fk o)(ea:H' a=Fk (.lst xs))(rr:A1 K M H xs ds):StR K ⟨M.cel++[a],M.tmp⟩ (S++[.lst ds]) H'/\Gr M H ⟨M.cel++[a],M.tmp⟩ H':=by
 have g:Gr M H ⟨M.cel++[a],M.tmp⟩ H':=⟨r.mo,xh _ _,rfl,λb z=>by
  rcases ub.mp z with z|z
  .exact .inl z
  .simp at z;subst z;exact .inr e,λb o eb _=>k b o eb,λb eb z=>by
  cases h:H b with
  |none=>exact eb h
  |some o=>rw[k b o h]at z;cases z⟩
 have na:¬M.mem a:=λz=>r.mo.some z e
 refine⟨⟨λb z=>?_,?_,λb hb z=>?_,by simp[r.len],λm b c e1 e2=>?_⟩,g⟩
 .have z':M.mem b\/b=a:=by
   rcases z with z|z
   .rcases ub.mp z with z|z
    .exact .inl (.inl z)
    .simp at z;exact .inr z
   .exact .inl (.inr z)
  rcases z' with z|z
  .exact(r.mo b z).imp (λ⟨xs,e⟩=>⟨xs,k _ _ e⟩) (Or.imp (λ⟨xs,e⟩=>⟨xs,k _ _ e⟩) λ⟨xs,e⟩=>⟨xs,k _ _ e⟩)
  .subst z;exact .inl ⟨xs,ea⟩
 .rw[yf]
  refine⟨r.nd,by simp,λx hx y hy=>?_⟩
  simp at hy;subst hy
  exact λz=>na (.inl (by rw[<-z];exact hx))
 .rcases ub.mp z with z|z
  .exact r.nt b hb z
  .simp at z;subst z;exact na (.inr hb)
 .by_cases h:m<S.length
  .rw[uH (by rw[r.len];exact h)]at e1
   rw[uH h]at e2
   have q:=r.cell m b c e1 e2
   cases c with
   |lst fs=>obtain⟨xs,e,rr⟩:=q;exact⟨xs,k _ _ e,rr.step g.st⟩
   |dct fs=>obtain⟨xs,e,rr⟩:=q;exact⟨xs,k _ _ e,rr.step g.st⟩
   |tab fs=>obtain⟨xs,e,rr⟩:=q;exact⟨xs,k _ _ e,rr.step g.st⟩
  .have hm:m=S.length:=by
    have:=(uL.mp e2).1
    simp at this;lia
   subst hm
   rw[vI (by rw[r.len];exact uN _)]at e1
   rw[vI (uN _)]at e2
   rw[r.len]at e1
   simp at e1 e2
   subst e1 e2
   exact⟨xs,ea,rr.step g.st⟩
end
abbrev Ev:=En->Sto->uD (D×Sto)
noncomputable def tD(K:KE)(f:Ev):TE:=λσ H Q=>∃M E S d S',f E S=Fk (d,S')/\EnR K M E σ H/\StR K M S H/\∀v H' M',Gr M H M' H'->StR K M' S' H'->EJ K M' H' v d->Q v H'
structure DE(X:Cx)(e:uh)(f:Ev):Prop where
 pe:PE X e (tD X.K f)
theorem CG{X:Cx}{e:uh}{t t':TE}(h:PE X e t)(m:∀σ H Q,t' σ H Q->t σ H Q):PE X e t':=λpins s σ H Q I q=>h pins s σ H Q I (m _ _ _ q)
theorem WS{X:Cx}{e:uh}{t t':TT}(h:PT X e t)(m:∀σ H Q,t' σ H Q->t σ H Q):PT X e t':=λpins s σ H Q I q=>h pins s σ H Q I (m _ _ _ q)
theorem JV{K:KE}{f:Ev}{σ:Sg}{H:Hp}{Q Q':VK}(h:tD K f σ H Q)(m:∀v H',Q v H'->Q' v H'):tD K f σ H Q':=by
 obtain⟨M,E,S,d,S',e,r,st,q⟩:=h
 exact⟨M,E,S,d,S',e,r,st,λv H' M' g s r=>m _ _ (q v H' M' g s r)⟩
theorem BO{α β:Type}{o:uD α}{k:α->uD β}{y:β}(e:o.bind k=Fk y):∃x,o=Fk x/\k x=Fk y:=by
 cases o with
 |none=>cases e
 |some x=>exact⟨x,rfl,e⟩
theorem MZ{α β:Type}{o:uD α}{k:α->β}{y:β}(e:o.map k=Fk y):∃x,o=Fk x/\k x=y:=by
 cases o with
 |none=>cases e
 |some x=>cases e;exact⟨x,rfl,rfl⟩
noncomputable def fz:Wv->D
 | .val d=>d
 | .own ds=>.lst ds
noncomputable def at?(E:En)(i:Nat):uD D:=(E[i]?).join
theorem at?_some{E:En}{i:Nat}{w:D}(h:at? E i=Fk w):E[i]?=Fk (Fk w):=by
 unfold at? at h
 cases e:E[i]? with
 |none=>rw[e]at h;cases h
 |some q=>rw[e]at h;exact congrArg Fk h
noncomputable def evs:Gc Ev->En->Sto->uD (Gc D×Sto)
 | [],_,S=>Fk ([],S)
 |f::fs,E,S=>(f E S).bind λr=>(evs fs E r.2).map λq=>(r.1::q.1,q.2)
noncomputable def tDs(K:KE):Gc Ev->TA
 | []=>qO
 |f::fs=>jG (tD K f) (tDs K fs)
structure DEs(X:Cx)(es:Gc uh)(fs:Gc Ev):Prop where
 pe:PA X es (tDs X.K fs)
theorem AD{X:Cx}:DEs X [] []:=⟨YJ⟩
theorem AA{X:Cx}{e:uh}{es:Gc uh}{f:Ev}{fs:Gc Ev}(h:DE X e f)(t:DEs X es fs)(hs:ue (e::es) X.env=(false,eval e X.env)::ue es X.env:=by rfl):DEs X (e::es) (f::fs):=⟨Qq h.pe t.pe hs⟩
section
variable{K:KE}{M M':Ms}{E:En}{S:Sto}{σ:Sg}{H H':Hp}
theorem Jd:∀{fs:Gc Ev} {M:Ms} {S:Sto} {ds:Gc D} {S':Sto} {H:Hp} {Q:Gc V->Hp->Prop},evs fs E S=Fk (ds,S')->EnR K M E σ H->StR K M S H->(∀vs H' M',Gr M H M' H'->StR K M' S' H'->A1 K M' H' vs ds->Q vs H')->tDs K fs σ H Q
 | [],M,S,ds,S',H,Q,e,r,st,q=>by
   cases e
   exact q [] H M (.refl st.mo) st .nil
 |f::fs,M,S,ds,S',H,Q,e,r,st,q=>by
  obtain⟨⟨d,S1⟩,e1,e⟩:=BO e
  obtain⟨⟨es,S2⟩,e2,e⟩:=MZ e
  cases e
  refine⟨M,E,S,d,S1,e1,r,st,λv H1 M1 g1 st1 d1=>?_⟩
  exact Jd e2 (r.step g1.st) st1 λvs H2 M2 g2 st2 d2=>q _ _ M2 (g1.trans g2) st2 (.cons (d1.step g2.st) d2)
theorem N8:∀{fs:Gc Ev} {S:Sto} {ds:Gc D} {S':Sto},evs fs E S=Fk (ds,S')->ds.length=fs.length
 | [],_,_,_,e=>by cases e;rfl
 |f::fs,S,ds,S',e=>by
  obtain⟨⟨d,S1⟩,e1,e⟩:=BO e
  obtain⟨⟨es,S2⟩,e2,e⟩:=MZ e
  cases e
  simp[N8 e2]
def Sh(K:KE)(M:Ms)(H:Hp)(v:V):Wv->Prop
 | .val d=>EJ K M H v d
 | .own ds=>∃a xs,v=.ref a/\H a=Fk (.lst xs)/\A1 K M H xs ds
inductive Shs(K:KE)(M:Ms)(H:Hp):Gc V->Gc Wv->Prop
 |nil:Shs K M H [] []
 |cons {v:V} {w:Wv} {vs:Gc V} {ws:Gc Wv} (h:Sh K M H v w) (t:Shs K M H vs ws):Shs K M H (v::vs) (w::ws)
noncomputable def dr(S:Sto):D->Wv
 | .ref n=>match S[n]? with
   |some (.lst ds)=>.own ds
   |_=>.val (.ref n)
 |d=>.val d
theorem gi(st:StR K M S H){v:V}{d:D}(h:EJ K M H v d):Sh K M H v (dr S d):=by
 cases h with
 |ref h=>
  rename_i a n
  show Sh K M H (.ref a) (match S[n]? with|some (.lst ds)=>.own ds|_=>.val (.ref n))
  split
  .rename_i ds e
   obtain⟨xs,h1,h2⟩:=st.cell n a _ h e
   exact⟨a,xs,rfl,h1,h2⟩
  .exact .ref h
 |non=>exact .non
 |bl b=>exact .bl b
 |int b=>exact .int b
 |str b=>exact .str b
 |ty b=>exact .ty b
 |tup h r=>exact .tup h r
 |lst h n r=>exact .lst h n r
 |scr h=>exact .scr h
 |dct h n r=>exact .dct h n r
theorem cZ(st:StR K M S H):∀{vs:Gc V} {ds:Gc D},A1 K M H vs ds->Shs K M H vs (ds.map (dr S))
 |_,_,.nil=>.nil
 |_,_,.cons h t=>.cons (gi st h) (cZ st t)
def NwR(K:KE)(M:Ms)(H H':Hp)(v:V):Wv->Prop
 | .val d=>EJ K M H' v d
 | .own ds=>∃a xs,v=.ref a/\H a=uC/\H' a=Fk (.lst xs)/\A1 K M H xs ds
structure Nw(K:KE)(M:Ms)(H H':Hp)(v:V)(w:Wv):Prop where
 grow:∀a o,H a=Fk o->H' a=Fk o
 rel:NwR K M H H' v w
theorem Nw.same{v:V}{d:D}(mo:MOk M H)(h:EJ K M H v d):Nw K M H H v (.val d):=⟨λ_ _ e=>e,h⟩
theorem JU{a:uF}{o:HO}(e:H a=uC):∀b u,H b=Fk u->upd H a o b=Fk u:=λb u eb=>by rw[Am (λz=>by subst z;rw[e]at eb;cases eb)];exact eb
theorem Nw.lst{a:uF}{xs:Gc V}{ds:Gc D}(mo:MOk M H)(e:H a=uC)(h:A1 K M H xs ds):Nw K M H (upd H a (.lst xs)) (.ref a) (.own ds):=⟨JU e,a,xs,rfl,e,Bf,h⟩
theorem Nw.tup{a:uF}{xs:Gc V}{ds:Gc D}(mo:MOk M H)(e:H a=uC)(h:A1 K M H xs ds):Nw K M H (upd H a (.tup xs)) (.ref a) (.val (.tup ds)):=⟨JU e,.tup (.of Bf) (h.step (Gr.grow mo (JU e)).st)⟩
noncomputable def fin:vE->Wv->Sto->uD (D×Sto)
 |_,.val d,S=>Fk (d,S)
 |false,.own ds,S=>Fk (.lst ds,S)
 |true,.own ds,S=>Fk (.ref S.length,S++[.lst ds])
theorem Nw.fin{c:vE}{v:V}{w:Wv}{d:D}{S':Sto}(n:Nw K M H H' v w)(st:StR K M S H)(e:fin c w S=Fk (d,S')):∃M',Gr M H M' H'/\StR K M' S' H'/\EJ K M' H' v d:=by
 cases w with
 |val d'=>
  cases e
  exact⟨M,.grow st.mo n.grow,st.grow n.grow,n.rel⟩
 |own ds=>
  obtain⟨a,xs,rfl,h1,h2,h3⟩:=n.rel
  cases c with
  |false=>
   cases e
   exact⟨M,.grow st.mo n.grow,st.grow n.grow,.lst h2 (λz=>st.mo.some z h1) (h3.step (Gr.grow st.mo n.grow).st)⟩
  |true=>
   cases e
   obtain⟨s1,g1⟩:=st.eF h1 n.grow h2 h3
   refine⟨_,g1,s1,.ref ?_⟩
   rw[<-st.len]
   exact ua
abbrev Op1:=Wv->uD Wv
abbrev Op2:=Wv->Wv->uD Wv
abbrev OpN:=Gc Wv->uD Wv
noncomputable def rOp(K:KE)(op:Op2):R2:=λx y H Q=>∃M w1 w2 r,op w1 w2=Fk r/\MOk M H/\Sh K M H x w1/\Sh K M H y w2/\∀v H',Nw K M H H' v r->Q v H'
def rUn(K:KE)(op:Op1):V->Hp->VK->Prop:=λx H Q=>∃M w r,op w=Fk r/\MOk M H/\Sh K M H x w/\∀v H',Nw K M H H' v r->Q v H'
def rN(K:KE)(op:OpN):Gc V->Hp->VK->Prop:=λxs H Q=>∃M ws r,op ws=Fk r/\MOk M H/\Shs K M H xs ws/\∀v H',Nw K M H H' v r->Q v H'
noncomputable def RT(c:vE)(op:OpN)(fs:Gc Ev):Ev:=λE S=>(evs fs E S).bind λr=>(op (r.1.map (dr r.2))).bind λw=>fin c w r.2
abbrev eOp:=RT false
abbrev gu:=RT true
noncomputable def o1(op:Op1):OpN| [a]=>op a|_=>uC
noncomputable def o2(op:Op2):OpN| [a,b]=>op a b|_=>uC
theorem Py{c:vE}{op:OpN}{fs:Gc Ev}{Q:VK}{d:D}{S':Sto}(e:RT c op fs E S=Fk (d,S'))(r:EnR K M E σ H)(st:StR K M S H)(h:∀v H' M',Gr M H M' H'->StR K M' S' H'->EJ K M' H' v d->Q v H'):tDs K fs σ H λvs H1=>rN K op vs H1 Q:=by
 obtain⟨⟨ds,S1⟩,e1,e⟩:=BO e
 obtain⟨w,e2,e⟩:=BO e
 refine Jd e1 r st λvs H1 M1 g1 st1 d1=>⟨M1,_,w,e2,st1.mo,cZ st1 d1,λv H2 n=>?_⟩
 obtain⟨M2,g2,st2,d2⟩:=n.fin st1 e
 exact h v H2 M2 (g1.trans g2) st2 d2
end
theorem ie{K:KE}{f:Op2}{x y:V}{H:Hp}{Q:VK}(h:rN K (o2 f) [x,y] H Q):rOp K f x y H Q:=by
 obtain⟨M,ws,r,e,mo,s,q⟩:=h
 cases s with
 |cons h1 s=>
  cases s with
  |cons h2 s=>
   cases s
   exact⟨M,_,_,r,e,mo,h1,h2,q⟩
theorem jF{K:KE}{f:Op1}{x:V}{H:Hp}{Q:VK}(h:rN K (o1 f) [x] H Q):rUn K f x H Q:=by
 obtain⟨M,ws,r,e,mo,s,q⟩:=h
 cases s with
 |cons h1 s=>
  cases s
  exact⟨M,_,r,e,mo,h1,q⟩
theorem VR{K:KE}{c:vE}{f:Op2}{fa fb:Ev}{σ:Sg}{H:Hp}{Q:VK}(h:tD K (RT c (o2 f) [fa,fb]) σ H Q):tOp (rOp K f) (tD K fa) (tD K fb) σ H Q:=by
 obtain⟨M,E,S,d,S',e,r,st,q⟩:=h
 have z:tD K fa σ H λx H1=>tD K fb σ H1 λy H2=>rN K (o2 f) [x,y] H2 Q:=Py (Q:=Q) e r st q
 exact JV z λx H1 z1=>JV z1 λy H2 z2=>ie z2
theorem Wi{K:KE}{c:vE}{f:Op1}{fa:Ev}{σ:Sg}{H:Hp}{Q:VK}(h:tD K (RT c (o1 f) [fa]) σ H Q):tUn (rUn K f) (tD K fa) σ H Q:=by
 obtain⟨M,E,S,d,S',e,r,st,q⟩:=h
 have z:tD K fa σ H λx H1=>rN K (o1 f) [x] H1 Q:=Py (Q:=Q) e r st q
 exact JV z λx H1 z1=>jF z1
section
variable{X:Cx}{a b e:uh}{es:Gc uh}{fa fb:Ev}{fs:Gc Ev}{pos p:Pos}{c:vE}
theorem AX{op:Operator}{f:Op2}(ho:OpR X (binaryOp op) (rOp X.K f))(ha:DE X a fa)(hb:DE X b fb):DE X (.BinOp a op b pos) (RT c (o2 f) [fa,fb]):=⟨CG (pV ho ha.pe hb.pe) λ_ _ _ h=>VR h⟩
theorem Es{op:CmpOp}{f:Op2}(ho:OpR X (compareOp op) (rOp X.K f))(ha:DE X a fa)(hb:DE X b fb)(hm:behindInMarks op b=false:=by rfl):DE X (.Compare a [op] [b] pos) (RT c (o2 f) [fa,fb]):=⟨CG (gA ho ha.pe hb.pe hm) λ_ _ _ h=>VR h⟩
theorem NV{op:UnaryOp}{f:Op1}(ho:UnR X (unaryOp op) (rUn X.K f))(ha:DE X a fa):DE X (.UnaryOp op a pos) (RT c (o1 f) [fa]):=⟨CG (jV ho ha.pe) λ_ _ _ h=>Wi h⟩
theorem AL{f:Op2}(hr:IxR X (rOp X.K f))(ha:DE X a fa)(hb:DE X b fb)(hs:YB b:=by exact λ_ _=>rfl):DE X (.Subscript a b pos) (RT c (o2 f) [fa,fb]):=⟨CG (mx hr ha.pe hb.pe hs) λ_ _ _ h=>VR h⟩
theorem Ac{id:xA}{x:Str}{f:OpN}(hc:Fe X (.builtin id) (rN X.K f))(hg:Gl X x)(hm:X.mg x=uC)(hv:bootBuiltins x=Fk (.builtin id))(ha:DEs X (e::es) fs)(hn:x≠ "__name__":=by decide)(hdb:(x==("__debug__":Str))=false:=by decide)(he:ue (e::es) X.env=(false,eval e X.env)::ue es X.env:=by rfl)(hpl:(backTo pos (ue es X.env)).any (·.1)=false:=by rfl):DE X (.Call (.Name x p) (e::es) [] pos) (RT c f fs):=⟨
 CG (Zh hc hg hm hv ha.pe hn hdb he hpl) λ_ _ _ h=>by
  obtain⟨M,E,S,d,S',e,r,st,q⟩:=h
  exact Py e r st q⟩
theorem An{T:xA}{x:Str}{f:OpN}(hc:Fe X (.type T) (rN X.K f))(hg:Gl X x)(hm:X.mg x=uC)(hv:bootBuiltins x=Fk (.type T))(ha:DEs X (e::es) fs)(hn:x≠ "__name__":=by decide)(hdb:(x==("__debug__":Str))=false:=by decide)(he:ue (e::es) X.env=(false,eval e X.env)::ue es X.env:=by rfl)(hpl:(backTo pos (ue es X.env)).any (·.1)=false:=by rfl):DE X (.Call (.Name x p) (e::es) [] pos) (RT c f fs):=⟨
 CG (Yd hc hg hm hv ha.pe hn hdb he hpl) λ_ _ _ h=>by
  obtain⟨M,E,S,d,S',e,r,st,q⟩:=h
  exact Py e r st q⟩
noncomputable def eC(d:D):Ev:=λ_ S=>Fk (d,S)
theorem SO{v:V}{d:D}(h:PE X e (tC v))(r:∀K M H,EJ K M H v d):DE X e (eC d):=⟨CG h λσ H Q z=>by
 obtain⟨M,E,S,w,S',e,rr,st,q⟩:=z
 cases e
 exact q _ _ M (.refl st.mo) st (r _ _ _)⟩
theorem AF{i:Int}{j:Nat}:DE X (.Constant (.int i) j pos) (eC (.int i)):=SO cG λ_ _ _=>.int _
theorem UL{i:vE}{j:Nat}:DE X (.Constant (.bool i) j pos) (eC (.bl i)):=SO pO λ_ _ _=>.bl _
theorem A9{i:Str}{j:Nat}:DE X (.Constant (.str i) j pos) (eC (.str i)):=SO kc λ_ _ _=>.str _
theorem Ln{j:Nat}:DE X (.Constant .none j pos) (eC .non):=SO jn λ_ _ _=>.non
noncomputable def eV(i:Nat):Ev:=λE S=>(at? E i).map λd=>(d,S)
theorem AB(i:Nat){x:Str}(hN:X.N[i]?=Fk x:=by rfl)(hv:Vis X.env.scope x:=by first|exact Or.inl rfl|exact Or.inr (Or.inl rfl)|exact Or.inr (Or.inr rfl))(hd:(x==("__debug__":Str))=false:=by decide)(hcd:(x==("__classdict__":Str))=false:=by decide):DE X (.Name x pos) (eV i):=⟨CG (YS hN hv hd hcd) λσ H Q z=>by
 obtain⟨M,E,S,d,S',e,r,st,q⟩:=z
 obtain⟨d',e1,e⟩:=MZ e
 cases e
 obtain⟨v,hv,rd⟩:=r.val i d (at?_some e1)
 exact⟨v,hv,q v H M (.refl st.mo) st rd⟩⟩
end
theorem Jc:fillsNumberSlot (.type "tuple") "mul"=pure false:=
 fillsNumberSlot_seq (id:="tuple.__mul__") (r:=Fk (.builtin "tuple.__rmul__")) yq.lookup (by decide+kernel) F.slot_tuple_rmul.lookup (by decide+kernel)
theorem NK:seqRepeat? (.type "tuple")=pure (Fk (.builtin "tuple.__mul__")):=by
 unfold seqRepeat?
 rw[seqSlot_of (T:="tuple") (name:="__mul__") (id:="tuple.__mul__") yq.lookup (by decide+kernel),seqSlot_of (T:="tuple") (name:="__rmul__") (id:="tuple.__rmul__") F.slot_tuple_rmul.lookup (by decide+kernel)]
 rfl
theorem LC(a:Int)(t:Tok)(l:uF)(items:vQ Wp)(n:Nat)(dd:uD uF)(sl:vQ (uD Wp)):Meets (xr.«int.__rmul__» ⟨[.int a t,.ref l],[]⟩) (λ_ R s=>s.heap.get? l=Fk {cls:=.type "tuple",dict:=dd,data:=.seq items n,slots:=sl}/\R (.ok (.ret Value.notImplemented)) s):=
 .of_wp λprog w A R s h=>by obtain⟨hp,g,d,tk,os⟩:=s;obtain⟨hl,h⟩:=h;wp_walk;exact⟨_,rfl,h⟩
theorem Xi(its:Gc Wp)(m:Nat):ABN (λx1 x2=>x1++x2) #[] (uc m its.toArray)=(uc m its).flatten.toArray:=by
 have:=foldl_rep its m []
 rw[uz]at this
 exact this
theorem eE{X:Cx}:OpR X (binaryOp .Mult) (λx y H Q=>∃a xs k,x=.ref a/\y=.int k/\SqT X.K H a xs/\xs≠[]/\1<=k/\xs.length*k.toNat<=sizeLine/\(k=1->Q (.ref a) H)/\(k≠1->∀p,H p=uC->Q (.ref p) (upd H p (.tup (uc k.toNat xs).flatten)))):=by
 intro pins s σ H x y v u Q I rx ry h
 obtain⟨a,xs,k,rfl,rfl,hx,hne,hk,hz,q1,q2⟩:=h
 cases rx
 obtain⟨t,rfl⟩:=ry
 obtain⟨its,r,⟨⟨c,dd,data,sl⟩,ho,hc,n,hd⟩,hzz⟩:=I.tuple hx
 simp only at hc hd
 subst hc hd
 have hl:=r.length
 have hsz:its.toArray.size=xs.length:=by rw[uV];exact hl.symm
 have hpos:0<xs.length:=ABB.mpr hne
 have hkl:k.toNat<=sizeLine:=uO (Nat.le_mul_of_pos_left _ hpos) hz
 have hk63:k<2^63:=by
  have:(sizeLine:Nat)<2^63:=by decide
  lia
 refine yD (T:="tuple") (U:="int") (by decide) ⟨_,ho,rfl⟩ (λs'=>xv s' k t) Jc AAW xl NK z6.lookup
  (wu xl (xv s k t) z7 (zh _ _) (LC k t a its.toArray n dd sl) ⟨ho,rfl,⟨_,ho,rfl⟩,?_⟩)
 refine wK yq ⟨_,ho,rfl⟩ F.entry_tuple_mul ?_ (ABR _ _)
 unfold xr.«tuple.__mul__»
 wp_walk using uj ho
 rw[vH (show¬(decide (k< -2^63)||decide (k≥2^63))=true by
  rw[vf]
  rintro (z|z)
  .have:=uW z;lia
  .have:=uW z;lia)]
 wp_walk using uj ho
 by_cases h1:k=1
 .subst h1
  rw[vD (show(its.toArray.isEmpty||(1:Int)==1)=true by simp)]
  wp_walk using uj ho
  exact⟨_,rfl,.ref a,H,I,rfl,q1 rfl⟩
 .have hemp:its.toArray.isEmpty=false:=by
   cases its with
   |nil=>rw[yN]at hl;lia
   |cons b bs=>rfl
  rw[vH (show¬(its.toArray.isEmpty||k==1)=true by rw[hemp];simpa using h1)]
  wp_walk using uj ho
  have hmul:((its.toArray.size:Int)*k)=((xs.length*k.toNat:Nat):Int):=by
   rw[hsz,AAZ]
   congr 1
   lia
  rw[vH (show¬(decide (k<=0)||its.toArray.isEmpty)=true by
   rw[hemp,Bool.or_false]
   intro z
   have:=uW z
   lia)]
  wp_walk
  rw[vH (show¬((its.toArray.size:Int)*k>(2^63-1) / 8) by
   rw[hmul]
   have:(sizeLine:Nat)<=(2^63-1) / 8:=by decide
   lia)]
  wp_walk
  rw[vH (show¬zW ((its.toArray.size:Int)*k)=true by
   unfold zW
   rw[hmul]
   intro z
   have:=uW z
   lia)]
  rw[Xi]
  wp_walk
  have hlen:(uc k.toNat its).flatten.length<=sizeLine:=by rw[len_rep,xO,<-hl];exact hz
  rw[vH (show¬((uc k.toNat its).flatten.toArray.size>sizeLine) by rw[uV];lia)]
  wp_walk
  refine⟨_,rfl,.ref _,_,I.laid (o:=.tup (uc k.toNat xs).flatten) (t':=s.toks) (λb ob q=>uB _ q) (uN _) ?_,rfl,q2 h1 _ (I.hok.fresh (uN _))⟩
  exact⟨by rw[len_rep,xO];exact hz,_,r.rep k.toNat,xS _ _⟩
mutual
noncomputable def D.py:D->PyData
 | .non=>.none| .bl b=>.bool b| .int i=>.int i| .str x=>.str x| .ty _=>.none
 | .tup ds=>.tuple (D.pys ds)| .lst ds=>.list (D.pys ds)| .dct _=>.none| .scr _=>.none| .ref _=>.none
noncomputable def D.pys:Gc D->Gc PyData
 | []=>[]
 |d::ds=>D.py d::D.pys ds
end
mutual
noncomputable def D.lay:D->vE
 | .non=>true| .bl _=>true| .int _=>true| .str x=>vi x| .ty _=>false| .dct _=>false| .scr _=>false| .ref _=>false
 | .tup ds=>D.Ri ds| .lst ds=>D.Ri ds
noncomputable def D.Ri:Gc D->vE
 | []=>true
 |d::ds=>D.lay d && D.Ri ds
end
mutual
theorem O6:∀{d:D},d.lay=true->d.py.canLay0=true
 | .non,_=>rfl
 | .bl _,_=>rfl
 | .int _,_=>rfl
 | .str x,h=>h
 | .ty _,h=>wX h
 | .dct _,h=>wX h
 | .scr _,h=>wX h
 | .ref _,h=>wX h
 | .tup ds,h=>by show yg (D.pys ds)=true;exact Qg h
 | .lst ds,h=>by show yg (D.pys ds)=true;exact Qg h
theorem Qg:∀{ds:Gc D},D.Ri ds=true->yg (D.pys ds)=true
 | [],_=>rfl
 |d::ds,h=>by
  have h':(D.lay d && D.Ri ds)=true:=h
  rw[uT]at h'
  show(PyData.canLay0 d.py && yg (D.pys ds))=true
  rw[O6 h'.1,Qg h'.2];rfl
end
section
variable{X:Cx}{pins:Gc (uF×Obj)}{σ:Sg}{H:Hp}{s:uE}{M:Ms}
theorem JS(I:Inv X pins σ H s){a:uF}{xs:Gc V}(h:Rd H a (.lst xs)):∃its:Gc Wp,Vals xs its/\∃o n,s.heap.get? a=Fk o/\o.cls=.type "list" /\o.data=.seq its.toArray n:=by
 obtain⟨z,its,n,r,e⟩:=h.ok I.hok
 exact⟨its,r,_,n,e,rfl,rfl⟩
mutual
theorem EJ.reads(I:Inv X pins σ H s):∀{v:V} {d:D} {u:Wp},EJ X.K M H v d->RelV v u->d.lay=true->∃as,Reads s.heap u d.py as
 |_,_,_,.non,r,_=>by cases r;exact⟨_,.none⟩
 |_,_,_,.bl b,r,_=>by cases r;exact⟨_,.bool b⟩
 |_,_,_,.int b,r,_=>by obtain⟨t,rfl⟩:=r;exact⟨_,.int b t⟩
 |_,_,_,.str b,r,_=>by obtain⟨t,rfl⟩:=r;exact⟨_,.str b t⟩
 |_,_,_,.ty _,_,h=>wX h
 |_,_,_,.dct _ _ _,_,h=>wX h
 |_,_,_,.ref _,_,h=>wX h
 |_,_,_,.scr _,_,h=>wX h
 |_,_,_,.tup h rs,r,hl=>by
  cases r
  obtain⟨its,rv,⟨o,e,hc,n,hd⟩,_⟩:=I.tuple h
  obtain⟨as,ra⟩:=A1.reads I rs rv hl
  exact⟨as,.tuple e hc hd ra⟩
 |_,_,_,.lst h _ rs,r,hl=>by
  cases r
  obtain⟨its,rv,o,n,e,hc,hd⟩:=JS I (.inl h)
  obtain⟨as,ra⟩:=A1.reads I rs rv hl
  exact⟨_,.list e hc hd ra⟩
theorem A1.reads(I:Inv X pins σ H s):∀{vs:Gc V} {ds:Gc D} {us:Gc Wp},A1 X.K M H vs ds->Vals vs us->D.Ri ds=true->∃as,ReadsAll s.heap us (D.pys ds) as
 |_,_,_,.nil,r,_=>by cases r;exact⟨_,.nil⟩
 |_,_,_,.cons (d:=d) (ds:=ds) h t,r,hl=>by
  cases r with
  |cons r1 r2=>
   have hl':(D.lay d && D.Ri ds)=true:=hl
   rw[uT]at hl'
   obtain⟨as,ra⟩:=EJ.reads I h r1 hl'.1
   obtain⟨bs,rb⟩:=A1.reads I t r2 hl'.2
   exact⟨_,.cons ra rb⟩
end
end
noncomputable def deq(a b:D):vE:=PyData.eqv a.py b.py
noncomputable def ED(a b:D):vE:=a.lay && b.lay && decide (min a.py.depth b.py.depth<=60)
noncomputable def wEq:Op2:=λa b=>if ED (fz a) (fz b)=true then Fk (.val (.bl (deq (fz a) (fz b))))else uC
noncomputable def wNe:Op2:=λa b=>if ED (fz a) (fz b)=true then Fk (.val (.bl (!deq (fz a) (fz b))))else uC
section
variable{X:Cx}
theorem Sh.reads{pins:Gc (uF×Obj)}{σ:Sg}{H:Hp}{s:uE}{M:Ms}{v:V}{u:Wp}{w:Wv}(h:Sh X.K M H v w)(I:Inv X pins σ H s)(r:RelV v u)(hl:(fz w).lay=true):∃as,Reads s.heap u (fz w).py as:=by
 cases w with
 |val d=>exact EJ.reads I h r hl
 |own ds=>
  obtain⟨a,xs,rfl,h1,h2⟩:=h
  cases r
  obtain⟨its,rv,o,n,e,hc,hd⟩:=JS I (.inl h1)
  obtain⟨as,ra⟩:=A1.reads I h2 rv hl
  exact⟨_,.list e hc hd ra⟩
theorem Bn(hu:X.A.units+100<cLine):OpR X (compareOp .Eq) (rOp X.K wEq):=by
 intro pins s σ H x y v u Q I rx ry h
 obtain⟨M,w1,w2,r,e,mo,s1,s2,q⟩:=h
 unfold wEq at e
 split at e
 .rename_i hk
  unfold ED at hk
  rw[uT,uT]at hk
  cases e
  obtain⟨as,ra⟩:=s1.reads I rx hk.1.1
  obtain⟨bs,rb⟩:=s2.reads I ry hk.1.2
  have hd:=uW hk.2
  exact SeqAt.compareEq_reads ra rb (O6 hk.1.1) (O6 hk.1.2) (by omega) ⟨.bl _,H,I,rfl,q _ _ (.same mo (.bl _))⟩
 .cases e
theorem MD(hu:X.A.units+100<cLine):OpR X (compareOp .NotEq) (rOp X.K wNe):=by
 intro pins s σ H x y v u Q I rx ry h
 obtain⟨M,w1,w2,r,e,mo,s1,s2,q⟩:=h
 unfold wNe at e
 split at e
 .rename_i hk
  unfold ED at hk
  rw[uT,uT]at hk
  cases e
  obtain⟨as,ra⟩:=s1.reads I rx hk.1.1
  obtain⟨bs,rb⟩:=s2.reads I ry hk.1.2
  have hd:=uW hk.2
  exact SeqAt.compareNe_reads ra rb (O6 hk.1.1) (O6 hk.1.2) (by omega) ⟨.bl _,H,I,rfl,q _ _ (.same mo (.bl _))⟩
 .cases e
noncomputable def wI2(f:Int->Int->uD D):Op2
 | .val (.int i),.val (.int j)=>(f i j).map .val
 |_,_=>uC
theorem VM{g:Wp->Wp->Sem Wp}{C:Int->Int->Prop}{h:Int->Int->V}{f:Int->Int->uD D}(o:OpR X g (rI C h))(hf:∀i j d,f i j=Fk d->C i j/\∀K M H,EJ K M H (h i j) d):OpR X g (rOp X.K (wI2 f)):=by
 intro pins s σ H x y v u Q I rx ry hh
 obtain⟨M,w1,w2,r,e,mo,s1,s2,q⟩:=hh
 unfold wI2 at e
 split at e
 .cases s1
  cases s2
  rename_i i j
  cases e1:f i j with
  |none=>rw[e1]at e;cases e
  |some d=>
   rw[e1]at e
   cases e
   obtain⟨c,rd⟩:=hf i j d e1
   exact o pins s σ H _ _ v u Q I rx ry ⟨i,j,rfl,rfl,c,q _ _ (.same mo (rd _ _ _))⟩
 .cases e
theorem O2{g:Wp->Wp->Sem Wp}{h:Int->Int->V}{f:Int->Int->uD D}(o:OpR X g (rI0 h))(hf:∀i j d,f i j=Fk d->∀K M H,EJ K M H (h i j) d):OpR X g (rOp X.K (wI2 f)):=by
 intro pins s σ H x y v u Q I rx ry hh
 obtain⟨M,w1,w2,r,e,mo,s1,s2,q⟩:=hh
 unfold wI2 at e
 split at e
 .cases s1
  cases s2
  rename_i i j
  cases e1:f i j with
  |none=>rw[e1]at e;cases e
  |some d=>
   rw[e1]at e
   cases e
   exact o pins s σ H _ _ v u Q I rx ry ⟨i,j,rfl,rfl,q _ _ (.same mo (hf i j d e1 _ _ _))⟩
 .cases e
noncomputable def OG:Op2:=wI2 λi j=>Fk (.int (i-j))
noncomputable def ck:Nat:=2^60000
noncomputable def IC:Nat:=2^8000
noncomputable def DZ(i j:Int):vE:=decide (i.natAbs<2^64)||(decide (j.natAbs<2^64)||(decide (i.natAbs<ck) && decide (j.natAbs<ck)))
theorem gC:OpR X (binaryOp .Mult) (rI (λi j=>DZ i j=true) λi j=>.int (i*j)):=by
 intro pins s σ H x y v u Q I rx ry h
 obtain⟨i,j,rfl,rfl,hk,q⟩:=h
 unfold DZ at hk
 rw[vf,vf,uT]at hk
 rcases hk with hk|hk|hk
 .have:=uW hk
  exact cS pins s σ H _ _ v u Q I rx ry ⟨i,j,rfl,rfl,.inl ⟨by omega,by omega⟩,q⟩
 .have:=uW hk
  exact cS pins s σ H _ _ v u Q I rx ry ⟨i,j,rfl,rfl,.inr ⟨by omega,by omega⟩,q⟩
 .have h1:i.natAbs<2^60000:=uW hk.1
  have h2:j.natAbs<2^60000:=uW hk.2
  obtain⟨t1,rfl⟩:=rx
  obtain⟨t2,rfl⟩:=ry
  exact PyProof.Rows.mul_int ⟨.int _,H,I.tok _,⟨_,rfl⟩,q⟩ (PyProof.Rows.mulOk_of_bits (m:=60000) (n:=60000) (AAv.mpr h1) (AAv.mpr h2) (by decide))
noncomputable def kQ:Op2:=wI2 λi j=>if DZ i j=true then Fk (.int (i*j))else uC
noncomputable def Qk:Op2:=wI2 λi j=>if(decide (0<j) && decide (j.natAbs<IC))=true then Fk (.int (i / j))else uC
noncomputable def TN:Op2:=wI2 λi j=>if 0<j then Fk (.int (i % j))else uC
noncomputable def YM:Op2:=wI2 λi j=>if(decide (0<=j) && decide (j<=1000) && decide (i.natAbs<2^64))=true then Fk (.int (i^j.toNat))else uC
noncomputable def wLt:Op2:=wI2 λi j=>Fk (.bl (decide (i<j)))
noncomputable def wLe:Op2:=wI2 λi j=>Fk (.bl (decide (i<=j)))
noncomputable def wGt:Op2:=wI2 λi j=>Fk (.bl (decide (j<i)))
noncomputable def wGe:Op2:=wI2 λi j=>Fk (.bl (decide (j<=i)))
theorem Fj:OpR X (binaryOp .Sub) (rOp X.K OG):=O2 iH λi j d e K M H=>by cases e;exact .int _
theorem eL:OpR X (binaryOp .Mult) (rOp X.K kQ):=VM gC λi j d e=>by
 split at e
 .rename_i hk
  cases e
  exact⟨hk,λ_ _ _=>.int _⟩
 .cases e
theorem JZ:OpR X (binaryOp .FloorDiv) (rOp X.K Qk):=VM St.ao λi j d e=>by
 split at e
 .rename_i hk
  rw[uT]at hk
  cases e
  exact⟨⟨uW hk.1,uW hk.2⟩,λ_ _ _=>.int _⟩
 .cases e
theorem IW:OpR X (binaryOp .Mod) (rOp X.K TN):=VM jT λi j d e=>by
 split at e
 .rename_i hk
  cases e
  exact⟨hk,λ_ _ _=>.int _⟩
 .cases e
theorem RA:OpR X (binaryOp .Pow) (rOp X.K YM):=VM kG λi j d e=>by
 split at e
 .rename_i hk
  rw[uT,uT]at hk
  cases e
  have:=uW hk.1.2
  exact⟨⟨uW hk.1.1,by omega,uW hk.2⟩,λ_ _ _=>.int _⟩
 .cases e
theorem LH:OpR X (compareOp .Lt) (rOp X.K wLt):=O2 pZ λi j d e K M H=>by cases e;exact .bl _
theorem jN:OpR X (compareOp .LtE) (rOp X.K wLe):=O2 oG λi j d e K M H=>by cases e;exact .bl _
theorem NC:OpR X (compareOp .Gt) (rOp X.K wGt):=O2 nG λi j d e K M H=>by cases e;exact .bl _
theorem Xc:OpR X (compareOp .GtE) (rOp X.K wGe):=O2 nU λi j d e K M H=>by cases e;exact .bl _
noncomputable def asL:Wv->uD (Gc D)
 | .own ds=>Fk ds
 | .val (.lst ds)=>Fk ds
 |_=>uC
noncomputable def asT:Wv->uD (Gc D)
 | .val (.tup ds)=>Fk ds
 |_=>uC
noncomputable def asC:Wv->uD (Gc D)
 | .val (.scr ns)=>Fk (ns.map .int)
 |_=>uC
noncomputable def asS(w:Wv):uD (Gc D):=(asL w).or ((asT w).or (asC w))
section
variable{K:KE}{M:Ms}{H:Hp}{v:V}{w:Wv}{ds:Gc D}
theorem Sh.l(h:Sh K M H v w)(e:asL w=Fk ds):∃a xs,v=.ref a/\H a=Fk (.lst xs)/\A1 K M H xs ds:=by
 cases w with
 |own es=>cases e;obtain⟨a,xs,rfl,h1,h2⟩:=h;exact⟨a,xs,rfl,h1,h2⟩
 |val d=>
  cases d<;>first|(cases e;done)|skip
  cases e
  cases h with
  |lst h n r=>exact⟨_,_,rfl,h,r⟩
theorem Sh.t(h:Sh K M H v w)(e:asT w=Fk ds):∃a xs,v=.ref a/\SqT K H a xs/\A1 K M H xs ds:=by
 cases w with
 |own es=>cases e
 |val d=>
  cases d<;>first|(cases e;done)|skip
  cases e
  cases h with
  |tup h r=>exact⟨_,_,rfl,h,r⟩
theorem Nc:∀{ns:Gc Int},A1 K M H (ns.map V.int) (ns.map D.int)
 | []=>.nil
 |n::ns=>.cons (.int n) Nc
theorem Sh.c(h:Sh K M H v w)(e:asC w=Fk ds):∃a xs,v=.ref a/\SqL K H a xs/\A1 K M H xs ds:=by
 cases w with
 |own es=>cases e
 |val d=>
  cases d<;>first|(cases e;done)|skip
  cases e
  cases h with
  |scr h=>
   refine⟨_,_,rfl,?_,Nc⟩
   rcases h with h|h
   .exact .inl h.1
   .exact .inr h
theorem Sh.s(h:Sh K M H v w)(e:asS w=Fk ds):∃a xs,v=.ref a/\(SqL K H a xs\/SqT K H a xs)/\A1 K M H xs ds:=by
 unfold asS at e
 cases e1:asL w with
 |some es=>
  rw[e1]at e
  cases e
  obtain⟨a,xs,h1,h2,h3⟩:=h.l e1
  exact⟨a,xs,h1,.inl (.of h2),h3⟩
 |none=>
  rw[e1]at e
  cases e2:asT w with
  |some es=>
   rw[e2]at e
   cases e
   obtain⟨a,xs,h1,h2,h3⟩:=h.t e2
   exact⟨a,xs,h1,.inr h2,h3⟩
  |none=>
   rw[e2]at e
   obtain⟨a,xs,h1,h2,h3⟩:=h.c e
   exact⟨a,xs,h1,.inl h2,h3⟩
end
noncomputable def Jq:Op1:=λw=>match w with
 | .val (.str z)=>if z.length<=sizeLine then Fk (.val (.int z.length))else uC
 |_=>(asS w).map λds=>.val (.int ds.length)
theorem Bq:Fe X (.builtin "len") (rN X.K (o1 Jq)):=by
 intro pins s σ H xs us Q I r h
 obtain⟨M,ws,w,e,mo,sh,q⟩:=h
 cases sh with
 |nil=>cases e
 |cons h1 t=>
  cases t with
  |cons h2 t=>cases e
  |nil=>
   rename_i v w1
   have e':Jq w1=Fk w:=e
   unfold Jq at e'
   split at e'
   .split at e'
    .rename_i z hz
     cases e'
     cases h1
     exact Rh pins s σ H _ us Q I r ⟨z,rfl,hz,q _ _ (.same mo (.int _))⟩
    .cases e'
   .cases e1:asS w1 with
    |none=>rw[e1]at e';cases e'
    |some ds=>
     rw[e1]at e'
     cases e'
     obtain⟨a,ys,rfl,h3,h4⟩:=h1.s e1
     refine R6 pins s σ H _ us Q I r ⟨a,ys,rfl,h3,q _ _ ?_⟩
     rw[h4.length]
     exact .same mo (.int _)
noncomputable def wIx:Op2:=λa b=>match a,b with
 |a,.val (.int i)=>(asS a).bind λds=>(atI ds i).map .val
 |_,_=>uC
theorem fL{K:KE}{M:Ms}{H:Hp}{xs:Gc V}{ds:Gc D}{i:Int}{d:D}(h:A1 K M H xs ds)(e:atI ds i=Fk d):∃x,atI xs i=Fk x/\EJ K M H x d:=by
 unfold atI at e⊢
 rw[h.length]
 cases e1:ixN ds.length i with
 |none=>rw[e1]at e;cases e
 |some j=>
  rw[e1]at e
  exact h.get e
theorem AW:IxR X (rOp X.K wIx):=by
 intro value slice pins s σ H x y v u Q I rx ry h hs
 obtain⟨M,w1,w2,r,e,mo,s1,s2,q⟩:=h
 unfold wIx at e
 split at e
 .rename_i i
  cases e1:asS w1 with
  |none=>rw[e1]at e;cases e
  |some ds=>
   rw[e1]at e
   simp only[yA]at e
   cases e2:atI ds i with
   |none=>rw[e2]at e;cases e
   |some d=>
    rw[e2]at e
    cases e
    cases s2
    obtain⟨a,ys,rfl,h3,h4⟩:=s1.s e1
    obtain⟨z,h5,h6⟩:=fL h4 e2
    rcases h3 with h3|h3
    .exact fD value slice pins s σ H _ _ v u Q I rx ry ⟨a,ys,i,z,rfl,rfl,h3,h5,q _ _ (.same mo h6)⟩ hs
    .exact jj value slice pins s σ H _ _ v u Q I rx ry ⟨a,ys,i,z,rfl,rfl,h3,h5,q _ _ (.same mo h6)⟩ hs
 .cases e
end
section
variable{X:Cx}
noncomputable def CJ:Op2:=λa b=>match a,b with
 | .val (.int i),.val (.int j)=>Fk (.val (.int (i+j)))
 | .val (.str x),.val (.str y)=>if x.length+y.length<=sizeLine then Fk (.val (.str (x++y)))else uC
 | .val (.tup xs),.val (.tup ys)=>if xs.length+ys.length<=sizeLine then Fk (.val (.tup (xs++ys)))else uC
 |a,b=>(asL a).bind λxs=>(asL b).bind λys=>if xs.length+ys.length<=sizeLine then Fk (.own (xs++ys))else uC
theorem AZ:OpR X (binaryOp .Add) (rOp X.K CJ):=by
 intro pins s σ H x y v u Q I rx ry h
 obtain⟨M,w1,w2,r,e,mo,s1,s2,q⟩:=h
 unfold CJ at e
 split at e
 .cases e
  cases s1;cases s2
  exact kB pins s σ H _ _ v u Q I rx ry ⟨_,_,rfl,rfl,q _ _ (.same mo (.int _))⟩
 .split at e
  .cases e
   cases s1;cases s2
   exact Vd pins s σ H _ _ v u Q I rx ry ⟨_,_,rfl,rfl,by assumption,q _ _ (.same mo (.str _))⟩
  .cases e
 .split at e
  .rename_i xs ys hz
   cases e
   cases s1 with
   |tup h1 r1=>
    cases s2 with
    |tup h2 r2=>
     rename_i a xs' b ys'
     have l1:=r1.length
     have l2:=r2.length
     by_cases hx:xs'=[]
     .subst hx
      cases r1
      refine St.fe pins s σ H _ _ v u Q I rx ry ⟨_,_,_,rfl,rfl,h1,h2,q _ _ (.same mo ?_)⟩
      exact .tup h2 r2
     .refine gS pins s σ H _ _ v u Q I rx ry ⟨_,_,_,_,rfl,rfl,h1,h2,hx,by lia,λz=>?_,λ_ p hp=>q _ _ (.tup mo hp (r1.append r2))⟩
      subst z
      cases r2
      rw[wJ]at q
      exact q _ _ (.same mo (.tup h1 r1))
  .cases e
 .cases e1:asL w1 with
  |none=>rw[e1]at e;cases e
  |some xs=>
   rw[e1]at e
   cases e2:asL w2 with
   |none=>rw[e2]at e;cases e
   |some ys=>
    rw[e2]at e
    simp only[yA]at e
    split at e
    .rename_i hz
     cases e
     obtain⟨a,xs',rfl,h1,r1⟩:=s1.l e1
     obtain⟨b,ys',rfl,h2,r2⟩:=s2.l e2
     have l1:=r1.length
     have l2:=r2.length
     exact jt pins s σ H _ _ v u Q I rx ry ⟨a,b,xs',ys',rfl,rfl,h1,h2,by lia,λp hp=>q _ _ (.lst mo hp (r1.append r2))⟩
    .cases e
noncomputable def mC:Op2:=λa b=>match a,b with
 | .val (.int i),.val (.int j)=>if DZ i j=true then Fk (.val (.int (i*j)))else uC
 | .val (.tup xs),.val (.int k)=>if(!xs.isEmpty && decide (1<=k) && decide (xs.length*k.toNat<=sizeLine))=true then Fk (.val (.tup (uc k.toNat xs).flatten))else uC
 |a,.val (.int k)=>(asL a).bind λxs=>if(decide (k<2^63) && decide (-(2^63)<=k) && decide (xs.length*k.toNat<=sizeLine))=true then Fk (.own (uc k.toNat xs).flatten)else uC
 |_,_=>uC
theorem A1.rep{K:KE}{M:Ms}{H:Hp}{xs:Gc V}{ds:Gc D}(h:A1 K M H xs ds):∀n:Nat,A1 K M H (uc n xs).flatten (uc n ds).flatten
 |0=>.nil
 |n+1=>by
  rw[wQ,wQ,xN,xN]
  exact h.append (A1.rep h n)
theorem YY:OpR X (binaryOp .Mult) (rOp X.K mC):=by
 intro pins s σ H x y v u Q I rx ry h
 obtain⟨M,w1,w2,r,e,mo,s1,s2,q⟩:=h
 unfold mC at e
 split at e
 .rename_i i j
  refine eL pins s σ H x y v u Q I rx ry ⟨M,_,_,r,?_,mo,s1,s2,q⟩
  unfold kQ wI2
  show yP Wv.val (if DZ i j=true then Fk (D.int (i*j))else uC)=Fk r
  split at e
  .rename_i hk
   rw[vD hk]
   exact e
  .cases e
 .rename_i xs k
  split at e
  .rename_i hk
   rw[uT,uT]at hk
   cases e
   cases s2
   cases s1 with
   | @tup a ys _ h1 r1=>
     have l1:=r1.length
     have z:=uW hk.2
     have hk1:=uW hk.1.2
     have hne:ys≠[]:=λzz=>by
      subst zz
      cases r1
      exact absurd hk.1.1 (by decide)
     refine eE pins s σ H _ _ v u Q I rx ry ⟨a,ys,k,rfl,rfl,h1,hne,hk1,by rw[l1];exact z,λe1=>?_,λ_ p hp=>q _ _ (.tup mo hp (r1.rep _))⟩
     subst e1
     have:(uc (1:Int).toNat xs).flatten=xs:=by simp
     rw[this]at q
     exact q _ _ (.same mo (.tup h1 r1))
  .cases e
 .rename_i k hn hn2
  cases e1:asL w1 with
  |none=>rw[e1]at e;cases e
  |some xs=>
   rw[e1]at e
   simp only[yA]at e
   split at e
   .rename_i hk
    rw[uT,uT]at hk
    cases e
    cases s2
    obtain⟨a,xs',rfl,h1,r1⟩:=s1.l e1
    have l1:=r1.length
    have z:=uW hk.2
    exact jq pins s σ H _ _ v u Q I rx ry ⟨a,k,xs',rfl,rfl,h1,uW hk.1.2,uW hk.1.1,by rw[l1];exact z,λp hp=>q _ _ (.lst mo hp (r1.rep _))⟩
   .cases e
 .cases e
noncomputable def Nk:Op1
 | .val (.int i)=>Fk (.val (.int (-i)))
 |_=>uC
theorem Gp:UnR X (unaryOp .USub) (rUn X.K Nk):=by
 intro pins s σ H x v Q I rx h
 obtain⟨M,w,r,e,mo,s1,q⟩:=h
 unfold Nk at e
 split at e
 .cases e
  cases s1
  exact cJ pins s σ H _ v Q I rx ⟨_,rfl,q _ _ (.same mo (.int _))⟩
 .cases e
noncomputable def Kn:D->vE
 | .non=>true| .bl _=>true| .int _=>true| .str _=>true
 |_=>false
theorem Sh.flat{K:KE}{M:Ms}{H:Hp}{v:V}{w:Wv}(h:Sh K M H v w)(f:Kn (fz w)=true):EJ K M H v (fz w):=by
 cases w with
 |val d=>exact h
 |own ds=>cases f
noncomputable def inD(x:D)(xs:Gc D):vE:=xs.any λy=>deq y x
theorem Uq{K:KE}{M:Ms}{H:Hp}{v:V}{d:D}(h:EJ K M H v d)(f:Kn d=true):PY v=true:=by
 cases h<;>first|rfl|cases f
theorem gX{K:KE}{M:Ms}{H:Hp}{v u:V}{d e:D}(h:EJ K M H v d)(g:EJ K M H u e)(f:Kn d=true)(f':Kn e=true):eqV v u=deq d e:=by
 cases h<;>first|(cases f;done)|skip
 all_goals (cases g<;>first|(cases f';done)|rfl)
theorem SA{K:KE}{M:Ms}{H:Hp}:∀{vs:Gc V} {ds:Gc D},A1 K M H vs ds->ds.all Kn=true->vs.all PY=true
 |_,_,.nil,_=>rfl
 |_,_,.cons h t,f=>by
  rw[wy,uT]at f⊢
  exact⟨Uq h f.1,SA t f.2⟩
theorem Wg{K:KE}{M:Ms}{H:Hp}{u:V}{e:D}(g:EJ K M H u e)(f':Kn e=true):∀{vs:Gc V} {ds:Gc D},A1 K M H vs ds->ds.all Kn=true->inV u vs=inD e ds
 |_,_,.nil,_=>rfl
 |_,_,.cons h t,f=>by
  rw[wy,uT]at f
  have ih:=Wg g f' t f.2
  unfold inV inD at ih⊢
  rw[w6,w6,ih,gX h g f.1 f']
noncomputable def wIn(neg:vE):Op2:=λa b=>(asS b).bind λds=>if(Kn (fz a) && ds.all Kn)=true then Fk (.val (.bl (if neg then !inD (fz a) ds else inD (fz a) ds)))else uC
theorem dQ{M:Ms}{H:Hp}{x y:V}{w1 w2 r:Wv}{neg:vE}{Q:VK}(e:wIn neg w1 w2=Fk r)(mo:MOk M H)(s1:Sh X.K M H x w1)(s2:Sh X.K M H y w2)(q:∀v H',Nw X.K M H H' v r->Q v H'):rIn X.K neg x y H Q:=by
 unfold wIn at e
 cases e1:asS w2 with
 |none=>rw[e1]at e;cases e
 |some ds=>
  rw[e1]at e
  simp only[yA]at e
  split at e
  .rename_i hk
   rw[uT]at hk
   cases e
   obtain⟨a,xs,rfl,h3,h4⟩:=s2.s e1
   have g1:=s1.flat hk.1
   refine⟨a,xs,rfl,h3,Uq g1 hk.1,SA h4 hk.2,?_⟩
   rw[Wg g1 hk.1 h4 hk.2]
   exact q _ _ (.same mo (.bl _))
  .cases e
theorem PD:OpR X (compareOp .In) (rOp X.K (wIn false)):=by
 intro pins s σ H x y v u Q I rx ry h
 obtain⟨M,w1,w2,r,e,mo,s1,s2,q⟩:=h
 exact YX pins s σ H _ _ v u Q I rx ry (dQ e mo s1 s2 q)
theorem SH:OpR X (compareOp .NotIn) (rOp X.K (wIn true)):=by
 intro pins s σ H x y v u Q I rx ry h
 obtain⟨M,w1,w2,r,e,mo,s1,s2,q⟩:=h
 exact Rv pins s σ H _ _ v u Q I rx ry (dQ e mo s1 s2 q)
noncomputable def isN:Wv->vE
 | .val .non=>true
 |_=>false
noncomputable def ZV(neg:vE):Op2:=λa b=>match b with
 | .val .non=>Fk (.val (.bl (if neg then !isN a else isN a)))
 |_=>uC
theorem X4{K:KE}{M:Ms}{H:Hp}{x:V}{w:Wv}(s:Sh K M H x w):decide (x=.non)=isN w:=by
 cases w with
 |own ds=>obtain⟨a,xs,rfl,_⟩:=s;rfl
 |val d=>cases s<;>rfl
theorem Xa:OpR X (compareOp .Is) (rOp X.K (ZV false)):=by
 intro pins s σ H x y v u Q I rx ry h
 obtain⟨M,w1,w2,r,e,mo,s1,s2,q⟩:=h
 unfold ZV at e
 split at e
 .cases e
  cases s2
  refine jB pins s σ H _ _ v u Q I rx ry ⟨rfl,?_⟩
  rw[X4 s1]
  exact q _ _ (.same mo (.bl _))
 .cases e
theorem Zp:OpR X (compareOp .IsNot) (rOp X.K (ZV true)):=by
 intro pins s σ H x y v u Q I rx ry h
 obtain⟨M,w1,w2,r,e,mo,s1,s2,q⟩:=h
 unfold ZV at e
 split at e
 .cases e
  cases s2
  refine dz pins s σ H _ _ v u Q I rx ry ⟨rfl,?_⟩
  rw[X4 s1]
  exact q _ _ (.same mo (.bl _))
 .cases e
theorem J4{K:KE}{M:Ms}{H:Hp}{xs:Gc V}{ws:Gc Wv}{f:Op1}{r:Wv}(h:Shs K M H xs ws)(e:o1 f ws=Fk r):∃v w,xs=[v]/\ws=[w]/\Sh K M H v w/\f w=Fk r:=by
 cases h with
 |nil=>cases e
 |cons h1 t=>
  cases t with
  |cons h2 t=>cases e
  |nil=>exact⟨_,_,rfl,rfl,h1,e⟩
theorem T4{K:KE}{M:Ms}{H:Hp}{xs:Gc V}{ws:Gc Wv}{f:Op2}{r:Wv}(h:Shs K M H xs ws)(e:o2 f ws=Fk r):∃v w v' w',xs=[v,v']/\ws=[w,w']/\Sh K M H v w/\Sh K M H v' w'/\f w w'=Fk r:=by
 cases h with
 |nil=>cases e
 |cons h1 t=>
  cases t with
  |nil=>cases e
  |cons h2 t=>
   cases t with
   |cons h3 t=>cases e
   |nil=>exact⟨_,_,_,_,rfl,rfl,h1,h2,e⟩
noncomputable def iC:Op1
 | .val (.int i)=>Fk (.val (.int (if i<0 then-i else i)))
 |_=>uC
theorem O0:Fe X (.builtin "abs") (rN X.K (o1 iC)):=by
 intro pins s σ H xs us Q I r h
 obtain⟨M,ws,w,e,mo,sh,q⟩:=h
 obtain⟨v,w1,rfl,rfl,s1,e1⟩:=J4 sh e
 unfold iC at e1
 split at e1
 .cases e1
  cases s1
  exact Z4 pins s σ H _ us Q I r ⟨_,rfl,q _ _ (.same mo (.int _))⟩
 .cases e1
noncomputable def mT:Op2:=wI2 λi j=>Fk (.int (if j>i then j else i))
noncomputable def Z0:Op2:=wI2 λi j=>Fk (.int (if j<i then j else i))
theorem Uw{f:Int->Int->uD D}{a b r:Wv}(e:wI2 f a b=Fk r):∃i j d,a=.val (.int i)/\b=.val (.int j)/\f i j=Fk d/\r=.val d:=by
 unfold wI2 at e
 split at e
 .rename_i i j
  cases e1:f i j with
  |none=>rw[e1]at e;cases e
  |some d=>rw[e1]at e;cases e;exact⟨i,j,d,rfl,rfl,e1,rfl⟩
 .cases e
theorem WN(hc:X.calm=true):Fe X (.builtin "max") (rN X.K (o2 mT)):=by
 intro pins s σ H xs us Q I r h
 obtain⟨M,ws,w,e,mo,sh,q⟩:=h
 obtain⟨v,w1,v',w2,rfl,rfl,s1,s2,e1⟩:=T4 sh e
 obtain⟨i,j,d,rfl,rfl,e2,rfl⟩:=Uw e1
 cases e2;cases s1;cases s2
 exact Wn hc pins s σ H _ us Q I r ⟨_,_,rfl,q _ _ (.same mo (.int _))⟩
theorem PF(hc:X.calm=true):Fe X (.builtin "min") (rN X.K (o2 Z0)):=by
 intro pins s σ H xs us Q I r h
 obtain⟨M,ws,w,e,mo,sh,q⟩:=h
 obtain⟨v,w1,v',w2,rfl,rfl,s1,s2,e1⟩:=T4 sh e
 obtain⟨i,j,d,rfl,rfl,e2,rfl⟩:=Uw e1
 cases e2;cases s1;cases s2
 exact W9 hc pins s σ H _ us Q I r ⟨_,_,rfl,q _ _ (.same mo (.int _))⟩
noncomputable def CS:Op1:=λw=>(asS w).map λds=>.val (.tup ds)
theorem BD:Fe X (.type "tuple") (rN X.K (o1 CS)):=by
 intro pins s σ H xs us Q I r h
 obtain⟨M,ws,w,e,mo,sh,q⟩:=h
 obtain⟨v,w1,rfl,rfl,s1,e1⟩:=J4 sh e
 unfold CS at e1
 cases e2:asS w1 with
 |none=>rw[e2]at e1;cases e1
 |some ds=>
  rw[e2]at e1
  cases e1
  obtain⟨a,ys,rfl,h3,h4⟩:=s1.s e2
  refine Q7 pins s σ H _ us Q I r ⟨a,ys,rfl,?_⟩
  rcases h3 with h3|h3
  .exact .inl ⟨h3,λl hl=>q _ _ (.tup mo hl h4)⟩
  .exact .inr ⟨h3,q _ _ (.same mo (.tup h3 h4))⟩
noncomputable def L5:Op1:=λw=>(asS w).map λds=>.own ds
theorem Fv:Fe X (.type "list") (rN X.K (o1 L5)):=by
 intro pins s σ H xs us Q I r h
 obtain⟨M,ws,w,e,mo,sh,q⟩:=h
 obtain⟨v,w1,rfl,rfl,s1,e1⟩:=J4 sh e
 unfold L5 at e1
 cases e2:asS w1 with
 |none=>rw[e2]at e1;cases e1
 |some ds=>
  rw[e2]at e1
  cases e1
  obtain⟨a,ys,rfl,h3,h4⟩:=s1.s e2
  exact SE pins s σ H _ us Q I r ⟨a,ys,rfl,h3,λl hl=>q _ _ (.lst mo hl h4)⟩
noncomputable def aX:Op1
 | .val (.int i)=>Fk (.val (.int i))
 | .val (.bl b)=>Fk (.val (.int (if b then 1 else 0)))
 |_=>uC
theorem Li:Fe X (.type "int") (rN X.K (o1 aX)):=by
 intro pins s σ H xs us Q I r h
 obtain⟨M,ws,w,e,mo,sh,q⟩:=h
 obtain⟨v,w1,rfl,rfl,s1,e1⟩:=J4 sh e
 unfold aX at e1
 split at e1
 .cases e1;cases s1
  exact Ro pins s σ H _ us Q I r (.inl ⟨_,rfl,q _ _ (.same mo (.int _))⟩)
 .cases e1;cases s1
  exact Ro pins s σ H _ us Q I r (.inr ⟨_,rfl,q _ _ (.same mo (.int _))⟩)
 .cases e1
noncomputable def iz:Op1
 | .val (.int i)=>if i.natAbs.log2<1920 then Fk (.val (.str (toString i)))else uC
 |_=>uC
theorem Wb:Fe X (.type "str") (rN X.K (o1 iz)):=by
 intro pins s σ H xs us Q I r h
 obtain⟨M,ws,w,e,mo,sh,q⟩:=h
 obtain⟨v,w1,rfl,rfl,s1,e1⟩:=J4 sh e
 unfold iz at e1
 split at e1
 .split at e1
  .cases e1;cases s1
   exact SK pins s σ H _ us Q I r ⟨_,rfl,by assumption,q _ _ (.same mo (.str _))⟩
  .cases e1
 .cases e1
noncomputable def blD:D->uD vE
 | .bl b=>Fk b
 |_=>uC
noncomputable def bls(ds:Gc D):uD (Gc vE):=ds.mapM blD
theorem XT{K:KE}{M:Ms}{H:Hp}:∀{vs:Gc V} {ds:Gc D} {bs:Gc vE},A1 K M H vs ds->bls ds=Fk bs->vs=bs.map V.bl
 |_,_,bs,.nil,e=>by cases e;rfl
 |_,_,bs,.cons (d:=d) (ds:=ds) h t,e=>by
  unfold bls at e
  rw[zX]at e
  cases e1:blD d with
  |none=>rw[e1]at e;cases e
  |some b=>
   rw[e1]at e
   cases e2:ds.mapM blD with
   |none=>rw[e2]at e;cases e
   |some cs=>
    rw[e2]at e
    cases e
    have hd:d=.bl b:=by
     cases d<;>first|(cases e1;done)|skip
     cases e1;rfl
    subst hd
    cases h
    rw[ui,<-XT t e2]
noncomputable def kD:Op1:=λw=>(asL w).bind λds=>(bls ds).map λbs=>.val (.bl (bs.all id))
theorem SM(hc:X.calm=true):Fe X (.builtin "all") (rN X.K (o1 kD)):=by
 intro pins s σ H xs us Q I r h
 obtain⟨M,ws,w,e,mo,sh,q⟩:=h
 obtain⟨v,w1,rfl,rfl,s1,e1⟩:=J4 sh e
 unfold kD at e1
 cases e2:asL w1 with
 |none=>rw[e2]at e1;cases e1
 |some ds=>
  rw[e2]at e1
  simp only[yA]at e1
  cases e3:bls ds with
  |none=>rw[e3]at e1;cases e1
  |some bs=>
   rw[e3]at e1
   cases e1
   obtain⟨a,ys,rfl,h3,h4⟩:=s1.l e2
   exact St.Xq hc pins s σ H _ us Q I r ⟨a,bs,rfl,by rw[<-XT h4 e3];exact .of h3,q _ _ (.same mo (.bl _))⟩
noncomputable def kdW:Wv->uD St.Kd
 | .own _=>Fk .lst
 | .val .non=>Fk .non| .val (.bl _)=>Fk .bl| .val (.int _)=>Fk .int| .val (.str _)=>Fk .str| .val (.lst _)=>Fk .lst| .val (.dct _)=>Fk .dct| .val (.tup _)=>Fk .tup
 | .val (.ty _)=>uC| .val (.scr _)=>uC| .val (.ref _)=>uC
end
section
variable{X:Cx}
theorem ZH{K:KE}(k:St.Kd):xB K (.type k.ty) (.type "list")=Fk (k.isA "list"):=by
 cases k<;>rfl
noncomputable def Qu(T:xA):vE:=T== "int" ||T== "bool" ||T== "tuple" ||T== "str" ||T== "list"
theorem kL{K:KE}{T:xA}(h:Qu T=true)(k:St.Kd):xB K (.type k.ty) (.type T)=Fk (k.isA T):=by
 unfold Qu at h
 simp only[vf,ABO]at h
 rcases h with(((rfl|rfl)|rfl)|rfl)|rfl
 .exact St.eW k
 .exact St.ZO k
 .exact St.kit_tuple k
 .exact St.eQ k
 .exact ZH k
noncomputable def K5:Op2:=λa t=>match t with
 | .val (.ty T)=>if Qu T=true then(kdW a).map λk=>.val (.bl (k.isA T))else uC
 |_=>uC
theorem Bz:Fe X (.builtin "isinstance") (rN X.K (o2 K5)):=by
 intro pins s σ H xs us Q I r h
 obtain⟨M,ws,w,e,mo,sh,q⟩:=h
 obtain⟨v,w1,v',w2,rfl,rfl,s1,s2,e1⟩:=T4 sh e
 unfold K5 at e1
 split at e1
 .rename_i T
  split at e1
  .rename_i hT
   cases e2:kdW w1 with
   |none=>rw[e2]at e1;cases e1
   |some k=>
    rw[e2]at e1
    cases e1
    cases s2
    obtain⟨u1,u2,rfl,r1,r2⟩:=r.two
    cases (show u2=AAE T from r2)
    have fin:∀tk,EP X pins σ Q (.bool (k.isA T)) {s with toks:=tk}:=λtk=>⟨.bl _,H,I.tok tk,rfl,q _ _ (.same mo (.bl _))⟩
    have kk:=kL (K:=X.K) hT k
    cases w1 with
    |own ds=>
     cases e2
     obtain⟨a,ys,rfl,h1,_⟩:=s1
     exact HU I r1 (.lst h1) kk fin
    |val d=>
     have s1':EJ X.K M H v d:=s1
     cases s1' with
     |non=>cases e2;exact HU I r1 .non kk fin
     |bl b=>cases e2;exact HU I r1 (.bl b) kk fin
     |int b=>cases e2;exact HU I r1 (.int b) kk fin
     |str b=>cases e2;exact HU I r1 (.str b) kk fin
     |ty b=>cases e2
     |scr h=>cases e2
     |lst h n rr=>cases e2;exact HU I r1 (.lst h) kk fin
     |dct h n rr=>cases e2;exact HU I r1 (.dK h) kk fin
     |ref h=>cases e2
     |tup h rr=>
      cases e2
      rename_i a ys ds
      cases (show u1=va a from r1)
      obtain⟨its,_,⟨o,h1,h2,_⟩,_⟩:=I.tuple h
      exact vm ABK I.kIn ⟨o,h1,h2⟩ kk (λz=>nomatch z) fin
  .cases e1
 .cases e1
noncomputable def Cm(fs:Gc Ev):Ev:=λE S=>(evs fs E S).bind λr=>if r.1.length<=sizeLine then Fk (.tup r.1,r.2)else uC
noncomputable def bZ(c:vE)(fs:Gc Ev):Ev:=λE S=>(evs fs E S).bind λr=>if r.1.length<=sizeLine then fin c (.own r.1) r.2 else uC
abbrev Fh:=bZ false
abbrev K1:=bZ true
theorem A6{es:Gc uh}{fs:Gc Ev}{k:Nat}{pos:Pos}(h:DEs X es fs):DE X (.Tuple es k pos) (Cm fs):=⟨CG (jr h.pe) λσ H Q z=>by
 obtain⟨M,E,S,d,S',e,r,st,q⟩:=z
 obtain⟨⟨ds,S1⟩,e1,e⟩:=BO e
 dsimp only at e
 split at e
 .cases e
  refine Jd e1 r st λvs H1 M1 g1 st1 d1=>⟨by rw[d1.length];assumption,λp hp=>?_⟩
  have n:=Nw.tup st1.mo hp d1
  exact q _ _ M1 (g1.trans (.grow st1.mo n.grow)) (st1.grow n.grow) n.rel
 .cases e⟩
theorem BJ{c:vE}{es:Gc uh}{fs:Gc Ev}{pos:Pos}(h:DEs X es fs):DE X (.List es pos) (bZ c fs):=⟨CG (jI h.pe) λσ H Q z=>by
 obtain⟨M,E,S,d,S',e,r,st,q⟩:=z
 obtain⟨⟨ds,S1⟩,e1,e⟩:=BO e
 dsimp only at e
 split at e
 .refine Jd e1 r st λvs H1 M1 g1 st1 d1=>⟨by rw[d1.length];assumption,λp hp=>?_⟩
  obtain⟨M2,g2,st2,d2⟩:=(Nw.lst st1.mo hp d1).fin st1 e
  exact q _ _ M2 (g1.trans g2) st2 d2
 .cases e⟩
noncomputable def Hs(f g:Ev):Ev:=λE S=>(f E S).bind λr=>match r.1 with
 | .bl true=>g E r.2
 | .bl false=>Fk (.bl false,r.2)
 |_=>uC
noncomputable def eOr(f g:Ev):Ev:=λE S=>(f E S).bind λr=>match r.1 with
 | .bl false=>g E r.2
 | .bl true=>Fk (.bl true,r.2)
 |_=>uC
noncomputable def Tg(f:Ev):Ev:=λE S=>(f E S).bind λr=>match r.1 with
 | .bl b=>Fk (.bl (!b),r.2)
 |_=>uC
noncomputable def eIf(c f g:Ev):Ev:=λE S=>(c E S).bind λr=>match r.1 with
 | .bl true=>f E r.2
 | .bl false=>g E r.2
 |_=>uC
theorem UT{K:KE}{M:Ms}{H:Hp}{v:V}{b:vE}(h:EJ K M H v (.bl b)):v=.bl b:=by cases h;rfl
variable{a b c:uh}{rest:Gc uh}{f g h:Ev}{pos:Pos}
theorem HF{op:BoolOp}(h:DE X a f):DE X (.BoolOp op [a] pos) f:=⟨kZ h.pe⟩
theorem GX(ha:DE X a f)(hb:DE X (.BoolOp .And (b::rest) pos) g):DE X (.BoolOp .And (a::b::rest) pos) (Hs f g):=⟨CG (kl ha.pe hb.pe) λσ H Q z=>by
 obtain⟨M,E,S,d,S',e,r,st,q⟩:=z
 obtain⟨⟨d1,S1⟩,e1,e⟩:=BO e
 dsimp only at e
 refine⟨M,E,S,d1,S1,e1,r,st,λv H1 M1 g1 st1 r1=>?_⟩
 split at e
 .cases UT r1
  refine⟨_,rfl,?_⟩
  refine gH ?_
  exact⟨M1,E,S1,d,S',e,r.step g1.st,st1,λv H2 M2 g2 st2 r2=>q _ _ M2 (g1.trans g2) st2 r2⟩
 .cases e
  cases UT r1
  refine⟨_,rfl,?_⟩
  refine gF ?_
  exact q _ _ M1 g1 st1 r1
 .cases e⟩
theorem dM(ha:DE X a f):DE X (.UnaryOp .Not a pos) (Tg f):=⟨CG (ij ha.pe) λσ H Q z=>by
 obtain⟨M,E,S,d,S',e,r,st,q⟩:=z
 obtain⟨⟨d1,S1⟩,e1,e⟩:=BO e
 dsimp only at e
 split at e
 .cases e
  refine⟨M,E,S,_,_,e1,r,st,λv H1 M1 g1 st1 r1=>?_⟩
  cases UT r1
  exact⟨_,rfl,q _ _ M1 g1 st1 (.bl _)⟩
 .cases e⟩
noncomputable def tDT(K:KE)(f:Ev):TT:=λσ H Q=>∃M E S b S',f E S=Fk (.bl b,S')/\EnR K M E σ H/\StR K M S H/\∀H' M',Gr M H M' H'->StR K M' S' H'->Q b H'
structure DT(X:Cx)(e:uh)(f:Ev):Prop where
 pe:PT X e (tDT X.K f)
structure DW(X:Cx)(e:uh)(f:Ev):Prop where
 pe:PW X e (tDT X.K f)
theorem DW.dt(h:DW X a f):DT X a f:=⟨PW.pt h.pe⟩
theorem gc{t:TE}(h:PT X a (iE t))(m:∀σ H Q,tD X.K f σ H Q->t σ H Q):DT X a f:=⟨WS h λσ H Q z=>by
 obtain⟨M,E,S,b,S',e,r,st,q⟩:=z
 refine m _ _ _ ⟨M,E,S,_,S',e,r,st,λv H1 M1 g1 st1 r1=>?_⟩
 cases UT r1
 exact⟨_,rfl,q _ M1 g1 st1⟩⟩
theorem JD(h:DE X a f)(he:∀whole,isTrue a X.env whole=(do let v<-whole;standAt a.pos;holding [v] (truthy v)):=by intro _;rfl):DT X a f:=gc (t:=tD X.K f) (i0 h.pe he) λ_ _ _ z=>z
theorem Av{fa fb:Ev}{op:CmpOp}{f:Op2}(ho:OpR X (compareOp op) (rOp X.K f))(ha:DE X a fa)(hb:DE X b fb)(hm:behindInMarks op b=false:=by rfl):DT X (.Compare a [op] [b] pos) (eOp (o2 f) [fa,fb]):=
 gc (gL ho ha.pe hb.pe hm) λ_ _ _ h=>VR h
theorem Sx(ha:DT X a f):DT X (.UnaryOp .Not a pos) (Tg f):=⟨WS (jP ha.pe) λσ H Q z=>by
 obtain⟨M,E,S,b,S',e,r,st,q⟩:=z
 obtain⟨⟨w1,S1⟩,e1,e⟩:=BO e
 dsimp only at e
 split at e
 .cases e
  exact⟨M,E,S,_,_,e1,r,st,q⟩
 .cases e⟩
theorem IQ(ha:DT X a f):DW X (.BoolOp .And [a] pos) f:=⟨dm ha.pe⟩
theorem U9(ha:DT X a f):DW X (.BoolOp .Or [a] pos) f:=⟨iS ha.pe⟩
theorem W5{e:uh}{t t':TT}(h:PW X e t)(m:∀σ H Q,t' σ H Q->t σ H Q):PW X e t':=λwh pins s σ H Q I q=>h wh pins s σ H Q I (m _ _ _ q)
theorem KC(ha:DT X a f)(hb:DW X (.BoolOp .And (b::rest) pos) g):DW X (.BoolOp .And (a::b::rest) pos) (Hs f g):=⟨W5 (iQ ha.pe hb.pe) λσ H Q z=>by
 obtain⟨M,E,S,k,S',e,r,st,q⟩:=z
 obtain⟨⟨w1,S1⟩,e1,e⟩:=BO e
 dsimp only at e
 split at e
 .refine⟨M,E,S,_,S1,e1,r,st,λH1 M1 g1 st1=>?_⟩
  refine gH ?_
  exact⟨M1,E,S1,k,S',e,r.step g1.st,st1,λH2 M2 g2 st2=>q _ M2 (g1.trans g2) st2⟩
 .cases e
  refine⟨M,E,S,_,_,e1,r,st,λH1 M1 g1 st1=>?_⟩
  refine gF ?_
  exact q _ M1 g1 st1
 .cases e⟩
theorem Zt(ha:DT X a f)(hb:DW X (.BoolOp .Or (b::rest) pos) g):DW X (.BoolOp .Or (a::b::rest) pos) (eOr f g):=⟨W5 (my ha.pe hb.pe) λσ H Q z=>by
 obtain⟨M,E,S,k,S',e,r,st,q⟩:=z
 obtain⟨⟨w1,S1⟩,e1,e⟩:=BO e
 dsimp only at e
 split at e
 .refine⟨M,E,S,_,S1,e1,r,st,λH1 M1 g1 st1=>?_⟩
  refine gF ?_
  exact⟨M1,E,S1,k,S',e,r.step g1.st,st1,λH2 M2 g2 st2=>q _ M2 (g1.trans g2) st2⟩
 .cases e
  refine⟨M,E,S,_,_,e1,r,st,λH1 M1 g1 st1=>?_⟩
  refine gH ?_
  exact q _ M1 g1 st1
 .cases e⟩
theorem pR(hc:DT X c f)(ha:DE X a g)(hb:DE X b h):DE X (.IfExp c a b pos) (eIf f g h):=⟨CG (ag hc.pe ha.pe hb.pe) λσ H Q z=>by
 obtain⟨M,E,S,d,S',e,r,st,q⟩:=z
 obtain⟨⟨w1,S1⟩,e1,e⟩:=BO e
 dsimp only at e
 split at e
 .refine⟨M,E,S,_,S1,e1,r,st,λH1 M1 g1 st1=>?_⟩
  refine gH ?_
  exact⟨M1,E,S1,d,S',e,r.step g1.st,st1,λv H2 M2 g2 st2 r2=>q _ _ M2 (g1.trans g2) st2 r2⟩
 .refine⟨M,E,S,_,S1,e1,r,st,λH1 M1 g1 st1=>?_⟩
  refine gF ?_
  exact⟨M1,E,S1,d,S',e,r.step g1.st,st1,λv H2 M2 g2 st2 r2=>q _ _ M2 (g1.trans g2) st2 r2⟩
 .cases e⟩
end
inductive Fl where
 |nx
 |ret (d:D)
abbrev Ex:=En->Sto->uD (Fl×En×Sto)
def End(K:KE)(M:Ms)(H:Hp)(Dn:Ends)(E':En)(S':Sto):Fl->Prop
 | .nx=>∀σ' H' M',Gr M H M' H'->EnR K M' E' σ' H'->StR K M' S' H'->Dn.nx σ' H'
 | .ret d=>∀v H' M',Gr M H M' H'->StR K M' S' H'->EJ K M' H' v d->Dn.rt v H'
noncomputable def tX(K:KE)(f:Ex):TS:=λDn σ H=>∃M E S fl E' S',f E S=Fk (fl,E',S')/\EnR K M E σ H/\StR K M S H/\End K M H Dn E' S' fl
structure DS(X:Cx)(st:vC)(f:Ex):Prop where
 pe:PS X st (tX X.K f)
structure DSs(X:Cx)(st:Gc vC)(f:Ex):Prop where
 pe:PSs X st (tX X.K f)
theorem IX{X:Cx}{e:vC}{t t':TS}(h:PS X e t)(m:∀Dn σ H,t' Dn σ H->t Dn σ H):PS X e t':=λpins s σ H Dn I q=>h pins s σ H Dn I (m _ _ _ q)
theorem UY{X:Cx}{e:Gc vC}{t t':TS}(h:PSs X e t)(m:∀Dn σ H,t' Dn σ H->t Dn σ H):PSs X e t':=λpins s σ H Dn I q=>h pins s σ H Dn I (m _ _ _ q)
theorem End.later{K:KE}{M M1:Ms}{H H1:Hp}{Dn:Ends}{E':En}{S':Sto}{fl:Fl}(q:End K M H Dn E' S' fl)(g:Gr M H M1 H1):End K M1 H1 Dn E' S' fl:=by
 cases fl with
 |nx=>exact λσ' H' M' g' r st=>q σ' H' M' (g.trans g') r st
 |ret d=>exact λv H' M' g' st r=>q v H' M' (g.trans g') st r
noncomputable def Aa(f g:Ex):Ex:=λE S=>(f E S).bind λr=>match r.1 with
 | .nx=>g r.2.1 r.2.2
 | .ret w=>Fk (.ret w,r.2)
noncomputable def D5:Ex:=λE S=>Fk (.nx,E,S)
section
variable{X:Cx}{st:vC}{rest a b:Gc vC}{f g h:Ex}{c e:uh}{k:Ev}{pos:Pos}
theorem Az:DSs X [] D5:=⟨UY fF λDn σ H z=>by
 obtain⟨M,E,S,fl,E',S',e,r,st,q⟩:=z
 cases e
 exact q _ _ M (.refl st.mo) r st⟩
theorem AG(h1:DS X st f)(h2:DSs X rest g):DSs X (st::rest) (Aa f g):=⟨UY (U3 h1.pe h2.pe) λDn σ H z=>by
 obtain⟨M,E,S,fl,E',S',e,r,st,q⟩:=z
 obtain⟨⟨f1,E1,S1⟩,e1,e⟩:=BO e
 dsimp only at e
 split at e
 .exact⟨M,E,S,.nx,E1,S1,e1,r,st,λσ1 H1 M1 g1 r1 st1=>⟨M1,E1,S1,fl,E',S',e,r1,st1,q.later g1⟩⟩
 .cases e
  exact⟨M,E,S,.ret _,_,_,e1,r,st,q⟩⟩
theorem AK(h1:DS X st f):DSs X [st] f:=⟨Tv h1.pe⟩
noncomputable def xIf(c:Ev)(f g:Ex):Ex:=λE S=>(c E S).bind λr=>match r.1 with
 | .bl true=>f E r.2
 | .bl false=>g E r.2
 |_=>uC
theorem CF(hc:DT X c k)(ha:DSs X a f)(hb:DSs X b g):DS X (.If c a b pos) (xIf k f g):=⟨IX (oZ hc.pe ha.pe hb.pe) λDn σ H z=>by
 obtain⟨M,E,S,fl,E',S',e,r,st,q⟩:=z
 obtain⟨⟨w1,S1⟩,e1,e⟩:=BO e
 dsimp only at e
 split at e
 .refine⟨M,E,S,_,S1,e1,r,st,λH1 M1 g1 st1=>?_⟩
  refine gH ?_
  exact⟨M1,E,S1,fl,E',S',e,r.step g1.st,st1,q.later g1⟩
 .refine⟨M,E,S,_,S1,e1,r,st,λH1 M1 g1 st1=>?_⟩
  refine gF ?_
  exact⟨M1,E,S1,fl,E',S',e,r.step g1.st,st1,q.later g1⟩
 .cases e⟩
noncomputable def BI(k:Ev):Ex:=λE S=>(k E S).map λr=>(.ret r.1,E,r.2)
theorem AR(h:DE X e k):DS X (.Return (Fk e) pos) (BI k):=⟨IX (jK h.pe) λDn σ H z=>by
 obtain⟨M,E,S,fl,E',S',e,r,st,q⟩:=z
 obtain⟨⟨d,S1⟩,e1,e⟩:=MZ e
 cases e
 exact⟨M,E,S,d,S1,e1,r,st,λv H1 M1 g1 st1 r1=>q _ _ M1 g1 st1 r1⟩⟩
end
section
variable{K:KE}{M:Ms}{E:En}{σ:Sg}{H:Hp}{i:Nat}{d:D}{v:V}
theorem EnR.put(r:EnR K M E σ H)(rd:EJ K M H v d):EnR K M (E.set i (Fk d)) (σ.set i (Fk v)) H:=by
 refine⟨by rw[wt,wt];exact r.len,λj e ej=>?_⟩
 by_cases h:i=j
 .subst h
  by_cases hi:i<E.length
  .rw[uS hi]at ej
   cases ej
   exact⟨v,uS (by rw[<-r.len];exact hi),rd⟩
  .rw[xH.mpr (by rw[wt];lia)]at ej;cases ej
 .rw[uK h]at ej
  obtain⟨v',h1,h2⟩:=r.val j e ej
  exact⟨v',by rw[uK h];exact h1,h2⟩
end
noncomputable def BQ(i:Nat)(k:Ev):Ex:=λE S=>(k E S).map λr=>(.nx,E.set i (Fk r.1),r.2)
theorem Ai{X:Cx}{e:uh}{k:Ev}{pos pos':Pos}(i:Nat){x:Str}(h:DE X e k)(hN:X.N.Nodup)(hi:X.N[i]?=Fk x:=by rfl)(hx:Loc X.env.scope x:=by first|exact Or.inl rfl|exact Or.inr rfl)(hs:swapsWith e (Fk (.Name x pos')) pos.line X.env=pure false:=by rfl)(hf:X.fn x=true\/X.env.scope.names.lookup x=Fk .local:=by first|exact .inl rfl|exact .inr rfl):DS X (.Assign [.Name x pos'] e pos) (BQ i k):=⟨
 IX (jX hN hi hx h.pe hs hf) λDn σ H z=>by
  obtain⟨M,E,S,fl,E',S',e,r,st,q⟩:=z
  obtain⟨⟨d,S1⟩,e1,e⟩:=MZ e
  cases e
  exact⟨M,E,S,d,S1,e1,r,st,λv H1 M1 g1 st1 r1=>q _ _ M1 g1 ((r.step g1.st).put r1) st1⟩⟩
noncomputable def Bm(k:Ev):Ex:=λE S=>(k E S).map λr=>(.nx,E,r.2)
theorem BV{X:Cx}{e:uh}{k:Ev}{pos:Pos}(h:DE X e k)(hs:swapsWith e uC pos.line X.env=pure false:=by rfl):DS X (.Expr e pos) (Bm k):=⟨IX (YF h.pe hs) λDn σ H z=>by
 obtain⟨M,E,S,fl,E',S',e,r,st,q⟩:=z
 obtain⟨⟨d,S1⟩,e1,e⟩:=MZ e
 cases e
 exact⟨M,E,S,d,S1,e1,r,st,λv H1 M1 g1 st1 r1=>q _ _ M1 g1 (r.step g1.st) st1⟩⟩
noncomputable def Gj(S:Sto)(n:Nat):uD (Gc D):=match S[n]? with
 |some (.lst ds)=>Fk ds
 |_=>uC
theorem G7{S:Sto}{n:Nat}{ds:Gc D}(h:Gj S n=Fk ds):S[n]?=Fk (.lst ds):=by
 unfold Gj at h
 split at h
 .rename_i e
  cases h
  exact e
 .cases h
abbrev Mo:=Sto->Gc D->Gc D->uD (D×Gc D)
noncomputable def Le(op:Mo)(f:Ev)(fs:Gc Ev):Ev:=λE S=>(f E S).bind λr=>match r.1 with
 | .ref n=>(Gj r.2 n).bind λ_=>(evs fs E r.2).bind λp=>(Gj p.2 n).bind λds=>(op p.2 ds p.1).map λq=>(q.1,p.2.set n (.lst q.2))
 |_=>uC
def mP(K:KE)(op:Mo):V->Gc V->Hp->VK->Prop:=λx vs H Q=>∃M S n a ds args d ds',x=.ref a/\M.cel[n]?=Fk a/\S[n]?=Fk (.lst ds)/\op S ds args=Fk (d,ds')/\StR K M S H/\A1 K M H vs args/\∀v H',StR K M (S.set n (.lst ds')) H'->Gr M H M H'->EJ K M H' v d->Q v H'
section
variable{X:Cx}
theorem ig{op:Mo}{f:Ev}{fs:Gc Ev}{σ:Sg}{H:Hp}{Q:VK}(h:tD X.K (Le op f fs) σ H Q):tBM X.K "list" (mP X.K op) (tD X.K f) (tDs X.K fs) σ H Q:=by
 obtain⟨M,E,S,d,S',e,r,st,q⟩:=h
 obtain⟨⟨d1,S1⟩,e1,e⟩:=BO e
 dsimp only at e
 split at e
 .rename_i n
  obtain⟨ds0,e2,e⟩:=BO e
  obtain⟨⟨args,S2⟩,e3,e⟩:=BO e
  obtain⟨ds,e4,e⟩:=BO e
  obtain⟨⟨dd,ds'⟩,e5,e⟩:=MZ e
  cases e
  refine⟨M,E,S,_,S1,e1,r,st,λv H1 M1 g1 st1 r1=>?_⟩
  cases r1 with
  |ref hc=>
   rename_i a
   obtain⟨xs,h1,h2⟩:=st1.cell n a _ hc (G7 e2)
   refine⟨.inl ⟨rfl,xs,.of h1⟩,?_⟩
   refine Jd e3 (r.step g1.st) st1 λvs H2 M2 g2 st2 r2=>?_
   exact⟨M2,S2,n,a,ds,args,dd,ds',rfl,Qr g2.pre hc,G7 e4,e5,st2,r2,λv H3 st3 g3 r3=>q _ _ M2 ((g1.trans g2).trans g3) st3 r3⟩
 .cases e
theorem IH{id:xA}{name:Str}{o e:uh}{es:Gc uh}{op:Mo}{f:Ev}{fs:Gc Ev}{apos cpos:Pos}(slot:Slot "list" name id)(hty:typeOf (.builtin id)=pure (.type "method_descriptor"))(hm:MtR X id (mP X.K op))(ho:DE X o f)(ha:DEs X (e::es) fs)(hbase:attributeBase o name X.env (eval o X.env)=eval o X.env:=by rfl)(hfew:((backTo cpos (ue (e::es) X.env)).all (λx=> !x.1) && (backToKw cpos (keywordEach [] X.env)).all (λx=>x.1.isSome) && decide ((e::es).length+([]:Gc zf).length+(if([]:Gc zf).isEmpty then 0 else 1)<30))=true:=by rfl)(hline:(apos.endLine==cpos.line)=true:=by rfl)(hs:ue (e::es) X.env=(false,eval e X.env)::ue es X.env:=by rfl)(hplain:(backTo cpos (ue es X.env)).any (·.1)=false:=by rfl):DE X (.Call (.Attribute o name apos) (e::es) [] cpos) (Le op f fs):=⟨CG (nJ PySem.F.plainAttrs_list slot hty hm ho.pe ha.pe hbase hfew hline hs hplain) λσ H Q z=>ig z⟩
noncomputable def L9:Mo
 |_,ds,[x]=>if ds.length<sizeLine then Fk (.non,ds++[x])else uC
 |_,_,_=>uC
theorem Uv{K:KE}{M:Ms}{H:Hp}{vs:Gc V}{d:D}(h:A1 K M H vs [d]):∃v,vs=[v]/\EJ K M H v d:=by
 cases h with
 |cons h t=>cases t;exact⟨_,rfl,h⟩
theorem F5:MtR X "list.append" (mP X.K L9):=by
 intro pins s σ H x vs v us Q I rx rv h
 obtain⟨M,S,n,a,ds,args,d,ds',rfl,hc,hn,e,st,ra,q⟩:=h
 unfold L9 at e
 split at e
 .split at e
  .rename_i hz
   cases e
   obtain⟨xs,h1,h2⟩:=st.cell n a _ hc hn
   obtain⟨y,rfl,ry⟩:=Uv ra
   obtain⟨st2,g2⟩:=st.chg hc hn (h2.append (.cons ry .nil))
   exact R5 pins s σ H _ _ v us Q I rx rv ⟨a,xs,y,rfl,rfl,h1,by rw[h2.length];exact hz,q _ _ st2 g2 .non⟩
  .cases e
 .cases e
end
noncomputable def P2(k f o:Ev):Ex:=λE S=>(k E S).bind λr=>(f E r.2).bind λb=>(o E b.2).bind λi=>match b.1,i.1 with
 | .ref n,.int j=>(Gj i.2 n).bind λds=>(ixN ds.length j).map λm=>(.nx,E,i.2.set n (.lst (ds.set m r.1)))
 |_,_=>uC
theorem Ct {X : Cx} {e t bs : uh} {k f o : Ev} {ps pos : Pos} (h : DE X e k) (hb : DE X bs f) (ht : DE X t o) (ha : ∀ v, assign (.Subscript bs t ps) X.env v = (do
      let ov ← holding [v] (eval bs X.env)
      let iv ← holding [v, ov] (eval t X.env)
      standAt ps
      holding [v, ov, iv] (setItem ov iv v)
      release [v, ov, iv] []) := by intro _; rfl)
    (hs : swapsWithSole [.Subscript bs t ps] e pos.line X.env = pure false := by rfl) (hw : swappedStores [.Subscript bs t ps] e X.env = pure none := by rfl)
    (h1 : (assignEach [.Subscript bs t ps] X.env).map (·.2) = [assign (.Subscript bs t ps) X.env] := by rfl) :
    DS X (.Assign [.Subscript bs t ps] e pos) (P2 k f o) := ⟨
  IX (cR h.pe (kJ hb.pe ht.pe set_list ha) hs hw h1) fun Dn σ H z => by
    obtain ⟨M, E, S, fl, E', S', e, r, st, q⟩ := z
    obtain ⟨⟨d, S1⟩, e1, e⟩ := BO e
    obtain ⟨⟨b, S2⟩, e2, e⟩ := BO e
    obtain ⟨⟨i, S3⟩, e3, e⟩ := BO e
    dsimp only at e e1 e2 e3
    split at e
    · rename_i n j _
      obtain ⟨ds, e4, e⟩ := BO e
      obtain ⟨m, e5, e⟩ := MZ e
      cases e
      refine ⟨M, E, S, d, S1, e1, r, st, fun v H1 M1 g1 st1 r1 => ?_⟩
      refine ⟨M1, E, S1, _, S2, e2, r.step g1.st, st1, fun bv H2 M2 g2 st2 r2 => ?_⟩
      refine ⟨M2, E, S2, _, S3, e3, (r.step g1.st).step g2.st, st2, fun iv H3 M3 g3 st3 r3 => ?_⟩
      cases r3
      cases r2 with
      | ref hc =>
        rename_i a
        have hc3 := Qr g3.pre hc
        obtain ⟨xs, h1, h2⟩ := st3.cell n a _ hc3 (G7 e4)
        obtain ⟨st4, g4⟩ := st3.chg hc3 (G7 e4) (h2.set ((r1.step g2.st).step g3.st) m)
        have g := ((g1.trans g2).trans g3).trans g4
        exact ⟨a, xs, j, m, rfl, rfl, h1, by rw [h2.length]; exact e5, q _ _ M3 g (r.step g.st) st4⟩
    · cases e⟩
abbrev Fn:=Gc D->Sto->uD (D×Sto)
noncomputable def flD:Fl->D
 | .nx=>.non
 | .ret d=>d
noncomputable def A3(N:Nat)(body:Ex):Fn:=λds S=>(body (ds.map Fk++uc (N-ds.length) uC) S).map λr=>(flD r.1,r.2.2)
def Ar{α:Type}(a:α):α:=Classical.choose (⟨a,rfl⟩:∃x,x=a)
theorem KP{α:Type}(a:α):Ar a=a:=Classical.choose_spec (⟨a,rfl⟩:∃x,x=a)
noncomputable def spD(K:KE)(np:Nat)(f:Fn):Sp:=λvs H Q _=>∃M ds S d S',ds.length=np/\f ds S=Fk (d,S')/\A1 K M H vs ds/\StR K M S H/\∀v H' M',Gr M H M' H'->StR K M' S' H'->EJ K M' H' v d->Q v H'
theorem SQ{α:Type}{xs:Gc α}{i:Nat}{x:α}(h:(xs.map Fk)[i]?=Fk (Fk x)):xs[i]?=Fk x:=by
 rw[uQ]at h
 cases e:xs[i]? with
 |none=>rw[e]at h;cases h
 |some y=>rw[e]at h;cases h;rfl
theorem W0{α:Type}{xs:Gc (uD α)}{k i:Nat}{x:α}(h:(xs++uc k uC)[i]?=Fk (Fk x)):xs[i]?=Fk (Fk x):=by
 by_cases hi:i<xs.length
 .rw[uH hi]at h;exact h
 .rw[vI (by lia),zx]at h
  split at h<;>cases h
theorem gd{α:Type}{xs:Gc (uD α)}{k i:Nat}{x:uD α}(h:xs[i]?=Fk x):(xs++uc k uC)[i]?=Fk x:=by
 rw[uH (uL.mp h).1];exact h
theorem EnR.args{K:KE}{M:Ms}{H:Hp}{vs:Gc V}{ds:Gc D}(r:A1 K M H vs ds)(k:Nat):EnR K M (ds.map Fk++uc k uC) (vs.map Fk++uc k uC) H:=by
 refine⟨by simp[r.length],λi d e=>?_⟩
 obtain⟨v,h1,h2⟩:=r.get (SQ (W0 e))
 exact⟨v,gd (by rw[uQ,h1];rfl),h2⟩
section
variable{P:ug}{w:vG}{K:KE}{mg:Str->uD Wp}{base:ux}
theorem je{x:Str}{st:vC}{f:uF}{fd:wV}{N ps:Gc Str}{k np:Nat}{b:Ex}(Fu:Fun K x x st f fd)(S:AQ N ps (AH st))(hp:ps.length=np)(hb:∀(cdv:Wp) (A:vF) (outer:Gc wF) (s:uE) (H:Hp) (E:XK),Hu k (A.deeper (vW x (AH st) s.heap.objs.size f cdv))->DSs (NR CX0 P w K mg base N x (AH st) f cdv A outer s H E).nox (DX st) b):Up P w K mg base CX0 (k+1) f fd ps (spD K np (Ar (A3 N.length b))):=by
 rw[KP]
 refine Fu.ok S (λvs H Q E h=>?_) (λcdv A outer s H vs Q E hr h=>?_)
 .obtain⟨M,ds,S0,d,S',hl,_,r,_⟩:=h
  have:=r.length
  lia
 .obtain⟨M,ds,S0,d,S',hl,e,r,st,q⟩:=h
  have hlen:=r.length
  refine⟨_,(hb cdv A outer s H E hr).pe,?_⟩
  obtain⟨⟨fl,E',S1⟩,e1,e⟩:=MZ e
  cases e
  refine⟨M,_,S0,fl,E',S1,e1,?_,st,?_⟩
  .rw[show L2.start N vs=vs.map Fk++uc (N.length-ds.length) uC from by unfold L2.start;rw[hlen]]
   exact .args r _
  .cases fl with
   |nx=>exact λσ' H' M' g _ st'=>q _ _ M' g st' .non
   |ret d=>exact λv H' M' g st' r'=>q _ _ M' g st' r'
theorem j8{x:Str}{st:vC}{N ps:Gc Str}{k np:Nat}{b:Ex}(S:St.Src K mg x st)(sc:AQ N ps (AH st))(hp:ps.length=np)(hbi:∀f fd,Fun K x x st f fd->Binds K fd ps [])(hb:∀(f:uF) (cdv:Wp) (A:vF) (outer:Gc wF) (s:uE) (H:Hp) (E:XK),Hu k (A.deeper (vW x (AH st) s.heap.objs.size f cdv))->DSs (NR CX0 P w K mg base N x (AH st) f cdv A outer s H E).nox (DX st) b):St.Dfn P w K mg base x (k+1) ps (spD K np (Ar (A3 N.length b))):=by
 obtain⟨f,fd,Fu,hm⟩:=S.ex
 exact⟨f,fd,hm,Fu.kp,hbi f fd Fu,je Fu sc hp λcdv A outer s H E hr=>hb f cdv A outer s H E hr⟩
end
noncomputable def AJ(f:Fn)(fs:Gc Ev):Ev:=λE S=>(evs fs E S).bind λr=>f r.1 r.2
theorem fI{K:KE}{np:Nat}{f:Fn}{fs:Gc Ev}{σ:Sg}{H:Hp}{Q:VK}(hn:fs.length=np)(h:tD K (AJ f fs) σ H Q):dY (spD K np f) [] E0 (tDs K fs) σ H Q:=by
 obtain⟨M,E,S,d,S',e,r,st,q⟩:=h
 obtain⟨⟨ds,S1⟩,e1,e⟩:=BO e
 refine Jd e1 r st λvs H1 M1 g1 st1 r1=>?_
 rw[wJ]
 exact⟨M1,ds,S1,d,S',by rw[N8 e1];exact hn,e,r1,st1,λv H2 M2 g2 st2 r2=>q _ _ M2 (g1.trans g2) st2 r2⟩
theorem fS{X:Cx}{k np:Nat}{x:Str}{ps:Gc Str}{f:Fn}{e:uh}{es:Gc uh}{fs:Gc Ev}{p pos:Pos}(d:St.Dfn X.prog X.w X.K X.mg X.base x k ps (spD X.K np f))(hr:Hu k X.A)(hg:Gl X x)(ha:DEs X (e::es) fs)(hn:fs.length=np:=by rfl)(hdb:(x==("__debug__":Str))=false:=by decide)(he:ue (e::es) X.env=(false,eval e X.env)::ue es X.env:=by rfl)(hpl:(backTo pos (ue es X.env)).any (·.1)=false:=by rfl):DE X (.Call (.Name x p) (e::es) [] pos) (AJ f fs):=⟨CG (St.pb d hr hg ha.pe hdb he hpl) λσ H Q z=>fI hn z⟩
abbrev Tf:=D->En->Sto->uD En
noncomputable def tG(K:KE)(t:Tf):TG:=λv σ H Q=>∃M d E E' S,t d E S=Fk E'/\EnR K M E σ H/\StR K M S H/\EJ K M H v d/\∀σ',EnR K M E' σ' H->Q σ' H
structure DG(X:Cx)(tg:uh)(t:Tf):Prop where
 pe:PG X tg (tG X.K t)
noncomputable def tNm(i:Nat):Tf:=λd E _=>Fk (E.set i (Fk d))
theorem X1{X:Cx}{e:uh}{t t':TG}(h:PG X e t)(m:∀v σ H Q,t' v σ H Q->t v σ H Q):PG X e t':=λpins s σ H v u Q I r q=>h pins s σ H v u Q I r (m _ _ _ _ q)
theorem Ah{X:Cx}{pos:Pos}(i:Nat){x:Str}(hN:X.N.Nodup)(hi:X.N[i]?=Fk x:=by rfl)(hx:Loc X.env.scope x:=by first|exact Or.inl rfl|exact Or.inr rfl)(hf:X.fn x=true\/X.env.scope.names.lookup x=Fk .local:=by first|exact .inl rfl|exact .inr rfl):DG X (.Name x pos) (tNm i):=⟨X1 (gj hN hi hx hf) λv σ H Q z=>by
 obtain⟨M,d,E,E',S,e,r,st,rd,q⟩:=z
 cases e
 exact q _ (r.put rd)⟩
noncomputable def tMs:Gc Tf->Gc D->En->Sto->uD En
 | [],[],E,_=>Fk E
 |t::ts,d::ds,E,S=>(t d E S).bind λE1=>tMs ts ds E1 S
 |_,_,_,_=>uC
noncomputable def tTp(ts:Gc Tf):Tf:=λd E S=>match d with
 | .tup ds=>tMs ts ds E S
 | .lst ds=>tMs ts ds E S
 | .ref n=>(Gj S n).bind λds=>tMs ts ds E S
 |_=>uC
noncomputable def tGs(K:KE):Gc Tf->TGs
 | []=>qx
 |t::ts=>kY (tG K t) (tGs K ts)
theorem VD{K:KE}{M:Ms}{H:Hp}{S:Sto}(st:StR K M S H):∀{ts:Gc Tf} {ds:Gc D} {vs:Gc V} {E E':En} {σ:Sg} {Q:Sg->Hp->Prop},tMs ts ds E S=Fk E'->EnR K M E σ H->A1 K M H vs ds->(∀σ',EnR K M E' σ' H->Q σ' H)->tGs K ts vs σ H Q
 | [],[],_,E,E',σ,Q,e,r,rd,q=>by
   cases e
   cases rd
   exact⟨rfl,q _ r⟩
 |t::ts,d::ds,_,E,E',σ,Q,e,r,rd,q=>by
  obtain⟨E1,e1,e⟩:=BO e
  cases rd with
  |cons h1 h2=>exact⟨_,_,rfl,M,d,E,E1,S,e1,r,st,h1,λσ1 r1=>VD st e r1 h2 q⟩
 | [],_::_,_,E,E',σ,Q,e,r,rd,q=>by cases e
 |_::_,[],_,E,E',σ,Q,e,r,rd,q=>by cases e
theorem QQ:∀{ts:Gc Tf} {ds:Gc D} {E E':En} {S:Sto},tMs ts ds E S=Fk E'->ds.length=ts.length
 | [],[],_,_,_,_=>rfl
 |t::ts,d::ds,E,E',S,e=>by
  obtain⟨E1,e1,e⟩:=BO e
  simp[QQ e]
 | [],_::_,_,_,_,e=>by cases e
 |_::_,[],_,_,_,e=>by cases e
structure DGs(X:Cx)(es:Gc uh)(ts:Gc Tf):Prop where
 pe:PGs X es (tGs X.K ts)
theorem Bg{X:Cx}:DGs X [] []:=⟨eP⟩
theorem AO{X:Cx}{e:uh}{es:Gc uh}{t:Tf}{ts:Gc Tf}(h:DG X e t)(g:DGs X es ts)(hs:(assignEach (e::es) X.env).map (·.2)=assign e X.env::(assignEach es X.env).map (·.2):=by rfl):DGs X (e::es) (t::ts):=⟨bC h.pe g.pe hs⟩
theorem FC{X:Cx}{k:Nat}{es:Gc uh}{ts:Gc Tf}{pos:Pos}(hc:X.calm=true)(h:DGs X es ts)(hn:(assignEach es X.env).length=ts.length:=by rfl)(hst:(assignEach es X.env).findIdx? (·.1)=none:=by rfl):DG X (.Tuple es k pos) (tTp ts):=⟨
 X1 (iW hc h.pe hn hst) λv σ H Q z=>by
  obtain⟨M,d,E,E',S,e,r,st,rd,q⟩:=z
  unfold tTp at e
  split at e
  .cases rd with
   |tup h1 h2=>exact⟨_,_,rfl,.inl h1,by rw[h2.length];exact QQ e,VD st e r h2 q⟩
  .cases rd with
   |lst h1 n h2=>exact⟨_,_,rfl,.inr h1,by rw[h2.length];exact QQ e,VD st e r h2 q⟩
  .obtain⟨ds,e1,e⟩:=BO e
   cases rd with
   |ref hc=>
    obtain⟨xs,h1,h2⟩:=st.cell _ _ _ hc (G7 e1)
    exact⟨_,_,rfl,.inr h1,by rw[h2.length];exact QQ e,VD st e r h2 q⟩
  .cases e⟩
noncomputable def Qs(t:Tf)(k:Ev):Ex:=λE S=>(k E S).bind λr=>(t r.1 E r.2).map λE'=>(.nx,E',r.2)
theorem HX{X:Cx}{tg e:uh}{t:Tf}{k:Ev}{pos:Pos}(h:DE X e k)(hg:DG X tg t)(hs:swapsWithSole [tg] e pos.line X.env=pure false:=by rfl)(hw:swappedStores [tg] e X.env=pure none:=by rfl)(h1:(assignEach [tg] X.env).map (·.2)=[assign tg X.env]:=by rfl):DS X (.Assign [tg] e pos) (Qs t k):=⟨IX (cR h.pe hg.pe hs hw h1) λDn σ H z=>by
 obtain⟨M,E,S,fl,E',S',e,r,st,q⟩:=z
 obtain⟨⟨d,S1⟩,e1,e⟩:=BO e
 obtain⟨E2,e2,e⟩:=MZ e
 cases e
 exact⟨M,E,S,d,S1,e1,r,st,λv H1 M1 g1 st1 r1=>⟨M1,d,E,_,S1,e2,r.step g1.st,st1,r1,λσ' r2=>q _ _ M1 g1 r2 st1⟩⟩⟩
noncomputable def TM(i j:Nat)(f g:Ev):Ex:=λE S=>(evs [f,g] E S).bind λr=>match r.1 with
 | [d,d']=>Fk (.nx,(E.set i (Fk d)).set j (Fk d'),r.2)
 |_=>uC
theorem KI{X:Cx}{i j:Nat}{x y:Str}{a b:uh}{f g:Ev}{px py pt:Pos}{kt k2:Nat}{pt2 pos:Pos}(hc:X.calm=true)(hN:X.N.Nodup)(hi:X.N[i]?=Fk x)(hj:X.N[j]?=Fk y)(hij:i≠j)(hx:X.env.scope.names.lookup x=Fk .local)(hy:X.env.scope.names.lookup y=Fk .local)(ha:DE X a f)(hb:DE X b g)(hw:swappedStores [.Tuple [.Name x px,.Name y py] kt pt] (.Tuple [a,b] k2 pt2) X.env=pure (Fk [x,y]):=by rfl)(hsa:ue [a,b] X.env=(false,eval a X.env)::ue [b] X.env:=by rfl)(hsb:ue [b] X.env=(false,eval b X.env)::ue [] X.env:=by rfl)(hs:swapsWithSole [.Tuple [.Name x px,.Name y py] kt pt] (.Tuple [a,b] k2 pt2) pos.line X.env=pure false:=by rfl):DS X (.Assign [.Tuple [.Name x px,.Name y py] kt pt] (.Tuple [a,b] k2 pt2) pos) (TM i j f g):=⟨by
 refine IX (iM hc hN hi hj hij hx hy (Qq ha.pe (Qq hb.pe YJ hsb) hsa) hw hs) λDn σ H z=>?_
 obtain⟨M,E,S,fl,E',S',e,r,st,q⟩:=z
 obtain⟨⟨ds,S1⟩,e1,e⟩:=BO e
 refine Jd (K:=X.K) (fs:=[f,g]) e1 r st λvs H1 M1 g1 st1 r1=>?_
 dsimp only at e
 split at e
 .rename_i d d'
  cases e
  cases r1 with
  |cons h1 t=>
   cases t with
   |cons h2 t=>
    cases t
    exact⟨_,_,rfl,q _ _ M1 g1 (((r.step g1.st).put h1).put h2) st1⟩
 .cases e⟩
noncomputable def TJ:Ex:=λ_ _=>uC
theorem Uo{X:Cx}{st:vC}:DS X st TJ:=⟨λ_ _ _ _ _ _ z=>by
 obtain⟨M,E,S,fl,E',S',e,_⟩:=z
 cases e⟩
abbrev Gd:=Gc (Nat×Gc D)
def gOk(gs:Gd)(S:Sto):Prop:=∀g∈gs,Gj S g.1=Fk g.2
abbrev Sr:=En->Sto->uD ((Gc D×Gd)×Sto)
structure iU(K:KE)(M:Ms)(H:Hp)(gs:Gd)(ds:Gc D)(J:It):Prop where
 go:∀(i:Nat) (H2:Hp) (M2:Ms) (S2:Sto),Sp1 M H M2 H2->StR K M2 S2 H2->gOk gs S2->i<ds.length->J.go i H2
 stop:∀(i:Nat) (H2:Hp) (M2:Ms) (S2:Sto),Sp1 M H M2 H2->StR K M2 S2 H2->gOk gs S2->ds.length<=i->J.stop i H2
 yld:∀(i:Nat) (H2:Hp) (M2:Ms) (S2:Sto) (x:V) (H3:Hp) (d:D),Sp1 M H M2 H2->StR K M2 S2 H2->gOk gs S2->ds[i]?=Fk d->J.yld i H2 x H3->(∀a o,H2 a=Fk o->H3 a=Fk o)/\EJ K M2 H3 x d
noncomputable def tI(K:KE)(s:Sr):TI:=λσ H R=>∃M E S ds gs S',s E S=Fk ((ds,gs),S')/\EnR K M E σ H/\StR K M S H/\∀J H' M',Gr M H M' H'->StR K M' S' H'->iU K M' H' gs ds J->R J H'
structure DI(X:Cx)(tg iter:uh)(s:Sr):Prop where
 pe:PI X tg iter (tI X.K s)
theorem Q0{X:Cx}{tg e:uh}{t t':TI}(h:PI X tg e t)(m:∀σ H R,t' σ H R->t σ H R):PI X tg e t':=λpins s σ H R I q=>h pins s σ H R I (m _ _ _ q)
noncomputable def rh(K:KE)(tl:TE):TI:=λσ H R=>tl σ H λx H1=>∃a,x=.ref a/\(((∃xs,SqL K H1 a xs)/\R (Itl K a) H1)\/((∃xs,SqT K H1 a xs)/\R (Itt K a) H1))
theorem jx{X:Cx}{tg l:uh}{tl:TE}(hl:PE X l tl):PI X tg l (rh X.K tl):=by
 intro pins s σ H R I h
 refine thn (hl pins s σ H _ I h) λv s1 ⟨x,H1,I1,r1,q1⟩=>?_
 obtain⟨a,e,q1⟩:=q1
 subst e
 cases r1
 rcases q1 with⟨⟨xs,hq⟩,q⟩|⟨⟨xs,hq⟩,q⟩
 .obtain⟨its,rv,p,hz⟩:=I1.list hq
  refine wN p.isList ?_
  refine⟨s1.heap.objs.size,[s1.heap.objs.size],_,_,H1,rfl,I1.kept (t':=s1.toks) λb o e=>uB _ e,XA a _,⟨_,uf _ rfl,rfl,rfl⟩,λb hb=>?_,q⟩
  have e:b=s1.heap.objs.size:=by simpa using hb
  subst e
  exact I1.fW (uN _) (I1.hok.fresh (uN _))
 .obtain⟨its,rv,p,hz⟩:=I1.tuple hq
  refine wW (show s1.heap.IsTuple a its.toArray from p) ?_
  refine⟨s1.heap.objs.size,[s1.heap.objs.size],_,_,H1,rfl,I1.kept (t':=s1.toks) λb o e=>uB _ e,Vi a _,⟨_,uf _ rfl,rfl,rfl⟩,λb hb=>?_,q⟩
  have e:b=s1.heap.objs.size:=by simpa using hb
  subst e
  exact I1.fW (uN _) (I1.hok.fresh (uN _))
theorem A1.get'{K:KE}{M:Ms}{H:Hp}{vs:Gc V}{ds:Gc D}{i:Nat}(h:A1 K M H vs ds)(hi:i<ds.length):∃x,vs[i]?=Fk x:=by
 have:=h.length
 exact⟨vs[i],W1 (by omega)⟩
structure SqF(K:KE)(M:Ms)(H:Hp)(gs:Gd)(k:vE)(a:uF)(ds:Gc D):Prop where
 keep:∀(H2:Hp) (M2:Ms) (S2:Sto),Sp1 M H M2 H2->StR K M2 S2 H2->gOk gs S2->∃xs,(if k=true then SqT K H2 a xs else SqL K H2 a xs)/\A1 K M2 H2 xs ds
noncomputable def sqD(S:Sto):D->uD (Gc D×Gd)
 | .tup ds=>Fk (ds,[])
 | .lst ds=>Fk (ds,[])
 | .ref n=>(Gj S n).map λds=>(ds,[(n,ds)])
 | .scr ns=>Fk (ns.map .int,[])
 |_=>uC
theorem VH{K:KE}{M:Ms}{H:Hp}{S:Sto}{v:V}{d:D}{ds:Gc D}{gs:Gd}(st:StR K M S H)(h:EJ K M H v d)(e:sqD S d=Fk (ds,gs)):∃k a,v=.ref a/\SqF K M H gs k a ds:=by
 cases h with
 |tup h r=>cases e;exact⟨true,_,rfl,⟨λH2 M2 S2 g _ _=>⟨_,g.sqT h,r.step g⟩⟩⟩
 |lst h n r=>cases e;exact⟨false,_,rfl,⟨λH2 M2 S2 g _ _=>⟨_,SqL.of (g.keep _ _ h n),r.step g⟩⟩⟩
 |scr h=>
  cases e
  refine⟨false,_,rfl,⟨λH2 M2 S2 g _ _=>⟨_,?_,Nc⟩⟩⟩
  rcases h with⟨h,n⟩|h
  .rcases h with h|⟨o,h⟩
   .exact .inl (.inl (g.keep _ _ h n))
   .exact .inl (.inr ⟨o,g.keep _ _ h n⟩)
  .exact .inr h
 |ref h=>
  obtain⟨es,e1,e⟩:=MZ e
  cases e
  refine⟨false,_,rfl,⟨λH2 M2 S2 g st2 ok=>?_⟩⟩
  obtain⟨xs,h1,h2⟩:=st2.cell _ _ _ (Qr g.pre h) (G7 (ok _ (uo.mpr rfl)))
  exact⟨xs,SqL.of h1,h2⟩
 |non=>cases e
 |bl b=>cases e
 |int b=>cases e
 |str b=>cases e
 |ty b=>cases e
 |dct h n r=>cases e
theorem oO{K:KE}{M:Ms}{H:Hp}{gs:Gd}{k:vE}{a:uF}{ds:Gc D}(h:SqF K M H gs k a ds):iU K M H gs ds (if k=true then Itt K a else Itl K a):=by
 cases k with
 |true=>
  exact{
   go:=λi H2 M2 S2 g st ok hi=>let⟨xs,h1,h2⟩:=h.keep H2 M2 S2 g st ok;let⟨x,hx⟩:=h2.get' hi;⟨xs,x,h1,hx⟩
   stop:=λi H2 M2 S2 g st ok hi=>let⟨xs,h1,h2⟩:=h.keep H2 M2 S2 g st ok;⟨xs,h1,by have:=h2.length;omega⟩
   yld:=λi H2 M2 S2 x H3 d g st ok hd hy=>by
    obtain⟨xs,h1,h2⟩:=h.keep H2 M2 S2 g st ok
    obtain⟨rfl,hy⟩:=hy
    refine⟨λ_ _ e=>e,?_⟩
    have hx:=hy xs h1
    obtain⟨x',h3,h4⟩:=h2.get hd
    rw[hx]at h3;cases h3
    exact h4}
 |false=>
  exact{
   go:=λi H2 M2 S2 g st ok hi=>let⟨xs,h1,h2⟩:=h.keep H2 M2 S2 g st ok;let⟨x,hx⟩:=h2.get' hi;⟨xs,x,h1,hx⟩
   stop:=λi H2 M2 S2 g st ok hi=>let⟨xs,h1,h2⟩:=h.keep H2 M2 S2 g st ok;⟨xs,h1,by have:=h2.length;omega⟩
   yld:=λi H2 M2 S2 x H3 d g st ok hd hy=>by
    obtain⟨xs,h1,h2⟩:=h.keep H2 M2 S2 g st ok
    obtain⟨rfl,hy⟩:=hy
    refine⟨λ_ _ e=>e,?_⟩
    have hx:=hy xs h1
    obtain⟨x',h3,h4⟩:=h2.get hd
    rw[hx]at h3;cases h3
    exact h4}
noncomputable def Js(f:Ev):Sr:=λE S=>(f E S).bind λr=>(sqD r.2 r.1).map λp=>(p,r.2)
theorem QY{S:Sto}{d:D}{ds:Gc D}{gs:Gd}(e:sqD S d=Fk (ds,gs)):gOk gs S:=by
 cases d<;>first|(cases e;done)|skip
 all_goals first
  |(cases e;intro g hg;cases hg;done)
  |(obtain⟨es,e1,e⟩:=MZ e
    cases e
    intro g hg
    rw[uo.mp hg]
    exact e1)
theorem DU{X:Cx}{tg e:uh}{f:Ev}(h:DE X e f):DI X tg e (Js f):=⟨Q0 (jx h.pe) λσ H R z=>by
 obtain⟨M,E,S,ds,gs,S',e,r,st,q⟩:=z
 obtain⟨⟨d,S1⟩,e1,e⟩:=BO e
 obtain⟨⟨ds',gs'⟩,e2,e⟩:=MZ e
 cases e
 refine⟨M,E,S,d,S1,e1,r,st,λv H1 M1 g1 st1 r1=>?_⟩
 obtain⟨k,a,rfl,sq⟩:=VH st1 r1 e2
 obtain⟨xs,hs,_⟩:=sq.keep H1 M1 S1 (Gr.refl st1.mo).st st1 (QY e2)
 have it:=oO sq
 refine⟨a,rfl,?_⟩
 cases k with
 |true=>exact .inr ⟨⟨xs,hs⟩,q _ _ M1 g1 st1 it⟩
 |false=>exact .inl ⟨⟨xs,hs⟩,q _ _ M1 g1 st1 it⟩⟩
noncomputable def J6(lo:Int)(n:Nat):Gc D:=(uU n).map λ(i:Nat)=>.int (lo+(i:Int))
theorem jW{K:KE}{M:Ms}{H:Hp}{lo:Int}{n:Nat}:iU K M H [] (J6 lo n) (Itr lo n) where
 go:=λi H2 M2 S2 g st ok hi=>by
  have:i<n:=by unfold J6 at hi;simpa using hi
  exact this
 stop:=λi H2 M2 S2 g st ok hi=>by
  have:n<=i:=by unfold J6 at hi;simpa using hi
  exact this
 yld:=λi H2 M2 S2 x H3 d g st ok hd hy=>by
  obtain⟨rfl,rfl⟩:=hy
  refine⟨λ_ _ e=>e,?_⟩
  unfold J6 at hd
  rw[uQ]at hd
  cases e:(uU n)[i]? with
  |none=>rw[e]at hd;cases hd
  |some j=>
   rw[e]at hd
   cases hd
   have:j=i:=by
    obtain⟨h1,h2⟩:=uL.mp e
    simpa using h2.symm
   subst this
   exact .int _
noncomputable def PM(fs:Gc Ev):Sr:=λE S=>(evs fs E S).bind λr=>match r.1 with
 | [.int j]=>if(decide (-(2^62)<=j) && decide (j<2^62))=true then Fk ((J6 0 j.toNat,[]),r.2)else uC
 | [.int i,.int j]=>if(decide (-(2^62)<=i) && decide (i<2^62) && decide (-(2^62)<=j) && decide (j<2^62))=true then Fk ((J6 i (j-i).toNat,[]),r.2)else uC
 |_=>uC
theorem VF{K:KE}{M:Ms}{H:Hp}{vs:Gc V}{j:Int}(h:A1 K M H vs [.int j]):vs=[.int j]:=by
 cases h with
 |cons h t=>cases t;cases h;rfl
theorem Fm{X:Cx}{tg a:uh}{o:Ev}{p pos:Pos}(hg:Gl X "range")(hm:X.mg "range"=uC)(ha:DEs X [a] [o])(hs:ue [a] X.env=[(false,eval a X.env)]:=by rfl):DI X tg (.Call (.Name "range" p) [a] [] pos) (PM [o]):=⟨
 Q0 (Wo hg hm ha.pe hs) λσ H R z=>by
  obtain⟨M,E,S,ds,gs,S',e,r,st,q⟩:=z
  obtain⟨⟨ws,S1⟩,e1,e⟩:=BO e
  have hl:=N8 e1
  refine Jd e1 r st λvs H1 M1 g1 st1 r1=>?_
  dsimp only at e
  split at e
  .split at e
   .rename_i j hk
    rw[uT]at hk
    cases e
    exact⟨j,VF r1,uW hk.1,uW hk.2,q _ _ M1 g1 st1 jW⟩
   .cases e
  .simp at hl
  .cases e⟩
open Classical in
def Ni(gs:Gd)(t:Tf)(body:Ex):Gc D->En->Sto->uD (Fl×En×Sto)
 | [],E,S=>if gOk gs S then Fk (.nx,E,S)else uC
 |d::ds,E,S=>if gOk gs S then(t d E S).bind λE1=>(body E1 S).bind λr=>match r.1 with
  | .nx=>Ni gs t body ds r.2.1 r.2.2
  | .ret w=>Fk (.ret w,r.2)
  else uC
def MH(s:Sr)(t:Tf)(body:Ex):Ex:=λE S=>(s E S).bind λr=>Ni r.1.2 t body r.1.1 E r.2
theorem R0{α:Type}{xs:Gc α}{i:Nat}{x:α}{r:Gc α}(h:xs.drop i=x::r):xs[i]?=Fk x/\xs.drop (i+1)=r/\i<xs.length:=by
 have hi:i<xs.length:=by
  by_cases hi:i<xs.length
  .exact hi
  .rw[vX (by omega)]at h;cases h
 rw[uy hi]at h
 cases h
 exact⟨W1 hi,rfl,hi⟩
theorem FA{X:Cx}{tg iter:uh}{body:Gc vC}{s:Sr}{t:Tf}{b:Ex}{pos:Pos}(hp:PassesOwn (model X.prog X.w) X.A X.env X.xe)(hc:X.calm=true)(hi:DI X tg iter s)(hg:DG X tg t)(hb:DSs X body b)(hs:∀x,foldedSetIterable iter X.env x=pure x:=by intro _;rfl):DS X (.For tg iter body [] pos) (MH s t b):=⟨IX (kh hp hc hi.pe hg.pe hb.pe hs) λDn σ H z=>by
 obtain⟨M,E,S,fl,E',S',e,r,st,q⟩:=z
 obtain⟨⟨⟨ds,gs⟩,S1⟩,e1,e⟩:=BO e
 dsimp only at e
 refine⟨M,E,S,ds,gs,S1,e1,r,st,λJ H1 M1 g1 st1 it=>?_⟩
 refine⟨λi m σ' H'=>m=ds.length-i/\∃E2 S2 M2,Ni gs t b (ds.drop i) E2 S2=Fk (fl,E',S')/\Gr M1 H1 M2 H'/\EnR X.K M2 E2 σ' H'/\StR X.K M2 S2 H',⟨_,rfl,E,S1,M1,e,.refl st1.mo,r.step g1.st,st1⟩,λi m σ2 H2 hW=>?_⟩
 obtain⟨rfl,E2,S2,M2,e2,g2,r2,st2⟩:=hW
 cases ed:ds.drop i with
 |nil=>
  rw[ed]at e2
  unfold Ni at e2
  split at e2
  .rename_i ok
   cases e2
   left
   exact⟨it.stop i H2 M2 _ g2.st st2 ok (AAw.mp ed),q _ _ M2 (g1.trans g2) r2 st2⟩
  .cases e2
 |cons d rest=>
  obtain⟨d1,d2,d3⟩:=R0 ed
  rw[ed]at e2
  unfold Ni at e2
  split at e2
  .rename_i ok
   obtain⟨E3,e3,e2⟩:=BO e2
   obtain⟨⟨f4,E4,S4⟩,e4,e2⟩:=BO e2
   dsimp only at e2
   right
   refine⟨it.go i H2 M2 S2 g2.st st2 ok d3,λσ' H'=>∃m',m'<ds.length-i/\(m'=ds.length-(i+1)/\∃E2 S2 M2,Ni gs t b (ds.drop (i+1)) E2 S2=Fk (fl,E',S')/\Gr M1 H1 M2 H'/\EnR X.K M2 E2 σ' H'/\StR X.K M2 S2 H'),λσ' H' z=>z,λx H3 hy=>?_⟩
   obtain⟨k3,rx⟩:=it.yld i H2 M2 S2 x H3 d g2.st st2 ok d1 hy
   have g3:Gr M2 H2 M2 H3:=.grow st2.mo k3
   refine⟨M2,d,E2,E3,S2,e3,r2.step g3.st,st2.grow k3,rx,λσ4 r4=>?_⟩
   refine⟨M2,E3,S2,f4,E4,S4,e4,r4,st2.grow k3,?_⟩
   split at e2
   .exact λσ6 H6 M6 g6 r6 st6=>⟨_,by omega,rfl,E4,S4,M6,by rw[d2];exact e2,(g2.trans g3).trans g6,r6,st6⟩
   .cases e2
    exact λv H6 M6 g6 st6 r6=>q _ _ M6 (((g1.trans g2).trans g3).trans g6) st6 r6
  .cases e2⟩
noncomputable def KG(c:Ev)(b:Ex):Nat->En->Sto->uD (Fl×En×Sto)
 |0,_,_=>uC
 |k+1,E,S=>(c E S).bind λr=>match r.1 with
  | .bl true=>(b E r.2).bind λp=>match p.1 with
    | .nx=>KG c b k p.2.1 p.2.2
    | .ret w=>Fk (.ret w,p.2)
  | .bl false=>Fk (.nx,E,r.2)
  |_=>uC
noncomputable def TH(fuel:En->Nat)(c:Ev)(b:Ex):Ex:=λE S=>KG c b (fuel E) E S
theorem Uj{X:Cx}{c:uh}{body:Gc vC}{k:Ev}{b:Ex}{pos:Pos}(fuel:En->Nat)(hp:PassesOwn (model X.prog X.w) X.A X.env X.xe)(hc:DT X c k)(hb:DSs X body b):DS X (.While c body [] pos) (TH fuel k b):=⟨
 IX (ZD hp hc.pe hb.pe) λDn σ H z=>by
  obtain⟨M,E,S,fl,E',S',e,r,st,q⟩:=z
  refine⟨λm σ' H'=>∃E2 S2 M2,KG k b m E2 S2=Fk (fl,E',S')/\Gr M H M2 H'/\EnR X.K M2 E2 σ' H'/\StR X.K M2 S2 H',⟨fuel E,E,S,M,e,.refl st.mo,r,st⟩,λm σ2 H2 hW=>?_⟩
  obtain⟨E2,S2,M2,e2,g2,r2,st2⟩:=hW
  cases m with
  |zero=>cases e2
  |succ m=>
   obtain⟨⟨w3,S3⟩,e3,e2⟩:=BO e2
   dsimp only at e2
   split at e2
   .obtain⟨⟨f4,E4,S4⟩,e4,e2⟩:=BO e2
    refine⟨M2,E2,S2,true,S3,e3,r2,st2,λH3 M3 g3 st3=>?_⟩
    refine gH ⟨λσ' H'=>∃m',m'<m+1/\∃E2 S2 M2,KG k b m' E2 S2=Fk (fl,E',S')/\Gr M H M2 H'/\EnR X.K M2 E2 σ' H'/\StR X.K M2 S2 H',λσ' H' z=>z,?_⟩
    refine⟨M3,E2,S3,f4,E4,S4,e4,r2.step g3.st,st3,?_⟩
    dsimp only at e2
    split at e2
    .exact λσ5 H5 M5 g5 r5 st5=>⟨m,by omega,E4,S4,M5,e2,(g2.trans g3).trans g5,r5,st5⟩
    .cases e2
     exact λv H5 M5 g5 st5 r5=>q _ _ M5 ((g2.trans g3).trans g5) st5 r5
   .cases e2
    refine⟨M2,_,S2,false,_,e3,r2,st2,λH3 M3 g3 st3=>?_⟩
    refine gF ?_
    exact q _ _ M3 (g2.trans g3) (r2.step g3.st) st3
   .cases e2⟩
noncomputable def VZ(i:Nat):En->Nat:=λE=>match at? E i with
 |some (.int j)=>j.natAbs+2
 |_=>0
section
variable{K:KE}{M M' M2:Ms}{H H' H2:Hp}{S:Sto}
structure GrX(M:Ms)(H:Hp)(M':Ms)(H':Hp):Prop where
 pre:M.cel <+: M'.cel
 fresh:∀a,a∈M'.cel->a∈M.cel\/H a=uC
 keep:∀a o,H a=Fk o->a∉M.cel->H' a=Fk o
 some:∀a,H a≠uC->H' a≠uC
theorem GrX.none(g:GrX M H M' H'){a:uF}(h:H' a=uC):H a=none:=by
 cases e:H a with
 |none=>rfl
 |some o=>exact absurd h (g.some a (by rw[e];intro z;cases z))
theorem Gr.x(g:Gr M H M' H'):GrX M H M' H':=⟨g.pre,g.fresh,g.keep,g.some⟩
theorem GrX.trans(h:GrX M H M' H')(g:GrX M' H' M2 H2):GrX M H M2 H2:=
 ⟨h.pre.trans g.pre,λa z=>(g.fresh a z).elim (h.fresh a) λz=>.inr (h.none z),λa o e n=>g.keep a o (h.keep a o e n) (λz=>by
   rcases h.fresh a z with z|z
   .exact n z
   .rw[e]at z;cases z),λa e=>g.some a (h.some a e)⟩
theorem StR.jg(r:StR K M S H){a:uF}(e:H a=uC):StR K ⟨M.cel,a::M.tmp⟩ S (upd H a (.lst []))/\GrX M H ⟨M.cel,a::M.tmp⟩ (upd H a (.lst []))/\Sp1 M H ⟨M.cel,a::M.tmp⟩ (upd H a (.lst [])):=by
 have k:∀b o,H b=Fk o->upd H a (.lst []) b=Fk o:=JU e
 have na:¬M.mem a:=λz=>r.mo.some z e
 have s1:Sp1 M H ⟨M.cel,a::M.tmp⟩ (upd H a (.lst [])):=⟨r.mo,vg,λb z=>by
  rcases z with z|z
  .exact .inl (.inl z)
  .rcases uI.mp z with z|z
   .subst z;exact .inr e
   .exact .inl (.inr z),λb o eb _=>k b o eb⟩
 refine⟨⟨λb z=>?_,r.nd,λb hb z=>?_,r.len,λn b c h1 h2=>?_⟩,⟨vg,λb z=>.inl z,λb o eb _=>k b o eb,λb eb z=>?_⟩,s1⟩
 .by_cases h:b=a
  .subst h;exact .inl ⟨[],Bf⟩
  .rw[Am h]
   refine r.mo b ?_
   rcases z with z|z
   .exact .inl z
   .rcases uI.mp z with z|z
    .exact absurd z h
    .exact .inr z
 .rcases uI.mp hb with hb|hb
  .subst hb;exact na (.inl z)
  .exact r.nt b hb z
 .have q:=r.cell n b c h1 h2
  cases c with
  |lst ds=>obtain⟨xs,e,rr⟩:=q;exact⟨xs,k _ _ e,rr.step s1⟩
  |dct ds=>obtain⟨xs,e,rr⟩:=q;exact⟨xs,k _ _ e,rr.step s1⟩
  |tab ds=>obtain⟨xs,e,rr⟩:=q;exact⟨xs,k _ _ e,rr.step s1⟩
 .cases h:H b with
  |none=>exact eb h
  |some o=>rw[k b o h]at z;cases z
theorem StR.fK(r:StR K M S H){a:uF}{ys:Gc V}(ha:a∈M.tmp):StR K M S (upd H a (.lst ys))/\Sp1 M H M (upd H a (.lst ys)):=by
 have s1:Sp1 M H M (upd H a (.lst ys)):=⟨r.mo,vg,λb z=>.inl z,λb o eb nb=>by rw[Am (λz=>nb (by rw[z];exact .inr ha))];exact eb⟩
 refine⟨⟨λb z=>?_,r.nd,r.nt,r.len,λn b c h1 h2=>?_⟩,s1⟩
 .by_cases h:b=a
  .subst h;exact .inl ⟨ys,Bf⟩
  .rw[Am h];exact r.mo b z
 .have hb:b≠a:=λz=>r.nt a ha (by rw[<-z];exact uY h1)
  have q:=r.cell n b c h1 h2
  cases c with
  |lst ds=>obtain⟨xs,e,rr⟩:=q;exact⟨xs,by rw[Am hb];exact e,rr.step s1⟩
  |dct ds=>obtain⟨xs,e,rr⟩:=q;exact⟨xs,by rw[Am hb];exact e,rr.step s1⟩
  |tab ds=>obtain⟨xs,e,rr⟩:=q;exact⟨xs,by rw[Am hb];exact e,rr.step s1⟩
theorem StR.eZ{c:Gc uF}{t:Gc uF}{a:uF}{xs:Gc V}{ds:Gc D}{cf:vE}{d:D}{S':Sto}(r:StR K ⟨c,a::t⟩ S H)(nt:a∉t)(e:H a=Fk (.lst xs))(rr:A1 K ⟨c,a::t⟩ H xs ds)(ef:fin cf (.own ds) S=Fk (d,S')):∃c',StR K ⟨c',t⟩ S' H/\EJ K ⟨c',t⟩ H (.ref a) d/\c <+: c'/\(∀b∈c',b∈c\/b=a):=by
 have nc:a∉c:=r.nt a uP
 cases cf with
 |false=>
  cases ef
  have s1:Sp1 ⟨c,a::t⟩ H ⟨c,t⟩ H:=⟨r.mo,vg,λb z=>.inl (z.imp id (uJ _)),λ_ _ e _=>e⟩
  refine⟨c,⟨λb z=>r.mo b (z.imp id (uJ _)),r.nd,λb hb=>r.nt b (uJ _ hb),r.len,λn b cl h1 h2=>?_⟩,.lst e (λz=>z.elim nc nt) (rr.step s1),vg,λb z=>.inl z⟩
  have q:=r.cell n b cl h1 h2
  cases cl with
  |lst ds=>obtain⟨xs,e,rr⟩:=q;exact⟨xs,e,rr.step s1⟩
  |dct ds=>obtain⟨xs,e,rr⟩:=q;exact⟨xs,e,rr.step s1⟩
  |tab ds=>obtain⟨xs,e,rr⟩:=q;exact⟨xs,e,rr.step s1⟩
 |true=>
  cases ef
  have s1:Sp1 ⟨c,a::t⟩ H ⟨c++[a],t⟩ H:=⟨r.mo,xh _ _,λb z=>by
   rcases z with z|z
   .rcases ub.mp z with z|z
    .exact .inl (.inl z)
    .exact .inl (.inr (by rw[uo.mp z];exact uP))
   .exact .inl (.inr (uJ _ z)),λ_ _ e _=>e⟩
  have hl:c.length=S.length:=r.len
  refine⟨c++[a],⟨λb z=>?_,?_,λb hb z=>?_,by simp[hl],λn b cl h1 h2=>?_⟩,.ref ?_,xh _ _,λb z=>?_⟩
  .refine r.mo b ?_
   rcases z with z|z
   .rcases ub.mp z with z|z
    .exact .inl z
    .exact .inr (by rw[uo.mp z];exact uP)
   .exact .inr (uJ _ z)
  .rw[yf]
   refine⟨r.nd,by simp,λx hx y hy z=>?_⟩
   simp at hy;subst hy
   exact nc (by rw[<-z];exact hx)
  .rcases ub.mp z with z|z
   .exact r.nt b (uJ _ hb) z
   .rw[uo.mp z]at hb;exact nt hb
  .by_cases h:n<S.length
   .rw[uH (by rw[hl];exact h)]at h1
    rw[uH h]at h2
    have q:=r.cell n b cl h1 h2
    cases cl with
    |lst ds=>obtain⟨xs,e,rr⟩:=q;exact⟨xs,e,rr.step s1⟩
    |dct ds=>obtain⟨xs,e,rr⟩:=q;exact⟨xs,e,rr.step s1⟩
    |tab ds=>obtain⟨xs,e,rr⟩:=q;exact⟨xs,e,rr.step s1⟩
   .have hm:n=S.length:=by
     have:=(uL.mp h2).1
     simp at this;omega
    subst hm
    rw[vI (by rw[hl];exact uN _)]at h1
    rw[vI (uN _)]at h2
    rw[hl]at h1
    simp at h1 h2
    subst h1 h2
    exact⟨xs,e,rr.step s1⟩
  .rw[<-hl];exact ua
  .rcases ub.mp z with z|z
   .exact .inl z
   .exact .inr (uo.mp z)
end
open Classical in
def C7(gs:Gd)(t:Tf)(c:Ev)(f:Ev):Gc D->Gc D->En->Sto->uD (Gc D×Sto)
 | [],acc,_,S=>if gOk gs S then Fk (acc,S)else uC
 |d::ds,acc,E,S=>if gOk gs S then(if acc.length<sizeLine then(t d E S).bind λE1=>(c E1 S).bind λr=>match r.1 with
   | .bl true=>(f E1 r.2).bind λp=>C7 gs t c f ds (acc++[p.1]) E1 p.2
   | .bl false=>C7 gs t c f ds acc E1 r.2
   |_=>uC
  else uC)else uC
noncomputable def Cr:Ev:=λ_ S=>Fk (.bl true,S)
noncomputable def Pa(cap:Gc Nat)(m:Nat)(E:En):En:=cap.map (at? E)++uc m uC
def QO(cf:vE)(cap:Gc Nat)(m:Nat)(s:Sr)(t:Tf)(c:Ev)(f:Ev):Ev:=λE S=>(s E S).bind λr=>(C7 r.1.2 t c f r.1.1 [] (Pa cap m E) r.2).bind λq=>fin cf (.own q.1) q.2
noncomputable abbrev C9:=QO false
noncomputable abbrev cT:=QO true
noncomputable def ixC(cap:Gc Nat)(m:Nat):Gc (uD Nat):=cap.map Fk++uc m uC
theorem EnR.cap{K:KE}{M:Ms}{E:En}{σ:Sg}{H:Hp}(r:EnR K M E σ H)(cap:Gc Nat)(m:Nat):EnR K M (Pa cap m E) (sig (ixC cap m) σ) H:=by
 unfold Pa sig ixC
 refine⟨by simp,λi d e=>?_⟩
 have h1:=W0 e
 rw[uQ]at h1
 cases e1:cap[i]? with
 |none=>rw[e1]at h1;cases h1
 |some j=>
  rw[e1]at h1
  have h2:at? E j=Fk d:=by simpa using h1
  obtain⟨v,hv,rd⟩:=r.val j d (at?_some h2)
  refine⟨v,?_,rd⟩
  have hi:i<cap.length:=(uL.mp e1).1
  rw[wU,uH (by simpa using hi),uQ,uQ,e1]
  show Fk ((σ[j]?).join)=Fk (Fk v)
  rw[hv]
  rfl
theorem WJ{K:KE}{cf:vE}{cap:Gc Nat}{m:Nat}{s:Sr}{t:Tf}{c f:Ev}{σ:Sg}{H:Hp}{Q:VK}(h:tD K (QO cf cap m s t c f) σ H Q):gY (ixC cap m) (tI K s) (tG K t) (tDT K c) (tD K f) σ H Q:=by
 obtain⟨M,E,S,d,S',e,r,st,q⟩:=h
 obtain⟨⟨⟨ds,gs⟩,S1⟩,e1,e⟩:=BO e
 obtain⟨⟨accf,Sf⟩,e3,e⟩:=BO e
 dsimp only at e e3
 refine⟨M,E,S,ds,gs,S1,e1,r,st,λJ H1 M1 g1 st1 it A0 hD=>?_⟩
 obtain⟨st0,gx0,s0⟩:=st1.jg hD
 have nt:A0∉M1.tmp:=λz=>st1.mo.some (.inr z) hD
 refine⟨λi mm σ' H' ys=>mm=ds.length-i/\∃Ei Si Mi acc,C7 gs t c f (ds.drop i) acc Ei Si=Fk (accf,Sf)/\GrX M1 H1 Mi H'/\Mi.tmp=A0::M1.tmp/\EnR K Mi Ei σ' H'/\StR K Mi Si H'/\H' A0=Fk (.lst ys)/\A1 K Mi H' ys acc,
  ⟨_,rfl,_,S1,_,[],e3,gx0,rfl,((r.step g1.st).step s0).cap cap m,st0,Bf,.nil⟩,λi mm σ2 H2 ys hW=>?_⟩
 obtain⟨rfl,Ei,Si,Mi,acc,ec,gx,ht,r2,st2,hy,ry⟩:=hW
 have sp:Sp1 M1 H1 Mi H2:=⟨st1.mo,gx.pre,λa z=>by
  rcases z with z|z
  .exact(gx.fresh a z).imp .inl id
  .rw[ht]at z
   rcases uI.mp z with z|z
   .subst z;exact .inr hD
   .exact .inl (.inr z),λa o eo no=>gx.keep a o eo λz=>no (.inl z)⟩
 refine⟨hy,?_⟩
 cases ed:ds.drop i with
 |nil=>
  rw[ed]at ec
  unfold C7 at ec
  split at ec
  .rename_i ok
   cases ec
   left
   obtain⟨ci,ti⟩:=Mi
   have ht':ti=A0::M1.tmp:=ht
   subst ht'
   obtain⟨c',st',rd',pr',sub'⟩:=st2.eZ nt hy ry e
   refine⟨it.stop i H2 _ _ sp st2 ok (AAw.mp ed),q _ _ ⟨c',M1.tmp⟩ (g1.trans ⟨st1.mo,gx.pre.trans pr',rfl,λa z=>?_,gx.keep,gx.some⟩) st' rd'⟩
   rcases sub' a z with z|z
   .exact gx.fresh a z
   .subst z;exact .inr hD
  .cases ec
 |cons d rest=>
  obtain⟨d1,d2,d3⟩:=R0 ed
  rw[ed]at ec
  unfold C7 at ec
  split at ec
  .rename_i ok
   split at ec
   .rename_i hz
    obtain⟨E3,e4,ec⟩:=BO ec
    obtain⟨⟨w5,S5⟩,e5,ec⟩:=BO ec
    right
    refine⟨it.go i H2 Mi Si sp st2 ok d3,by rw[ry.length];exact hz,λx H3 hyl=>?_⟩
    obtain⟨k3,rx⟩:=it.yld i H2 Mi Si x H3 d sp st2 ok d1 hyl
    have g3:Gr Mi H2 Mi H3:=.grow st2.mo k3
    have st3:=st2.grow k3
    refine⟨Mi,d,Ei,E3,Si,e4,r2.step g3.st,st3,rx,λσ4 r4=>?_⟩
    have hA:A0∈Mi.tmp:=by rw[ht];exact uP
    have hy3:H3 A0=Fk (.lst ys):=k3 _ _ hy
    have ry3:A1 K Mi H3 ys acc:=ry.step g3.st
    have fin:∀{E6:En} {S6:Sto} {M6:Ms} {H6:Hp} {zs:Gc V} {acc6:Gc D},C7 gs t c f rest acc6 E6 S6=Fk (accf,Sf)->GrX M1 H1 M6 H6->M6.tmp=A0::M1.tmp->EnR K M6 E6 σ4 H6->StR K M6 S6 H6->H6 A0=Fk (.lst zs)->A1 K M6 H6 zs acc6->
      ∃m',m'<ds.length-i/\(m'=ds.length-(i+1)/\∃Ei Si Mi acc,C7 gs t c f (ds.drop (i+1)) acc Ei Si=Fk (accf,Sf)/\GrX M1 H1 Mi H6/\Mi.tmp=A0::M1.tmp/\EnR K Mi Ei σ4 H6/\StR K Mi Si H6/\H6 A0=Fk (.lst zs)/\A1 K Mi H6 zs acc):=
     λ{E6 S6 M6 H6 zs acc6} ec g6 t6 r6 st6 h6 y6=>⟨_,by omega,rfl,E6,S6,M6,acc6,by rw[d2];exact ec,g6,t6,r6,st6,h6,y6⟩
    dsimp only at ec
    split at ec
    .obtain⟨⟨w7,S7⟩,e7,ec⟩:=BO ec
     refine⟨Mi,E3,Si,true,S5,e5,r4,st3,λH5 M5 g5 st5=>?_⟩
     refine gH ?_
     refine⟨M5,E3,S5,w7,S7,e7,r4.step g5.st,st5,λy H7 M7 g7 st7 d7=>?_⟩
     have nA:∀{M6:Ms} {H6:Hp} {S6:Sto},StR K M6 S6 H6->A0∈M6.tmp->A0∉M6.cel:=λr6 h6=>r6.nt A0 h6
     have hA5:A0∈M5.tmp:=by rw[g5.tmp];exact hA
     have hA7:A0∈M7.tmp:=by rw[g7.tmp];exact hA5
     have hy5:H5 A0=Fk (.lst ys):=g5.keep _ _ hy3 (nA st3 hA)
     have hy7:H7 A0=Fk (.lst ys):=g7.keep _ _ hy5 (nA st5 hA5)
     have ry7:A1 K M7 H7 ys acc:=(ry3.step g5.st).step g7.st
     refine⟨hy7,?_⟩
     obtain⟨st8,s8⟩:=st7.fK (ys:=ys++[y]) hA7
     have gx7:GrX M1 H1 M7 H7:=((gx.trans g3.x).trans g5.x).trans g7.x
     have gx8:GrX M1 H1 M7 (upd H7 A0 (.lst (ys++[y]))):=⟨gx7.pre,gx7.fresh,λa o eo no=>by
      rw[Am (λz=>by subst z;rw[hD]at eo;cases eo)]
      exact gx7.keep a o eo no,λa ea=>by
      by_cases h:a=A0
      .subst h;rw[Bf];intro z;cases z
      .rw[Am h];exact gx7.some a ea⟩
     exact fin ec gx8 (by rw[g7.tmp,g5.tmp];exact ht) (((r4.step g5.st).step g7.st).step s8) st8 Bf ((ry7.append (.cons d7 .nil)).step s8)
    .refine⟨Mi,E3,Si,false,S5,e5,r4,st3,λH5 M5 g5 st5=>?_⟩
     refine gF ?_
     exact fin ec ((gx.trans g3.x).trans g5.x) (by rw[g5.tmp];exact ht) (r4.step g5.st) st5 (g5.keep _ _ hy3 (st3.nt A0 hA)) (ry3.step g5.st)
    .cases ec
   .cases ec
  .cases ec
structure DTs(X:Cx)(ifs:Gc uh)(c:Ev):Prop where
 pe:PTs X ifs (tDT X.K c)
theorem cC{X:Cx}{e:Gc uh}{t t':TT}(h:PTs X e t)(m:∀σ H Q,t' σ H Q->t σ H Q):PTs X e t':=λpins s σ H Q I q=>h pins s σ H Q I (m _ _ _ q)
theorem Cn{X:Cx}:DTs X [] Cr:=⟨cC fc λσ H Q z=>by
 obtain⟨M,E,S,b,S',e,r,st,q⟩:=z
 cases e
 exact q _ M (.refl st.mo) st⟩
theorem Jz{X:Cx}{c:uh}{f:Ev}(h:DT X c f):DTs X [c] f:=⟨gN h.pe⟩
section
variable{X:Cx}{N':Gc Str}{cf:vE}{cap:Gc Nat}{m:Nat}{scope:vn}{elt tg iter:uh}{ifs:Gc uh}{pos:Pos}{s:Sr}{t:Tf}{c f:Ev}
def Blk(X:Cx)(N':Gc Str)(scope:vn)(tg:uh)(ifs:Gc uh)(elt:uh)(t:Tf)(c f:Ev):Prop:=
 ∀(s:uE) (H:Hp) (fp:Gc uF),DG (Kb X N' scope s H fp) tg t/\DTs (Kb X N' scope s H fp) ifs c/\DE (Kb X N' scope s H fp) elt f
theorem Dp(cap:Gc Nat)(m:Nat)(N':Gc Str)(hc:X.calm=true)(S:Af X.N X.env.scope N' (ixC cap m) scope)(hi:DI X tg iter s)(hb:Blk X N' scope tg ifs elt t c f)(hs:∀x,foldedSetIterable iter X.env x=pure x:=by intro _;rfl):DE X (.ListComp elt [⟨tg,iter,ifs,0⟩] scope pos) (QO cf cap m s t c f):=⟨
 CG (fA (g:=tG X.K t) (tc:=tDT X.K c) (te:=tD X.K f) hc S hi.pe (λs H fp=>⟨(hb s H fp).1.pe,(hb s H fp).2.1.pe,(hb s H fp).2.2.pe⟩) hs) λ_ _ _ h=>WJ h⟩
theorem CW{i:Nat}{y:Str}{py spos:Pos}(cap:Gc Nat)(m:Nat)(N':Gc Str)(hc:X.calm=true)(hN:X.N.Nodup)(hi':X.N[i]?=Fk y)(hx:X.env.scope.names.lookup y=Fk .local)(S:Af X.N X.env.scope N' (ixC cap m) scope)(hi:DI X tg iter s)(hb:Blk X N' scope tg ifs elt t c f)(hsw:swapsWith (.ListComp elt [⟨tg,iter,ifs,0⟩] scope pos) (Fk (.Name y py)) spos.line X.env=pure true:=by rfl)(hs:∀x,foldedSetIterable iter X.env x=pure x:=by intro _;rfl):DS X (.Assign [.Name y py] (.ListComp elt [⟨tg,iter,ifs,0⟩] scope pos) spos) (BQ i (QO cf cap m s t c f)):=⟨
 IX (VX (g:=tG X.K t) (tc:=tDT X.K c) (te:=tD X.K f) hc hN hi' hx S hi.pe (λs H fp=>⟨(hb s H fp).1.pe,(hb s H fp).2.1.pe,(hb s H fp).2.2.pe⟩) hsw hs) λDn σ H z=>by
  obtain⟨M,E,S,fl,E',S',e,r,st,q⟩:=z
  obtain⟨⟨d,S1⟩,e1,e⟩:=MZ e
  cases e
  exact WJ ⟨M,E,S,d,S1,e1,r,st,λv H1 M1 g1 st1 r1=>q _ _ M1 g1 ((r.step g1.st).put r1) st1⟩⟩
end
noncomputable def IY{α:Type}(xs:Gc α)(lo hi:uD Int):Gc α:=(xs.drop (HT.sIx xs.length 0 lo)).take (HT.sIx xs.length xs.length hi-HT.sIx xs.length 0 lo)
theorem Wz{K:KE}{M:Ms}{H:Hp}{xs:Gc V}{ds:Gc D}(h:A1 K M H xs ds)(lo hi:uD Int):A1 K M H (cg xs lo hi) (IY ds lo hi):=by
 unfold cg IY
 rw[h.length]
 exact(h.drop _).take _
theorem W6{α:Type}{xs:Gc α}{lo hi:uD Int}(h1:HT.sIx xs.length 0 lo=0)(h2:HT.sIx xs.length xs.length hi=xs.length):IY xs lo hi=xs:=by
 unfold IY
 rw[h1,h2]
 simp
noncomputable def wSl(lo hi:uD Int):Op1:=λw=>match w with
 | .val (.tup ds)=>Fk (.val (.tup (IY ds lo hi)))
 | .val (.str z)=>if z.length<=sizeLine then Fk (.val (.str (Txt.slice z lo hi)))else uC
 |w=>(asL w).map λds=>.own (IY ds lo hi)
def sT(K:KE):V->uD Int->uD Int->Hp->VK->Prop:=λx lo hi H Q=>∃M w r,wSl lo hi w=Fk r/\MOk M H/\Sh K M H x w/\∀v H',Nw K M H H' v r->Q v H'
theorem j9{X:Cx}:SlR X (λx lo hi H Q=>∃z,x=.str z/\z.length<=sizeLine/\Q (.str (Txt.slice z lo hi)) H):=by
 intro pins s σ H x v vl vu lo hi sl Q I rx hs pl pu h
 obtain⟨z,rfl,hz,q⟩:=h
 obtain⟨t,rfl⟩:=rx
 have fin:∀t' k,EP X pins σ Q (.str (Txt.slice z lo hi) t') {s with toks:=k}:=λt' k=>⟨.str _,H,I.tok k,⟨t',rfl⟩,q⟩
 cases pl with
 |none=>
  cases pu with
  |none=>exact⟨"str",_,xU.lookup,zT _ _ _,xW (l:=uC) (u:=uC) (st:=uC) hs rfl (y7 ⟨uO (AAP z _ _) hz,fin⟩)⟩
  |int j u=>exact⟨"str",_,xU.lookup,zT _ _ _,xW (l:=uC) (u:=Fk (j,u)) (st:=uC) hs rfl (y7 ⟨uO (AAP z _ _) hz,fin⟩)⟩
 |int i u'=>
  cases pu with
  |none=>exact⟨"str",_,xU.lookup,zT _ _ _,xW (l:=Fk (i,u')) (u:=uC) (st:=uC) hs rfl (y7 ⟨uO (AAP z _ _) hz,fin⟩)⟩
  |int j u=>exact⟨"str",_,xU.lookup,zT _ _ _,xW (l:=Fk (i,u')) (u:=Fk (j,u)) (st:=uC) hs rfl (y7 ⟨uO (AAP z _ _) hz,fin⟩)⟩
theorem nv{X:Cx}:SlR X (sT X.K):=by
 intro pins s σ H x v vl vu lo hi sl Q I rx hs pl pu h
 obtain⟨M,w,r,e,mo,sh,q⟩:=h
 unfold wSl at e
 split at e
 .rename_i ds
  cases e
  cases sh with
  |tup hx rr=>
   rename_i a xs
   have hl:=rr.length
   by_cases hw:HT.sIx xs.length 0 lo=0/\HT.sIx xs.length xs.length hi=xs.length
   .refine St.kX pins s σ H _ v vl vu lo hi sl Q I rx hs pl pu ⟨a,xs,rfl,hx,hw.1,hw.2,?_⟩
    have ew:IY ds lo hi=ds:=W6 (by rw[<-hl];exact hw.1) (by rw[<-hl];exact hw.2)
    rw[ew]at q
    exact q _ _ (.same mo (.tup hx rr))
   .exact jO pins s σ H _ v vl vu lo hi sl Q I rx hs pl pu ⟨a,xs,rfl,hx,hw,λp hp=>q _ _ (.tup mo hp (Wz rr lo hi))⟩
 .split at e
  .cases e
   cases sh
   exact j9 pins s σ H _ v vl vu lo hi sl Q I rx hs pl pu ⟨_,rfl,by assumption,q _ _ (.same mo (.str _))⟩
  .cases e
 .cases e1:asL w with
  |none=>rw[e1]at e;cases e
  |some ds=>
   rw[e1]at e
   cases e
   obtain⟨a,xs,rfl,h1,rr⟩:=sh.l e1
   exact eG pins s σ H _ v vl vu lo hi sl Q I rx hs pl pu ⟨a,xs,rfl,.of h1,λp hp=>q _ _ (.lst mo hp (Wz rr lo hi))⟩
noncomputable def g9:Wv->uD Int
 | .val (.int i)=>Fk i
 |_=>uC
noncomputable def Kq(l h:vE):OpN:=λws=>match l,h,ws with
 |false,false,[a]=>wSl uC uC a
 |true,false,[a,b]=>(g9 b).bind λi=>wSl (Fk i) uC a
 |false,true,[a,b]=>(g9 b).bind λi=>wSl uC (Fk i) a
 |true,true,[a,b,c]=>(g9 b).bind λi=>(g9 c).bind λj=>wSl (Fk i) (Fk j) a
 |_,_,_=>uC
theorem WL{K:KE}{M:Ms}{H:Hp}{v:V}{w:Wv}{i:Int}(s:Sh K M H v w)(e:g9 w=Fk i):v=.int i:=by
 cases w with
 |own ds=>cases e
 |val d=>
  cases d<;>first|(cases e;done)|skip
  cases e;cases s;rfl
section
variable{X:Cx}{e lo hi:uh}{oe ol oh:Ev}{c:vE}{pos p2:Pos}
theorem JJ(h:DE X e oe)(hl:DE X lo ol):DE X (.Subscript e (.Slice (Fk lo) uC uC p2) pos) (RT c (Kq true false) [oe,ol]):=⟨CG (RG nv h.pe (QR hl.pe) XG) λσ H Q z=>by
 obtain⟨M0,E,S0,w,S1,e,r,st,q⟩:=z
 have z:tD X.K oe σ H λx H1=>tD X.K ol σ H1 λy H2=>rN X.K (Kq true false) [x,y] H2 Q:=Py (Q:=Q) e r st q
 refine JV z λx H1 z1=>JV z1 λy H2 z2=>?_
 obtain⟨M,ws,w',e1,mo,sh,q1⟩:=z2
 cases sh with
 |cons h1 t=>
  cases t with
  |cons h2 t=>
   cases t
   obtain⟨i,ei,e1⟩:=BO e1
   exact⟨i,WL h2 ei,M,_,w',e1,mo,h1,q1⟩⟩
theorem IT(h:DE X e oe)(hh:DE X hi oh):DE X (.Subscript e (.Slice uC (Fk hi) uC p2) pos) (RT c (Kq false true) [oe,oh]):=⟨CG (RG nv h.pe XG (QR hh.pe)) λσ H Q z=>by
 obtain⟨M0,E,S0,w,S1,e,r,st,q⟩:=z
 have z:tD X.K oe σ H λx H1=>tD X.K oh σ H1 λy H2=>rN X.K (Kq false true) [x,y] H2 Q:=Py (Q:=Q) e r st q
 refine JV z λx H1 z1=>JV z1 λy H2 z2=>?_
 obtain⟨M,ws,w',e1,mo,sh,q1⟩:=z2
 cases sh with
 |cons h1 t=>
  cases t with
  |cons h2 t=>
   cases t
   obtain⟨i,ei,e1⟩:=BO e1
   exact⟨i,WL h2 ei,M,_,w',e1,mo,h1,q1⟩⟩
theorem Wh{K:KE}{M:Ms}{H:Hp}{S:Sto}{v:V}{d:D}{i:Int}(r:EJ K M H v d)(e:g9 (dr S d)=Fk i):v=.int i:=by
 cases r<;>first|(cases e;done)|skip
 .cases e;rfl
 .rename_i n h
  unfold dr at e
  dsimp only at e
  split at e<;>cases e
theorem gI(h:DE X e oe)(hl:DE X lo ol)(hh:DE X hi oh):DE X (.Subscript e (.Slice (Fk lo) (Fk hi) uC p2) pos) (RT c (Kq true true) [oe,ol,oh]):=⟨CG (RG nv h.pe (QR hl.pe) (QR hh.pe)) λσ H Q z=>by
 obtain⟨M0,E,S0,w,S1,e,r,st,q⟩:=z
 obtain⟨⟨ds,S2⟩,e1,e⟩:=BO e
 obtain⟨w2,e2,e⟩:=BO e
 obtain⟨⟨d1,Sa⟩,ea,e1⟩:=BO e1
 obtain⟨⟨ds1,Sb⟩,eb,e1⟩:=MZ e1
 cases e1
 obtain⟨⟨d2,Sc⟩,ec,eb⟩:=BO eb
 obtain⟨⟨ds2,Sd⟩,ed,eb⟩:=MZ eb
 cases eb
 obtain⟨⟨d3,Se⟩,ee,ed⟩:=BO ed
 obtain⟨⟨ds3,Sf⟩,ef,ed⟩:=MZ ed
 cases ed
 cases ef
 obtain⟨i,ei,e2⟩:=BO e2
 obtain⟨j,ej,e2⟩:=BO e2
 refine⟨M0,E,S0,d1,Sa,ea,r,st,λx H1 M1 g1 st1 r1=>?_⟩
 refine⟨M1,E,Sa,d2,Sc,ec,r.step g1.st,st1,λy H2 M2 g2 st2 r2=>⟨i,?_,?_⟩⟩
 .exact Wh r2 ei
 refine⟨M2,E,Sc,d3,Se,ee,(r.step g1.st).step g2.st,st2,λu H3 M3 g3 st3 r3=>⟨j,?_,?_⟩⟩
 .exact Wh r3 ej
 refine⟨M3,_,w2,e2,st3.mo,gi st3 ((r1.step g2.st).step g3.st),λv H4 n=>?_⟩
 obtain⟨M4,g4,st4,d4⟩:=n.fin st3 e
 exact q v H4 M4 (((g1.trans g2).trans g3).trans g4) st4 d4⟩
noncomputable def VC{α:Type}(xs:Gc α):Gc α:=(uU xs.length).filterMap λk=>xs[St.Qf xs.length k]?
theorem d6{K:KE}{M:Ms}{H:Hp}{xs:Gc V}{ds:Gc D}(h:A1 K M H xs ds):A1 K M H (VC xs) (VC ds):=by
 unfold VC
 rw[h.length]
 generalize uU ds.length=ks
 induction ks with
 |nil=>exact .nil
 |cons k ks ih=>
  rw[ur,ur]
  cases e:ds[St.Qf ds.length k]? with
  |none=>
   have:xs[St.Qf ds.length k]?=none:=by rw[xH]at e ⊢; rw[h.length];exact e
   rw[this]
   exact ih
  |some d=>
   obtain⟨x,h1,h2⟩:=h.get e
   rw[h1]
   exact .cons h2 ih
noncomputable def hV:Op1
 | .val (.tup ds)=>Fk (.val (.tup (VC ds)))
 |_=>uC
noncomputable def ng(K:KE)(te:TE):TE:=λσ H Q=>te σ H λx H1=>∃a xs,x=.ref a/\SqT K H1 a xs/\∀p,H1 p=uC->Q (.ref p) (upd H1 p (.tup (VC xs)))
theorem gW{e:uh}{te:TE}{p1 p2 p3 pos:Pos}{k:Nat}(he:PE X e te):PE X (.Subscript e (.Slice uC uC (Fk (.UnaryOp .USub (.Constant (.int 1) k p1) p2)) p3) pos) (ng X.K te):=by
 intro pins s σ H Q I h
 refine AAj (thn (he pins s σ H _ I h) λv s1 ⟨x,H1,I1,r1,q1⟩=>?_)
 obtain⟨a,xs,rfl,hx,q⟩:=q1
 cases r1
 refine wpAny_Slice ?_
 rw[ABH]
 refine uR (uR ?_)
 rw[evalPart_some]
 refine thn ((jV (X:=X) cJ (cG (i:=1) (j:=k) (pos:=p1)) (pos:=p2)) pins s1 σ H1 (λv H2=>v=.int (-1)/\H2=H1) I1 ⟨_,rfl,rfl,rfl⟩) λu s2 ⟨y,H2,I2,r2,ey,eh⟩=>?_
 subst ey eh
 obtain⟨tk,rfl⟩:=r2
 have I4:Inv X pins σ H2 {s2 with heap:=s2.heap.push {cls:=.type "slice",data:=.fields #[.none,.none,.int (-1) tk]}}:=I2.kept (t':=s2.toks) λb ob q=>uB _ q
 obtain⟨its,r,ht,hz⟩:=I4.tuple hx
 have hlen:its.toArray.size=xs.length:=by rw[uV];exact r.length.symm
 refine PyProof.Rows.tail_any (ops:=[.ref a,.ref s2.heap.objs.size]) ht.typeIs uw.lookup ?_ (by with_unfolding_all rfl)
 refine St.Mc ht (ABM ..) (by rw[hlen];exact hz) ?_
 have fr:=I4.hok.fresh (uN _)
 refine⟨.ref _,_,I4.laid (o:=.tup (VC xs)) (λb ob q=>uB _ q) (uN _) ?_,rfl,q _ fr⟩
 have:=St.Vals.pick r (St.Qf xs.length) (uU xs.length)
 refine⟨?_,_,this,?_⟩
 .unfold VC
  refine uO (yK _ _) ?_
  rw[yd]
  exact hz
 .have e:((uU its.toArray.size).filterMap λk=>its.toArray[St.Qf its.toArray.size k]?)=((uU xs.length).filterMap λk=>its[St.Qf xs.length k]?):=by
   rw[hlen]
   congr 1
   funext k
   rw[List.getElem?_toArray]
  rw[e]
  exact xS _ _
theorem cj{p1 p3:Pos}{k:Nat}(h:DE X e oe):DE X (.Subscript e (.Slice uC uC (Fk (.UnaryOp .USub (.Constant (.int 1) k p1) p2)) p3) pos) (eOp (o1 hV) [oe]):=⟨CG (gW h.pe) λσ H Q z=>by
 refine JV (Wi z) λx H1 z1=>?_
 obtain⟨M,w,r,e,mo,sh,q⟩:=z1
 unfold hV at e
 split at e
 .cases e
  cases sh with
  |tup hx rr=>exact⟨_,_,rfl,hx,λp hp=>q _ _ (.tup mo hp (d6 rr))⟩
 .cases e⟩
noncomputable def wUp:Op1
 | .val (.str z)=>if(AA5 z).length<=sizeLine then Fk (.val (.str (AA5 z)))else uC
 |_=>uC
theorem aV:MtR X "str.upper" (λx xs H Q=>xs=[]/\∃z,x=.str z/\(AA5 z).length<=sizeLine/\Q (.str (AA5 z)) H):=by
 intro pins s σ H x xs v us Q I rx rv h
 obtain⟨rfl,z,rfl,hz,q⟩:=h
 cases rv
 obtain⟨t,rfl⟩:=rx
 have hfit:ABC (AA5 z).length=false:=by
  unfold ABC
  exact xJ (by lia)
 exact call_gives AAQ (zT _ _ _) PySem.F.entry_str_upper (PySem.F.args_str_upper_1 _) (gives_str_upper z t hfit) ⟨hz,⟨.str _,H,I.tok _,⟨_,rfl⟩,q⟩⟩
theorem bM{o:uh}{oo:Ev}{apos cpos:Pos}(h:DE X o oo)(hbase:attributeBase o "upper" X.env (eval o X.env)=eval o X.env:=by rfl)(hline:(apos.endLine==cpos.line)=true:=by rfl):DE X (.Call (.Attribute o "upper" apos) [] [] cpos) (eOp (o1 wUp) [oo]):=⟨
 CG (kf PySem.F.plainAttrs_str AAQ PySem.F.type_str_upper aV h.pe hbase hline) λσ H Q z=>by
  refine JV (Wi z) λx H1 z1=>?_
  obtain⟨M,w,r,e,mo,sh,q⟩:=z1
  unfold wUp at e
  split at e
  .split at e
   .cases e
    cases sh
    exact⟨rfl,rfl,_,rfl,by assumption,q _ _ (.same mo (.str _))⟩
   .cases e
  .cases e⟩
structure WD(K:KE)(mg:Str->uD Wp)(x:Str)(d:D):Prop where
 ex:∃v u,mg x=Fk u/\RelV v u/\∀M H,EJ K M H v d
theorem Qp{x:Str}{d:D}(c:WD X.K X.mg x d)(hg:Gl X x)(hd:(x==("__debug__":Str))=false:=by decide):DE X (.Name x pos) (eC d):=⟨by
 obtain⟨v,u,h1,h2,h3⟩:=c.ex
 exact CG (gM hg h1 h2 hd) λσ H Q z=>by
  obtain⟨M0,E,S0,w,S1,e,rr,st,q⟩:=z
  cases e
  exact q _ _ M0 (.refl st.mo) st (h3 _ _)⟩
theorem Jw{x:Str}{T:xA}(hg:Gl X x)(hm:X.mg x=uC)(hv:bootBuiltins x=Fk (.type T))(hn:x≠ "__name__":=by decide)(hd:(x==("__debug__":Str))=false:=by decide):DE X (.Name x pos) (eC (.ty T)):=
 SO (fV (v:=.ty T) hg hm hv rfl hn hd) λ_ _ _=>.ty T
structure tN(K:KE)(w:vG)(mg:Str->uD Wp)(x:Str)(tbl:Gc (Str×D)):Prop where
 ex:∃a kvs,mg x=Fk (.ref a)/\TopD K w a kvs/\∀k,(tbl.lookup k=uC->kvs.lookup k=uC)/\∀d,tbl.lookup k=Fk d->∃v,kvs.lookup k=Fk v/\∀M H,EJ K M H v d
end
noncomputable def Rl:Nat->Gc D->Gc D
 |_,[]=>[]
 |k,d::ds=>.tup [.int k,d]::Rl (k+1) ds
theorem Nb:∀{ds:Gc D} {k i:Nat},(Rl k ds)[i]?=(ds[i]?).map λd=>.tup [.int ((k+i:Nat):Int),d]
 | [],k,i=>by simp[Rl]
 |d::ds,k,0=>by simp[Rl]
 |d::ds,k,i+1=>by
  simp only[Rl,List.getElem?_cons_succ]
  rw[Nb,show k+1+i=k+(i+1) by lia]
theorem Qv:∀{ds:Gc D} {k:Nat},(Rl k ds).length=ds.length
 | [],k=>rfl
 |d::ds,k=>by simp[Rl,Qv (ds:=ds)]
theorem SqF.sqB{K:KE}{M:Ms}{H:Hp}{gs:Gd}{k:vE}{a:uF}{ds:Gc D}(h:SqF K M H gs k a ds){H2:Hp}{M2:Ms}{S2:Sto}(g:Sp1 M H M2 H2)(st:StR K M2 S2 H2)(ok:gOk gs S2):∃xs,SqB K H2 k a xs/\A1 K M2 H2 xs ds:=by
 obtain⟨xs,h1,h2⟩:=h.keep H2 M2 S2 g st ok
 refine⟨xs,?_,h2⟩
 cases k with
 |true=>exact h1
 |false=>exact h1
theorem kP{K:KE}{M:Ms}{H:Hp}{gs:Gd}{k:vE}{a:uF}{ds:Gc D}(h:SqF K M H gs k a ds):iU K M H gs (Rl 0 ds) (ItE K k a) where
 go:=λi H2 M2 S2 g st ok hi=>by
  rw[Qv]at hi
  obtain⟨xs,h1,h2⟩:=h.sqB g st ok
  obtain⟨x,hx⟩:=h2.get' hi
  exact⟨xs,x,h1,hx⟩
 stop:=λi H2 M2 S2 g st ok hi=>by
  rw[Qv]at hi
  obtain⟨xs,h1,h2⟩:=h.sqB g st ok
  exact⟨xs,h1,by have:=h2.length;lia⟩
 yld:=λi H2 M2 S2 x H3 d g st ok hd hy=>by
  obtain⟨xs,h1,h2⟩:=h.sqB g st ok
  obtain⟨p,y,hp,rfl,hy,rfl⟩:=hy
  have hx:=hy xs h1
  rw[Nb]at hd
  obtain⟨d0,e,hd⟩:=MZ hd
  subst hd
  obtain⟨x',h3,h4⟩:=h2.get e
  rw[hx]at h3;cases h3
  have k3:=JU (o:=.tup [.int i,y]) hp
  refine⟨k3,.tup (.of Bf) (.cons ?_ (.cons (h4.step (Gr.grow st.mo k3).st) .nil))⟩
  rw[AAR]
  exact .int _
noncomputable def YZ(f:Ev):Sr:=λE S=>(f E S).bind λr=>(sqD r.2 r.1).map λp=>((Rl 0 p.1,p.2),r.2)
theorem SR{X:Cx}{a:uh}{f:Ev}{p pos tp:Pos}{elts:Gc uh}{k:Nat}(hg:Gl X "enumerate")(hm:X.mg "enumerate"=uC)(ha:DE X a f)(hs:ue [a] X.env=[(false,eval a X.env)]:=by rfl):DI X (.Tuple elts k tp) (.Call (.Name "enumerate" p) [a] [] pos) (YZ f):=⟨
 Q0 (aa hg hm (Qq ha.pe YJ (by rw[hs];rfl)) hs) λσ H R z=>by
  obtain⟨M,E,S,ds,gs,S',e,r,st,q⟩:=z
  obtain⟨⟨d,S1⟩,e1,e⟩:=BO e
  obtain⟨⟨ds',gs'⟩,e2,e⟩:=MZ e
  cases e
  refine⟨M,E,S,d,S1,e1,r,st,λv H1 M1 g1 st1 r1=>?_⟩
  obtain⟨k,a,rfl,sq⟩:=VH st1 r1 e2
  obtain⟨xs,hs,_⟩:=sq.sqB (Gr.refl st1.mo).st st1 (QY e2)
  exact⟨k,a,rfl,⟨xs,hs⟩,q _ _ M1 g1 st1 (kP sq)⟩⟩
noncomputable def Nt(ds es:Gc D):Gc D:=(ds.zip es).map λp=>.tup [p.1,p.2]
theorem ZC{ds es:Gc D}{i:Nat}{d:D}(h:(Nt ds es)[i]?=Fk d):∃x y,ds[i]?=Fk x/\es[i]?=Fk y/\d=.tup [x,y]:=by
 unfold Nt at h
 simp only[uQ,Option.map_eq_some_iff]at h
 obtain⟨⟨x,y⟩,h1,h2⟩:=h
 rw[yE]at h1
 exact⟨x,y,h1.1,h1.2,h2.symm⟩
theorem Ng{ds es:Gc D}:(Nt ds es).length=min ds.length es.length:=by simp[Nt]
theorem SqF.more{K:KE}{M:Ms}{H:Hp}{gs gs':Gd}{k:vE}{a:uF}{ds:Gc D}(h:SqF K M H gs k a ds)(s:∀g∈gs,g∈gs'):SqF K M H gs' k a ds:=⟨λH2 M2 S2 g st ok=>h.keep H2 M2 S2 g st λx hx=>ok x (s x hx)⟩
theorem iD{K:KE}{M:Ms}{H:Hp}{gs:Gd}{k m:vE}{a b:uF}{ds es:Gc D}(h:SqF K M H gs k a ds)(h':SqF K M H gs m b es):iU K M H gs (Nt ds es) (Itz K k a m b) where
 go:=λi H2 M2 S2 g st ok hi=>by
  rw[Ng]at hi
  obtain⟨xs,h1,r⟩:=h.sqB g st ok
  obtain⟨ys,h2,r'⟩:=h'.sqB g st ok
  obtain⟨x,hx⟩:=r.get' (show i<ds.length by lia)
  obtain⟨y,hy⟩:=r'.get' (show i<es.length by lia)
  exact⟨xs,ys,x,y,h1,h2,hx,hy⟩
 stop:=λi H2 M2 S2 g st ok hi=>by
  rw[Ng]at hi
  obtain⟨xs,h1,r⟩:=h.sqB g st ok
  obtain⟨ys,h2,r'⟩:=h'.sqB g st ok
  have:=r.length
  have:=r'.length
  exact⟨xs,ys,h1,h2,by lia⟩
 yld:=λi H2 M2 S2 x H3 d g st ok hd hy=>by
  obtain⟨xs,h1,r⟩:=h.sqB g st ok
  obtain⟨ys,h2,r'⟩:=h'.sqB g st ok
  obtain⟨p,x1,y1,hp,rfl,q1,q2,rfl⟩:=hy
  obtain⟨d1,d2,e1,e2,rfl⟩:=ZC hd
  have hx:=q1 xs h1
  have hy:=q2 ys h2
  obtain⟨x',h3,h4⟩:=r.get e1
  obtain⟨y',h5,h6⟩:=r'.get e2
  rw[hx]at h3;cases h3
  rw[hy]at h5;cases h5
  have k3:=JU (o:=.tup [x1,y1]) hp
  exact⟨k3,.tup (.of Bf) (.cons (h4.step (Gr.grow st.mo k3).st) (.cons (h6.step (Gr.grow st.mo k3).st) .nil))⟩
noncomputable def Yh(f g:Ev):Sr:=λE S=>(evs [f,g] E S).bind λr=>match r.1 with
 | [d,e]=>(sqD r.2 d).bind λp=>(sqD r.2 e).map λq=>((Nt p.1 q.1,p.2++q.2),r.2)
 |_=>uC
theorem QB{X:Cx}{a b:uh}{f g:Ev}{p pos tp:Pos}{elts:Gc uh}{k:Nat}(hg:Gl X "zip")(hm:X.mg "zip"=uC)(ha:DE X a f)(hb:DE X b g)(hs:ue [a,b] X.env=[(false,eval a X.env),(false,eval b X.env)]:=by rfl)(hs2:ue [b] X.env=[(false,eval b X.env)]:=by rfl):DI X (.Tuple elts k tp) (.Call (.Name "zip" p) [a,b] [] pos) (Yh f g):=⟨
 Q0 (kN hg hm (AA ha (AA hb AD hs2) (by rw[hs,hs2])).pe hs hs2) λσ H R z=>by
  obtain⟨M,E,S,ds,gs,S',e,r,st,q⟩:=z
  obtain⟨⟨ws,S1⟩,e1,e⟩:=BO e
  refine Jd (fs:=[f,g]) e1 r st λvs H1 M1 g1 st1 r1=>?_
  dsimp only at e
  split at e
  .obtain⟨⟨ds1,gs1⟩,eu,e⟩:=BO e
   obtain⟨⟨ds2,gs2⟩,ee,e⟩:=MZ e
   cases e
   cases r1 with
   |cons h1 t=>
    cases t with
    |cons h2 t=>
     cases t
     obtain⟨k1,a1,rfl,s1⟩:=VH st1 h1 eu
     obtain⟨k2,a2,rfl,s2⟩:=VH st1 h2 ee
     obtain⟨xs,hxs,_⟩:=s1.sqB (Gr.refl st1.mo).st st1 (QY eu)
     obtain⟨ys,hys,_⟩:=s2.sqB (Gr.refl st1.mo).st st1 (QY ee)
     exact⟨_,_,_,_,rfl,⟨_,hxs⟩,⟨_,hys⟩,q _ _ M1 g1 st1 (iD (s1.more λx hx=>yu _ hx) (s2.more λx hx=>vR _ hx))⟩
  .cases e⟩
noncomputable def intD:D->uD Int
 | .int i=>Fk i
 |_=>uC
noncomputable def NY(ds:Gc D):uD (Gc Int):=ds.mapM intD
theorem OA{K:KE}{M:Ms}{H:Hp}:∀{vs:Gc V} {ds:Gc D} {ns:Gc Int},A1 K M H vs ds->NY ds=Fk ns->vs=ns.map V.int
 |_,_,ns,.nil,e=>by cases e;rfl
 |_,_,ns,.cons (d:=d) (ds:=ds) h t,e=>by
  unfold NY at e
  rw[zX]at e
  cases e1:intD d with
  |none=>rw[e1]at e;cases e
  |some b=>
   rw[e1]at e
   cases e2:ds.mapM intD with
   |none=>rw[e2]at e;cases e
   |some cs=>
    rw[e2]at e
    cases e
    have hd:d=.int b:=by
     cases d<;>first|(cases e1;done)|skip
     cases e1;rfl
    subst hd
    cases h
    rw[ui,<-OA t e2]
theorem Xd{X:Cx}(hc:X.calm=true):Fe X (.builtin "sum") (λxs H Q=>∃(p:uF) (ns:Gc Int),xs=[.ref p]/\SqL X.K H p (ns.map V.int)/\Q (.int ns.sum) H):=by
 intro pins s σ H xs us Q I r h
 obtain⟨p,ns,rfl,hp,q⟩:=h
 obtain⟨u,rfl,ru⟩:=r.one
 cases (show u=va p from ru)
 obtain⟨its,rv,pl,hz⟩:=I.list hp
 have hd:X.A.in1.handled=none:=I.ok.hd hc
 refine call_sum_walkG (wN pl.isList ?_)
 have hlen:ns.length=its.length:=by have:=rv.length;simpa using this
 have hpl:=pl.isList
 have hlt:p<s.heap.objs.size:=by
  obtain⟨o,ho,_⟩:=hpl
  exact uZ ho
 refine⟨s.heap.objs.size,_,_,its.length,_,_,λi=>ns.getD i 0,rfl,St.QK (vs:=its) hd (vB hlt),⟨⟨_,uf _ rfl,rfl,rfl⟩,?_⟩,?_,?_,?_⟩
 .obtain⟨o,ho,r⟩:=hpl
  exact⟨o,uB _ ho,r⟩
 .intro b hb
  rw[vv]
  simp at hb
  rcases hb with h|h
  .rw[h];exact Nat.lt_succ_self _
  .rw[h];exact Nat.lt_succ_of_lt hlt
 .intro i v hv
  have hi:i<its.length:=(uL.mp hv).1
  have hb:(ns.map V.int)[i]?=Fk (.int (ns.getD i 0)):=by
   rw[uQ,W1 (by lia)]
   simp[uM,W1 (show i<ns.length by lia)]
  obtain⟨u,hu,ru⟩:=rv.get hb
  rw[hv]at hu
  cases hu
  exact ru
 .intro h' tk t' hk
  have e:preSum (λi=>ns.getD i 0) its.length=ns.sum:=by
   rw[<-hlen,St.Od (uN _),yc (uN _)]
  rw[e]
  exact⟨.int _,H,I.kept (t':=tk) λb o eb=>hk b o (by simp;exact vB (uZ eb)) (uB _ eb),⟨_,rfl⟩,q⟩
noncomputable def aH:Op1:=λw=>(asL w).bind λds=>(NY ds).map λns=>.val (.int ns.sum)
theorem Lf{X:Cx}(hc:X.calm=true):Fe X (.builtin "sum") (rN X.K (o1 aH)):=by
 intro pins s σ H xs us Q I r h
 obtain⟨M,ws,w,e,mo,sh,q⟩:=h
 obtain⟨v,w1,rfl,rfl,s1,e1⟩:=J4 sh e
 obtain⟨ds,e2,e1⟩:=BO e1
 obtain⟨ns,e3,e1⟩:=MZ e1
 cases e1
 obtain⟨a,ys,rfl,h3,h4⟩:=s1.l e2
 exact Xd hc pins s σ H _ us Q I r ⟨a,ns,rfl,by rw[<-OA h4 e3];exact .of h3,q _ _ (.same mo (.int _))⟩
noncomputable def Pk(ns:Gc Int):Gc Int:=ns.mergeSort (λa b=>decide (a<=b))
theorem Pw(ns:Gc Int):(Pk ns).Perm ns:=List.mergeSort_perm _ _
theorem Vf(ns:Gc Int):(Pk ns).Pairwise (· <= ·):=by
 have:=List.pairwise_mergeSort (le:=λ(a b:Int)=>decide (a<=b)) (λa b c h1 h2=>by simp at *; lia) (λa b=>by simp;lia) ns
 unfold Pk
 exact this.imp λh=>uW h
theorem Vl{ns ms:Gc Int}(p:ms.Perm ns)(s:ms.Pairwise (· <= ·)):ms=Pk ns:=PySem.W.ksm_same (p.trans (Pw ns).symm) s (Vf ns)
theorem intsAre_of:∀{ns:Gc Int} {its:Gc Wp},Vals (ns.map V.int) its->yJ its ns
 | [],_,.nil=>.nil
 |n::ns,_,.cons h t=>by
  obtain⟨tk,rfl⟩:=h
  exact .cons n tk (intsAre_of t)
theorem Mn:∀{ns:Gc Int} {its:Gc Wp},yJ its ns->Vals (ns.map V.int) its
 |_,_,.nil=>.nil
 |_,_,.cons n tk t=>.cons ⟨tk,rfl⟩ (Mn t)
theorem R4{X:Cx}:Fe X (.builtin "sorted") (λxs H Q=>∃(p:uF) (ns:Gc Int),xs=[.ref p]/\SqL X.K H p (ns.map V.int)/\ns.length<64/\∀q,H q=uC->Q (.ref q) (upd H q (.lst ((Pk ns).map V.int)))):=by
 intro pins s σ H xs us Q I r h
 obtain⟨p,ns,rfl,hp,h64,q⟩:=h
 obtain⟨u,rfl,ru⟩:=r.one
 cases (show u=va p from ru)
 obtain⟨its,rv,pl,hz⟩:=I.list hp
 have hlen:ns.length=its.length:=by have:=rv.length;simpa using this
 refine PyProof.Rows.sorted_ints pl.isList (intsAre_of rv) (by lia) λout ns' a1 a2 a3=>?_
 obtain⟨e,he⟩:=PyProof.Rows.sortedAll_at s.heap its out
 have hn:H (s.heap.objs.size+1)=none:=I.hok.fresh (Nat.le_succ _)
 have hs:=Vl a2 a3
 subst hs
 refine⟨.ref _,_,I.laid (a:=s.heap.objs.size+1) (o:=.lst ((Pk ns).map V.int)) (t':=s.toks) (λ_ _=>PyProof.Rows.sortedAll_old) (Nat.le_succ _) ?_,rfl,q _ hn⟩
 refine⟨?_,out.toList,e,Mn a1,?_⟩
 .rw[vL,(Pw ns).length_eq]
  have:(64:Nat)<=sizeLine:=by decide
  lia
 .rw[Array.toArray_toList];exact he
noncomputable def RI:Op1:=λw=>(asL w).bind λds=>(NY ds).bind λns=>if ns.length<64 then Fk (.own ((Pk ns).map D.int))else uC
theorem Rb{X:Cx}:Fe X (.builtin "sorted") (rN X.K (o1 RI)):=by
 intro pins s σ H xs us Q I r h
 obtain⟨M,ws,w,e,mo,sh,q⟩:=h
 obtain⟨v,w1,rfl,rfl,s1,e1⟩:=J4 sh e
 obtain⟨ds,e2,e1⟩:=BO e1
 obtain⟨ns,e3,e1⟩:=BO e1
 split at e1
 .cases e1
  obtain⟨a,ys,rfl,h3,h4⟩:=s1.l e2
  exact R4 pins s σ H _ us Q I r ⟨a,ns,rfl,by rw[<-OA h4 e3];exact .of h3,by assumption,λp hp=>q _ _ (.lst mo hp Nc)⟩
 .cases e1
theorem RF(l:uF)(items:vQ Wp)(n:Nat)(b:uF)(items2:vQ Wp)(n2:Nat)(dd:uD uF)(sl:vQ (uD Wp))(hs0:¬(!items.isEmpty && wG (items.size+items2.size))=true)(hs1:items.size<=sizeLine)(hs2:items.size+items2.size<=sizeLine+1):Meets (xr.«list.extend» ⟨[.ref l,.ref b],[]⟩) (λ_ R s=>s.heap.get? l=Fk {cls:=.type "list",dict:=uC,data:=.seq items n,slots:= #[]}/\s.heap.get? b=Fk {cls:=.type "tuple",dict:=dd,data:=.seq items2 n2,slots:=sl}/\R (.ok (.ret vo)) {s with heap:=s.heap.update l (zS λx=>x++items2),toks:=s.toks}):=
 .of_wp λprog w A R s h=>by
  obtain⟨hp,g,d,tk,os⟩:=s;obtain⟨hl,hb,h⟩:=h;have f1:=AutoSeq1.idx_int;have f2:=AutoSeq1.sub_tuple_tuple;have f3:=AutoSeq1.sub_list_list;have f4:=AutoSeq1.sub_tuple_list;have f5:=AutoSeq1.sub_list_tuple
  have hz':(items++items2).size<=sizeLine+1:=by rw[Array.size_append];exact hs2
  wp_walk using(wpAny_updateSeq hl rfl (hz:=hs1) (_hz':=hz')),uj hl,uj hb;exact⟨_,rfl,h⟩
def ba(K:KE):V->Gc V->Hp->VK->Prop:=λx vs H Q=>∃l b xs zs,x=.ref l/\vs=[.ref b]/\H l=Fk (.lst xs)/\SqT K H b zs/\xs.length+zs.length<=sizeLine/\Q .non (upd H l (.lst (xs++zs)))
theorem Vj{X:Cx}:MtM X "list.extend" (ba X.K):=by
 intro pins s σ H x vs v us Q I rx rv h
 obtain⟨l,b,xs,zs,rfl,rfl,hH,hB,hz,q⟩:=h
 cases rx
 obtain⟨u,rfl,ru⟩:=rv.one
 cases ru
 obtain⟨z,its,n,r,hl,e⟩:=I.c8 hH
 obtain⟨its2,r2,⟨⟨c,dd,dt,sl⟩,e2,hc,n2,hd⟩,z2⟩:=I.tuple hB
 simp only at hc hd
 subst hc hd
 have hl2:=r2.length
 have hsz:its.toArray.size+its2.toArray.size<=sizeLine:=by rw[uV,uV];lia
 have hlong:¬(!its.toArray.isEmpty && wG (its.toArray.size+its2.toArray.size))=true:=by
  rw[RP hsz,AAp]
  exact vS
 refine wu yv ⟨_,e,rfl⟩ AA8 (AAq _ _)
  (RF l its.toArray n b its2.toArray n2 dd sl hlong (by rw[uV];lia) (by lia)) ⟨e,e2,?_⟩
 refine⟨.non,_,I.oq (its':=its++its2) hH e (by simp) (r.append r2) ?_,rfl,q⟩
 rw[vd]
 lia
noncomputable def lG:Mo
 |S,ds,[x]=>match dr S x with
  | .val (.tup zs)=>if ds.length+zs.length<=sizeLine then Fk (.non,ds++zs)else uC
  |w=>(asL w).bind λzs=>if ds.length+zs.length<=sizeLine then Fk (.non,ds++zs)else uC
 |_,_,_=>uC
theorem eH{X:Cx}:MtR X "list.extend" (mP X.K lG):=by
 intro pins s σ H x vs v us Q I rx rv h
 obtain⟨M,S,n,a,ds,args,d,ds',rfl,hc,hn,e,st,ra,q⟩:=h
 unfold lG at e
 split at e
 .obtain⟨xs,h1,h2⟩:=st.cell n a _ hc hn
  obtain⟨y,rfl,ry⟩:=Uv ra
  have sy:=gi st ry
  split at e
  .rename_i ed
   rw[ed]at sy
   split at e
   .rename_i hz
    cases e
    cases sy with
    |tup hx rr=>
     obtain⟨st2,g2⟩:=st.chg hc hn (h2.append rr)
     exact Vj pins s σ H _ _ v us Q I rx rv ⟨a,_,xs,_,rfl,rfl,h1,hx,by rw[h2.length,rr.length];exact hz,q _ _ st2 g2 .non⟩
   .cases e
  .obtain⟨zs,e1,e⟩:=BO e
   split at e
   .rename_i hz
    cases e
    obtain⟨b,ys,rfl,h3,h4⟩:=sy.l e1
    obtain⟨st2,g2⟩:=st.chg hc hn (h2.append h4)
    exact Xl pins s σ H _ _ v us Q I rx rv ⟨a,b,xs,ys,rfl,rfl,h1,h3,by rw[h2.length,h4.length];exact hz,q _ _ st2 g2 .non⟩
   .cases e
 .cases e
theorem Za{X:Cx}:OpR X (binaryOp .Mult) (λx y H Q=>∃a xs k,x=.ref a/\y=.int k/\SqT X.K H a xs/\xs≠[]/\k<=0/\ -(2^63)<=k/\∀p,H p=uC->Q (.ref p) (upd H p (.tup []))):=by
 intro pins s σ H x y v u Q I rx ry h
 obtain⟨a,xs,k,rfl,rfl,hx,hne,hk,hk2,q2⟩:=h
 cases rx
 obtain⟨t,rfl⟩:=ry
 obtain⟨its,r,⟨⟨c,dd,data,sl⟩,ho,hc,n,hd⟩,hzz⟩:=I.tuple hx
 simp only at hc hd
 subst hc hd
 have hl:=r.length
 have hpos:0<xs.length:=ABB.mpr hne
 refine yD (T:="tuple") (U:="int") (by decide) ⟨_,ho,rfl⟩ (λs'=>xv s' k t) Jc AAW xl NK z6.lookup
  (wu xl (xv s k t) z7 (zh _ _) (LC k t a its.toArray n dd sl) ⟨ho,rfl,⟨_,ho,rfl⟩,?_⟩)
 refine wK yq ⟨_,ho,rfl⟩ F.entry_tuple_mul ?_ (ABR _ _)
 unfold xr.«tuple.__mul__»
 wp_walk using uj ho
 rw[vH (show¬(decide (k< -2^63)||decide (k≥2^63))=true by
  rw[vf]
  rintro (z|z)
  .have:=uW z;lia
  .have:=uW z;lia)]
 wp_walk using uj ho
 have hemp:its.toArray.isEmpty=false:=by
  cases its with
  |nil=>rw[yN]at hl;lia
  |cons b bs=>rfl
 rw[vH (show¬(its.toArray.isEmpty||k==1)=true by
  rw[hemp,Bool.false_or]
  intro z
  have:=eq_of_beq z
  lia)]
 wp_walk using uj ho
 all_goals first
  |exact⟨_,rfl,.ref _,_,I.laid (o:=.tup []) (t':=s.toks) (λb ob q=>uB _ q) (uN _) ⟨wR _,[],.nil,xS _ _⟩,rfl,q2 _ (I.hok.fresh (uN _))⟩
  |(exfalso
    rename_i hh
    exact hh (by rw[vf];exact .inl (wg hk)))
noncomputable def CD:Op2:=λa b=>match a,b with
 | .val (.tup xs),.val (.int k)=>if(!xs.isEmpty && decide (k<=0) && decide (-(2^63)<=k))=true then Fk (.val (.tup []))else mC (.val (.tup xs)) (.val (.int k))
 |a,b=>mC a b
theorem Ap{X:Cx}:OpR X (binaryOp .Mult) (rOp X.K CD):=by
 intro pins s σ H x y v u Q I rx ry h
 obtain⟨M,w1,w2,r,e,mo,s1,s2,q⟩:=h
 unfold CD at e
 split at e
 .split at e
  .rename_i xs k hk
   rw[uT,uT]at hk
   cases e
   cases s2
   cases s1 with
   | @tup a ys _ h1 r1=>
     have hne:ys≠[]:=λzz=>by
      subst zz
      cases r1
      exact absurd hk.1.1 (by decide)
     exact Za pins s σ H _ _ v u Q I rx ry ⟨a,ys,k,rfl,rfl,h1,hne,uW hk.1.2,uW hk.2,λp hp=>q _ _ (.tup mo hp .nil)⟩
  .exact YY pins s σ H x y v u Q I rx ry ⟨M,_,_,r,e,mo,s1,s2,q⟩
 .exact YY pins s σ H x y v u Q I rx ry ⟨M,_,_,r,e,mo,s1,s2,q⟩
theorem LL{A:vF}{k:Nat}(hr:Hu k A):A.units+100<cLine:=by have:=hr.un;lia
section
variable{P:ug}{w:vG}{K:KE}{mg:Str->uD Wp}{base:ux}
theorem Lw{x:Str}{st:vC}{k np:Nat}{ps:Gc Str}(S:St.Src K mg x st)(hbi:∀f fd,Fun K x x st f fd->Binds K fd ps []):St.Dfn P w K mg base x k ps (spD K np λ_ _=>uC):=by
 obtain⟨f,fd,Fu,hm⟩:=S.ex
 refine⟨f,fd,hm,Fu.kp,hbi f fd Fu,⟨λvs H Q E h=>?_,λA outer s H args us vs Q E hr h0 hb hv h=>?_⟩⟩
 .obtain⟨_,_,_,_,_,_,e,_⟩:=h;cases e
 .obtain⟨_,_,_,_,_,_,e,_⟩:=h;cases e
end
noncomputable def scE:Nat->uh->Gc vn
 |0,_=>[]
 |n+1,.ListComp e gs s _=>s::(gs.flatMap λg=>scE n g.iter)++scE n e++(gs.flatMap λg=>g.ifs.flatMap (scE n))
 |n+1,.BoolOp _ vs _=>vs.flatMap (scE n)
 |n+1,.Call f as _ _=>scE n f++as.flatMap (scE n)
 |n+1,.BinOp a _ b _=>scE n a++scE n b
 |n+1,.UnaryOp _ a _=>scE n a
 |n+1,.Compare a _ cs _=>scE n a++cs.flatMap (scE n)
 |n+1,.Subscript a b _=>scE n a++scE n b
 |n+1,.Tuple es _ _=>es.flatMap (scE n)
 |n+1,.List es _=>es.flatMap (scE n)
 |n+1,.IfExp c a b _=>scE n c++scE n a++scE n b
 |n+1,.Dict _ vs _=>vs.flatMap (scE n)
 |n+1,.Slice a b c _=>(a.toList++b.toList++c.toList).flatMap (scE n)
 |n+1,.Attribute v _ _=>scE n v
 |_,_=>[]
noncomputable def scS:Nat->vC->Gc vn
 |0,_=>[]
 |n+1,.Return (Fk e) _=>scE 30 e
 |n+1,.Assign ts e _=>ts.flatMap (scE 30)++scE 30 e
 |n+1,.AugAssign t _ e _=>scE 30 t++scE 30 e
 |n+1,.Expr e _=>scE 30 e
 |n+1,.If t a b _=>scE 30 t++a.flatMap (scS n)++b.flatMap (scS n)
 |n+1,.For _ it a b _=>scE 30 it++a.flatMap (scS n)++b.flatMap (scS n)
 |n+1,.While t a b _=>scE 30 t++a.flatMap (scS n)++b.flatMap (scS n)
 |_,_=>[]
noncomputable def MN(st:vC)(k:Nat):vn:=((DX st).flatMap (scS 20)).getD k (AH st)
structure tZ(P:ug)(w:vG)(K:KE)(mg:Str->uD Wp)(base:ux)(x:Str)(k np:Nat)(tbl:Gc (Str×Fn)):Prop where
 ex:∃a kvs,mg x=Fk (.ref a)/\TopD K w a kvs/\∀p G,tbl.lookup p=Fk G->∃f fd ps,kvs.lookup p=Fk (.ref f)/\Up P w K mg base CX0 k f fd ps (spD K np G)/\we K (.ref f)=true/\Binds K fd ps []
section
variable{P:ug}{w:vG}{K:KE}{mg:Str->uD Wp}{base h:ux}
theorem jf{x:Str}{st:vC}{f:uF}{oc:Wp}{od an:uD uF}{osl:vQ (uD Wp)}{kV doc pm cdv ct:Wp}(X:K.In h)(G:h.Ns mainGlobals mg)(a:wO K mainGlobals x=Fk (Fk (.ref f)))(l:K.lookup f=Fk ⟨oc,od,.func (x9 x x (OZ st) (DX st) (AH st) .none kV doc pm an cdv ct),osl⟩)(c:zM K cdv x=true)(k:we K (.ref f)=true):St.Src K mg x st:=
 ⟨f,_,kW l c k,yL X G a⟩
def IsD(K:KE)(u:Wp)(d:D):Prop:=∃v,RelV v u/\∀M H,EJ K M H v d
theorem Q8{i:Int}{t:Tok}:IsD K (.int i t) (.int i):=⟨.int i,⟨t,rfl⟩,λ_ _=>.int i⟩
theorem Qc{x:Str}{t:Tok}:IsD K (.str x t) (.str x):=⟨.str x,⟨t,rfl⟩,λ_ _=>.str x⟩
theorem Ue:∀{us:Gc Wp} {ds:Gc D},Paired (λd u=>IsD K u d) ds us->∃xs,Vals xs us/\∀M H,A1 K M H xs ds
 |_,_,.nil=>⟨[],.nil,λ_ _=>.nil⟩
 |_,_,.cons h t=>by
  obtain⟨v,h1,h2⟩:=h
  obtain⟨xs,h3,h4⟩:=Ue t
  exact⟨v::xs,.cons h1 h3,λM H=>.cons (h2 M H) (h4 M H)⟩
theorem UI{a:uF}{od:uD uF}{osl:vQ (uD Wp)}{its:Gc Wp}{n:Nat}{ds:Gc D}(l:K.lookup a=Fk ⟨.type "tuple",od,.seq its.toArray n,osl⟩)(hz:its.length<=sizeLine)(r:Paired (λd u=>IsD K u d) ds its):IsD K (.ref a) (.tup ds):=by
 obtain⟨xs,h1,h2⟩:=Ue r
 exact⟨.ref a,rfl,λM H=>.tup (.inr ⟨_,its.toArray,n,l,rfl,rfl,by simpa using hz,by simpa using h1⟩) (h2 M H)⟩
theorem YA{x:Str}{u:Wp}{d:D}(X:K.In h)(G:h.Ns mainGlobals mg)(e:wO K mainGlobals x=Fk (Fk u))(r:IsD K u d):WD K mg x d:=by
 obtain⟨v,h1,h2⟩:=r
 exact⟨v,u,yL X G e,h1,h2⟩
structure tV(w:vG)(K:KE)(mg:Str->uD Wp)(x:Str)(ns:Gc (Str×Str)):Prop where
 ex:∃a kvs,mg x=Fk (.ref a)/\TopD K w a kvs/\Paired (λ(n:Str×Str) (q:Str×V)=>n.1=q.1/\∃f,q.2=.ref f/\mg n.2=Fk (.ref f)) ns kvs
end
section
variable{X:Cx}{pos:Pos}
end
theorem UZ:∀{ys:Gc V} {us:Gc Wp},ys.length=us.length->(∀(j:Nat) (y:V) (u:Wp),ys[j]?=Fk y->us[j]?=Fk u->RelV y u)->Vals ys us
 | [],[],_,_=>.nil
 |y::ys,u::us,hl,h=>.cons (h 0 y u rfl rfl) (UZ (by simpa using hl) λj y u a b=>h (j+1) y u a b)
 | [],_::_,hl,_=>by simp at hl
 |_::_,[],hl,_=>by simp at hl
noncomputable def tLR(ta:TA):TE:=λσ H Q=>ta σ H λvs H1=>∃j:Int,vs=[.int j]/\0<=j/\j<=1000/\∀l,H1 l=uC->Q (.ref l) (upd H1 l (.lst ((uU j.toNat).map λ(i:Nat)=>V.int i)))
theorem oN{X:Cx}{a:uh}{ta:TA}{p p' pos pos':Pos}(hc:X.calm=true)(hgl:Gl X "list")(hml:X.mg "list"=uC)(hg:Gl X "range")(hm:X.mg "range"=uC)(ha:PA X [a] ta)(hs:ue [a] X.env=[(false,eval a X.env)]:=by rfl)(hs2:ue [Expr.Call (.Name "range" p) [a] [] pos] X.env=[(false,eval (.Call (.Name "range" p) [a] [] pos) X.env)]:=by rfl):PE X (.Call (.Name "list" p') [.Call (.Name "range" p) [a] [] pos] [] pos') (tLR ta):=by
 intro pins s σ H Q I h
 refine vt (Mr I hgl hml xZ ?_ (by decide) (by decide))
 refine wL ?_ hs2 rfl
 rw[hs2]
 show wpAny _ _ (spliced ((false,eval (.Call (.Name "range" p) [a] [] pos) X.env)::backTo pos' [])) _ _ s
 refine yX ?_
 refine vt (Mr I hg hm PyProof.Rows.boot_range ?_ (by decide) (by decide))
 refine wL (thn (ha pos pins s σ H _ I h) λus s1 ⟨vs,H1,I1,r1,q1⟩=>?_) hs rfl
 obtain⟨j,e,j0,j1,q⟩:=q1
 subst e
 cases r1 with
 |cons r rr=>
  cases rr
  obtain⟨t,rfl⟩:=r
  refine call_range_1 (yn ?_)
  have hz:j.toNat<=2^24:=by lia
  refine call_list_range (n:=j.toNat) (I1.ok.hd hc) (IsRange.new ..) (small_one (by lia) (by lia) (by lia) (by lia)) (by rw[rangeSize_one];split<;>lia) hz λh' tk acc' c' hk hS' hacc=>?_
  have kp:∀b o,s1.heap.get? b=Fk o->h'.get? b=Fk o:=λb o e=>hk b o (uB _ e)
  have le:s1.heap.objs.size<=(s1.heap.push {cls:=.type "range",data:=.fields #[.int 0 s1.toks,.int j t,.int 1 (s1.toks+1)]}).objs.size:=by rw[vv];exact Nat.le_succ _
  have rv:Vals ((uU j.toNat).map λ(i:Nat)=>V.int i) acc'.toList:=UZ (by simp[hacc.1]) λi y u hy hu=>by
   have hi:i<j.toNat:=by
    have:=(uL.mp hy).1
    simpa using this
   rw[uQ,yG hi]at hy
   cases hy
   obtain⟨tk',rfl⟩:=hacc.2 i u (by simpa using hu)
   exact⟨tk',by simp⟩
  refine⟨.ref _,_,I1.laid (t':=tk) (o:=.lst ((uU j.toNat).map λ(i:Nat)=>V.int i)) kp le ⟨by rw[vL,yd];exact hz,acc'.toList,c',rv,by simpa using hS'⟩,rfl,q _ (I1.hok.fresh le)⟩
noncomputable def lrK(cf:vE)(r:D×Sto):uD (D×Sto):=match r.1 with
 | .int j=>if(decide (0<=j) && decide (j<=1000))=true then fin cf (.own (J6 0 j.toNat)) r.2 else uC
 |_=>uC
noncomputable def nZ(cf:vE)(o:Ev):Ev:=λE S=>(o E S).bind (lrK cf)
abbrev eLR:=nZ false
theorem oP{X:Cx}{a:uh}{o:Ev}{cf:vE}{p p' pos pos':Pos}(hc:X.calm=true)(hgl:Gl X "list")(hml:X.mg "list"=uC)(hg:Gl X "range")(hm:X.mg "range"=uC)(ha:DEs X [a] [o])(hs:ue [a] X.env=[(false,eval a X.env)]:=by rfl)(hs2:ue [Expr.Call (.Name "range" p) [a] [] pos] X.env=[(false,eval (.Call (.Name "range" p) [a] [] pos) X.env)]:=by rfl):DE X (.Call (.Name "list" p') [.Call (.Name "range" p) [a] [] pos] [] pos') (nZ cf o):=⟨
 CG (oN hc hgl hml hg hm ha.pe hs hs2) λσ H Q z=>by
  obtain⟨M,E,S,d,S',e,r,st,q⟩:=z
  obtain⟨⟨w,S1⟩,e1,e⟩:=BO e
  have e1':evs [o] E S=Fk ([w],S1):=by
   show(o E S).bind (λr=>(evs [] E r.2).map λq=>(r.1::q.1,q.2))=_
   rw[e1];rfl
  refine Jd e1' r st λvs H1 M1 g1 st1 r1=>?_
  unfold lrK at e
  split at e
  .rename_i j he
   have he:w=.int j:=he
   subst he
   split at e
   .rename_i hk
    rw[uT]at hk
    refine⟨j,VF r1,uW hk.1,uW hk.2,λl hl=>?_⟩
    have rd:A1 X.K M1 H1 ((uU j.toNat).map λ(i:Nat)=>V.int i) (J6 0 j.toNat):=by
     have er:J6 0 j.toNat=(uU j.toNat).map λ(i:Nat)=>D.int i:=by simp[J6]
     rw[er]
     generalize uU j.toNat=xs
     induction xs with
     |nil=>exact .nil
     |cons x xs ih=>exact .cons (.int x) ih
    obtain⟨M2,g2,st2,d2⟩:=(Nw.lst st1.mo hl rd).fin st1 e
    exact q _ _ M2 (g1.trans g2) st2 d2
   .cases e
  .cases e⟩
noncomputable def putD(kvs:Gc (Key×D))(k:Key)(v:D):Gc (Key×D):=
 if(kvs.any λkv=>decide (kv.1=k))=true then kvs.map (λkv=>if kv.1=k then(kv.1,v)else kv)else kvs++[(k,v)]
noncomputable def Oa(kvs more:Gc (Key×D)):Gc (Key×D):=more.foldl (λacc kv=>putD acc kv.1 kv.2) kvs
noncomputable def lM:D->uD Key
 | .int i=>Fk (.inl i)
 | .str x=>Fk (.inr x)
 |_=>uC
noncomputable def aA:vE->Gc (Key×D)->Sto->D×Sto
 |false,es,S=>(.dct es,S)
 |true,es,S=>(.ref S.length,S++[.dct es])
section
variable{K:KE}{M M':Ms}{H:Hp}{S:Sto}{E:En}{σ:Sg}
theorem Dk.any(k:Key):∀{kvs:Gc (Key×V)} {es:Gc (Key×D)},Dk K M H kvs es->(kvs.any λkv=>decide (kv.1=k))=es.any λkv=>decide (kv.1=k)
 |_,_,.nil=>rfl
 |_,_,.cons h t=>by rw[w6,w6,Dk.any k t]
theorem Dk.app:∀{kvs kvs':Gc (Key×V)} {es es':Gc (Key×D)},Dk K M H kvs es->Dk K M H kvs' es'->Dk K M H (kvs++kvs') (es++es')
 |_,_,_,_,.nil,s=>s
 |_,_,_,_,.cons h t,s=>.cons h (Dk.app t s)
theorem Dk.jE{k:Key}{v:V}{d:D}(r:EJ K M H v d):∀{kvs:Gc (Key×V)} {es:Gc (Key×D)},Dk K M H kvs es->Dk K M H (kvs.map λkv=>if kv.1=k then(kv.1,v)else kv) (es.map λkv=>if kv.1=k then(kv.1,d)else kv)
 |_,_,.nil=>.nil
 |_,_,.cons (k:=k') h t=>by
  rw[ui,ui]
  by_cases e:k'=k
  .rw[vD e,vD e];exact .cons r (Dk.jE r t)
  .rw[vH e,vH e];exact .cons h (Dk.jE r t)
theorem Dk.put{k:Key}{v:V}{d:D}{kvs:Gc (Key×V)}{es:Gc (Key×D)}(r:EJ K M H v d)(h:Dk K M H kvs es):Dk K M H (putK kvs k v) (putD es k d):=by
 unfold putK putD
 rw[h.any k]
 split
 .exact h.jE r
 .exact h.app (.cons r .nil)
theorem Dk.merge:∀{more:Gc (Key×V)} {more':Gc (Key×D)} {kvs:Gc (Key×V)} {es:Gc (Key×D)},Dk K M H more more'->Dk K M H kvs es->Dk K M H (Og kvs more) (Oa es more')
 |_,_,_,_,.nil,h=>h
 |_,_,kvs,es,.cons (k:=k) (v:=v) (d:=d) (vs:=vs) (ds:=ds) r t,h=>show Dk K M H (Og (putK kvs k v) vs) (Oa (putD es k d) ds)from Dk.merge t (h.put r)
theorem iF{v:V}{d:D}{k:Key}(r:EJ K M H v d)(e:lM d=Fk k):v=kV k:=by
 cases r<;>cases e<;>rfl
theorem StR.dn(r:StR K M S H){a:uF}(e:H a=uC):StR K ⟨M.cel,a::M.tmp⟩ S (upd H a (.dK []))/\Sp1 M H ⟨M.cel,a::M.tmp⟩ (upd H a (.dK [])):=by
 have k:∀b o,H b=Fk o->upd H a (.dK []) b=Fk o:=JU e
 have na:¬M.mem a:=λz=>r.mo.some z e
 have s1:Sp1 M H ⟨M.cel,a::M.tmp⟩ (upd H a (.dK [])):=⟨r.mo,vg,λb z=>by
  rcases z with z|z
  .exact .inl (.inl z)
  .rcases uI.mp z with z|z
   .subst z;exact .inr e
   .exact .inl (.inr z),λb o eb _=>k b o eb⟩
 refine⟨⟨λb z=>?_,r.nd,λb hb z=>?_,r.len,λn b c h1 h2=>?_⟩,s1⟩
 .by_cases h:b=a
  .subst h;exact .inr (.inl ⟨[],Bf⟩)
  .rw[Am h]
   refine r.mo b ?_
   rcases z with z|z
   .exact .inl z
   .rcases uI.mp z with z|z
    .exact absurd z h
    .exact .inr z
 .rcases uI.mp hb with hb|hb
  .subst hb;exact na (.inl z)
  .exact r.nt b hb z
 .have q:=r.cell n b c h1 h2
  cases c with
  |lst ds=>obtain⟨xs,e,rr⟩:=q;exact⟨xs,k _ _ e,rr.step s1⟩
  |dct ds=>obtain⟨xs,e,rr⟩:=q;exact⟨xs,k _ _ e,rr.step s1⟩
  |tab ds=>obtain⟨xs,e,rr⟩:=q;exact⟨xs,k _ _ e,rr.step s1⟩
theorem StR.sH{c t:Gc uF}{a:uF}{kvs:Gc (Key×V)}{es:Gc (Key×D)}(cf:vE)(r:StR K ⟨c,a::t⟩ S H)(nt:a∉t)(rr:Dk K ⟨c,a::t⟩ H kvs es):∃c',StR K ⟨c',t⟩ (aA cf es S).2 (upd H a (.dK kvs))/\EJ K ⟨c',t⟩ (upd H a (.dK kvs)) (.ref a) (aA cf es S).1/\c <+: c'/\(∀b∈c',b∈c\/b=a):=by
 have nc:a∉c:=r.nt a uP
 have hl:c.length=S.length:=r.len
 have ne:∀b∈c,b≠a:=λb hb z=>nc (by rw[<-z];exact hb)
 have kp:∀b o,H b=Fk o->¬Ms.mem ⟨c,a::t⟩ b->upd H a (.dK kvs) b=Fk o:=λb o eb nb=>by rw[Am (λz=>nb (.inr (by rw[z];exact uP)))];exact eb
 have old:∀{c':Gc uF},Sp1 ⟨c,a::t⟩ H ⟨c',t⟩ (upd H a (.dK kvs))->∀(n:Nat) (b:uF) (cl:Cl),c[n]?=Fk b->S[n]?=Fk cl->eM K ⟨c',t⟩ (upd H a (.dK kvs)) b cl:=λs1 n b cl h1 h2=>by
  have hb:=ne b (uY h1)
  have q:=r.cell n b cl h1 h2
  cases cl with
  |lst ds=>obtain⟨xs,e,rr⟩:=q;exact⟨xs,by rw[Am hb];exact e,rr.step s1⟩
  |dct ds=>obtain⟨xs,e,rr⟩:=q;exact⟨xs,by rw[Am hb];exact e,rr.step s1⟩
  |tab ds=>obtain⟨xs,e,rr⟩:=q;exact⟨xs,by rw[Am hb];exact e,rr.step s1⟩
 have mo:∀b,Ms.mem ⟨c,t⟩ b\/b=a->(∃xs,upd H a (.dK kvs) b=Fk (.lst xs))\/(∃ks,upd H a (.dK kvs) b=Fk (.dK ks))\/∃ps,upd H a (.dK kvs) b=Fk (.tbl ps):=λb z=>by
  by_cases h:b=a
  .subst h;exact .inr (.inl ⟨kvs,Bf⟩)
  .rw[Am h]
   rcases z with z|z
   .exact r.mo b (z.imp id (uJ _))
   .exact absurd z h
 cases cf with
 |false=>
  have s1:Sp1 ⟨c,a::t⟩ H ⟨c,t⟩ (upd H a (.dK kvs)):=⟨r.mo,vg,λb z=>.inl (z.imp id (uJ _)),kp⟩
  exact⟨c,⟨λb z=>mo b (.inl z),r.nd,λb hb=>r.nt b (uJ _ hb),r.len,old s1⟩,.dct Bf (λz=>z.elim nc nt) (rr.step s1),vg,λb z=>.inl z⟩
 |true=>
  have s1:Sp1 ⟨c,a::t⟩ H ⟨c++[a],t⟩ (upd H a (.dK kvs)):=⟨r.mo,xh _ _,λb z=>by
   rcases z with z|z
   .rcases ub.mp z with z|z
    .exact .inl (.inl z)
    .exact .inl (.inr (by rw[uo.mp z];exact uP))
   .exact .inl (.inr (uJ _ z)),kp⟩
  refine⟨c++[a],⟨λb z=>mo b ?_,?_,λb hb z=>?_,by simp[aA,hl],λn b cl h1 h2=>?_⟩,.ref (by rw[<-hl];exact ua),xh _ _,λb z=>?_⟩
  .rcases z with z|z
   .rcases ub.mp z with z|z
    .exact .inl (.inl z)
    .exact .inr (uo.mp z)
   .exact .inl (.inr z)
  .rw[yf]
   refine⟨r.nd,by simp,λx hx y hy z=>?_⟩
   simp at hy;subst hy
   exact nc (by rw[<-z];exact hx)
  .rcases ub.mp z with z|z
   .exact r.nt b (uJ _ hb) z
   .rw[uo.mp z]at hb;exact nt hb
  .have h2:(S++[Cl.dct es])[n]?=Fk cl:=h2
   by_cases h:n<S.length
   .rw[uH (by rw[hl];exact h)]at h1
    rw[uH h]at h2
    exact old s1 n b cl h1 h2
   .have hm:n=S.length:=by
     have:=(uL.mp h2).1
     simp at this;lia
    subst hm
    rw[vI (by rw[hl];exact uN _)]at h1
    rw[vI (uN _)]at h2
    rw[hl]at h1
    simp at h1 h2
    subst h1 h2
    exact⟨kvs,Bf,rr.step s1⟩
  .rcases ub.mp z with z|z
   .exact .inl z
   .exact .inr (uo.mp z)
noncomputable def evP:Gc (Ev×Ev)->En->Sto->uD (Gc (Key×D)×Sto)
 | [],_,S=>Fk ([],S)
 |(k,v)::r,E,S=>(k E S).bind λa=>(lM a.1).bind λkk=>(v E a.2).bind λb=>(evP r E b.2).map λq=>((kk,b.1)::q.1,q.2)
theorem cw:∀{fs:Gc (Ev×Ev)} {M:Ms} {S:Sto} {es:Gc (Key×D)} {S':Sto} {H:Hp} {Q:Gc (V×V)->Hp->Prop},evP fs E S=Fk (es,S')->EnR K M E σ H->StR K M S H->(∀kvs H' M',Gr M H M' H'->StR K M' S' H'->Dk K M' H' kvs es->kvs.length=fs.length->Q (kvs.map λkv=>(kV kv.1,kv.2)) H')->VQ (fs.map λx=>(tD K x.1,tD K x.2)) σ H Q
 | [],M,S,es,S',H,Q,e,r,st,q=>by
   cases e
   exact q [] H M (.refl st.mo) st .nil rfl
 |(fk,fv)::fs,M,S,es,S',H,Q,e,r,st,q=>by
  obtain⟨⟨dk,S1⟩,e1,e⟩:=BO e
  obtain⟨kk,ek,e⟩:=BO e
  obtain⟨⟨dv,S2⟩,e2,e⟩:=BO e
  obtain⟨⟨es',S3⟩,e3,e⟩:=MZ e
  cases e
  refine⟨M,E,S,dk,S1,e1,r,st,λv H1 M1 g1 st1 d1=>?_⟩
  refine⟨M1,E,S1,dv,S2,e2,r.step g1.st,st1,λv2 H2 M2 g2 st2 d2=>?_⟩
  refine cw e3 ((r.step g1.st).step g2.st) st2 λkvs H3 M3 g3 st3 rk hl=>?_
  rw[iF d1 ek]
  exact q ((kk,v2)::kvs) H3 M3 ((g1.trans g2).trans g3) st3 (.cons (d2.step g3.st) rk) (by simp[hl])
end
noncomputable def Wq(cf:vE)(fs:Gc (Ev×Ev)):Ev:=λE S=>(evP fs E S).map λr=>aA cf (Oa [] r.1) r.2
abbrev eY:=Wq false
section
variable{X:Cx}{pos:Pos}
structure DPs(X:Cx)(pos:Pos)(ks:Gc (uD uh))(vs:Gc uh)(fs:Gc (Ev×Ev)):Prop where
 pe:PPs X pos ks vs (fs.map λx=>(tD X.K x.1,tD X.K x.2))
 all:ks.all (·.isSome)=true
 len:ks.length=vs.length
 num:fs.length=vs.length
theorem gB:DPs X pos [] [] []:=⟨fU,rfl,rfl,rfl⟩
theorem aC{k v:uh}{ks:Gc (uD uh)}{vs:Gc uh}{fk fv:Ev}{fs:Gc (Ev×Ev)}(hk:DE X k fk)(hv:DE X v fv)(h:DPs X pos ks vs fs):DPs X pos (Fk k::ks) (v::vs) ((fk,fv)::fs):=
 ⟨aj hk.pe hv.pe h.pe,by rw[wy,h.all];rfl,by rw[vJ,vJ,h.len],by rw[vJ,vJ,h.num]⟩
theorem d8{K:KE}{M:Ms}{H:Hp}{S S':Sto}{Q:VK}{cf:vE}{p:uF}{M2:Ms}{H2:Hp}{S2:Sto}{kvs:Gc (Key×V)}{es:Gc (Key×D)}(st:StR K M S H)(hp:H p=uC)(g:Gr ⟨M.cel,p::M.tmp⟩ (upd H p (.dK [])) M2 H2)(st2:StR K M2 S2 H2)(rk:Dk K M2 H2 kvs es)(q:∀v H' M',Gr M H M' H'->StR K M' (aA cf es S2).2 H'->EJ K M' H' v (aA cf es S2).1->Q v H'):Q (.ref p) (upd H2 p (.dK kvs)):=by
 obtain⟨c2,t2⟩:=M2
 have ht:t2=p::M.tmp:=g.tmp
 subst ht
 have np:p∉M.tmp:=λz=>st.mo.some (.inr z) hp
 obtain⟨c',st',rd,pr,sub⟩:=st2.sH cf np rk
 refine q _ _ ⟨c',M.tmp⟩ ⟨st.mo,(show M.cel <+: c2 from g.pre).trans pr,rfl,λb z=>?_,λb o eb nb=>?_,λb eb=>?_⟩ st' rd
 .rcases sub b z with z|z
  .rcases g.fresh b z with z|z
   .exact .inl z
   .right
    by_cases h:b=p
    .rw[h];exact hp
    .rw[Am h]at z;exact z
  .right;rw[z];exact hp
 .have h:b≠p:=λz=>by rw[z,hp]at eb;cases eb
  rw[Am h]
  exact g.keep b o (by rw[Am h];exact eb) nb
 .by_cases h:b=p
  .subst h;rw[Bf];intro z;cases z
  .rw[Am h]
   exact g.some b (by rw[Am h];exact eb)
theorem kE{cf:vE}{ks:Gc (uD uh)}{vs:Gc uh}{fs:Gc (Ev×Ev)}(h:DPs X pos ks vs fs)(h0:ks≠[])(h15:ks.length<=15):DE X (.Dict ks vs pos) (Wq cf fs):=⟨
 CG (fH h.pe h.all h.len h0 h15) λσ H Q z=>by
  obtain⟨M,E,S,d,S',e,r,st,q⟩:=z
  obtain⟨⟨es,S2⟩,e1,e⟩:=MZ e
  intro p hp
  obtain⟨st0,s0⟩:=st.dn hp
  refine cw e1 (r.step s0) st0 λkvs H2 M2 g st2 rk hl=>⟨g.keep p _ Bf (st0.nt p uP),kvs,rfl,by rw[hl,h.num,<-h.len];exact h15,?_⟩
  refine d8 (cf:=cf) (S':=S') st hp g st2 (rk.merge .nil) ?_
  have e':aA cf (Oa [] es) S2=(d,S'):=e
  rw[e']
  exact q⟩
end
section
variable{X:Cx}{pins:Gc (uF×Obj)}{σ:Sg}{H:Hp}{s:uE}{M:Ms}
end
section
variable{X:Cx}
noncomputable def unlike:St.Kd->St.Kd->vE
 | .lst,.int=>true| .tup,.int=>true| .dct,.int=>true| .dct,.lst=>true| .dct,.tup=>true| .lst,.tup=>true
 |_,_=>false
noncomputable def VO:Op2:=λa b=>if ED (fz a) (fz b)=true then Fk (.val (.bl (deq (fz a) (fz b))))else(kdW a).bind λk=>(kdW b).bind λj=>if unlike k j=true then Fk (.val (.bl false))else uC
theorem WH(hu:X.A.units+100<cLine):OpR X (compareOp .Eq) (rOp X.K VO):=by
 intro pins s σ H x y v u Q I rx ry h
 obtain⟨M,w1,w2,r,e,mo,s1,s2,q⟩:=h
 unfold VO at e
 split at e
 .rename_i hk
  exact Bn hu pins s σ H x y v u Q I rx ry ⟨M,w1,w2,r,by unfold wEq;rw[vD hk];exact e,mo,s1,s2,q⟩
 .obtain⟨k,e1,e⟩:=BO e
  obtain⟨j,e2,e⟩:=BO e
  split at e
  .rename_i hk
   cases e
   have fin:EP X pins σ Q (.bool false) s:=⟨.bl false,H,I,rfl,q _ _ (.same mo (.bl _))⟩
   have L:∀{w:Wv} {x:V} {v:Wp},Sh X.K M H x w->RelV x v->kdW w=Fk .lst->∃a items,v=.ref a/\s.heap.IsList a items:=λ{w} {x} {v} s1 rx e1=>by
    cases w with
    |own ds=>
     obtain⟨a,ys,rfl,h1,_⟩:=s1
     cases (show v=va a from rx)
     obtain⟨its,_,o,n,h2,h3,h4⟩:=JS I (.inl h1)
     exact⟨a,_,rfl,o,h2,h3,n,h4⟩
    |val d=>
     have s1':EJ X.K M H x d:=s1
     cases s1' with
     |lst h n rr=>
      rename_i a ys ds
      cases (show v=va a from rx)
      obtain⟨its,_,o,n,h2,h3,h4⟩:=JS I (.inl h)
      exact⟨a,_,rfl,o,h2,h3,n,h4⟩
     |_=>cases e1
   have T:∀{w:Wv} {x:V} {v:Wp},Sh X.K M H x w->RelV x v->kdW w=Fk .tup->∃a items,v=.ref a/\s.heap.IsTuple a items:=λ{w} {x} {v} s1 rx e1=>by
    cases w with
    |own ds=>cases e1
    |val d=>
     have s1':EJ X.K M H x d:=s1
     cases s1' with
     |tup h rr=>
      rename_i a ys ds
      cases (show v=va a from rx)
      obtain⟨its,_,h1,_⟩:=I.tuple h
      exact⟨a,_,rfl,h1⟩
     |_=>cases e1
   have J:∀{w:Wv} {x:V} {v:Wp},Sh X.K M H x w->RelV x v->kdW w=Fk .int->∃i t,v=.int i t:=λ{w} {x} {v} s1 rx e1=>by
    cases w with
    |own ds=>cases e1
    |val d=>
     have s1':EJ X.K M H x d:=s1
     cases s1' with
     |int i=>obtain⟨t,q⟩:=(show∃t,v=zG i t from rx);exact⟨i,t,q⟩
     |_=>cases e1
   have D:∀{w:Wv} {x:V} {v:Wp},Sh X.K M H x w->RelV x v->kdW w=Fk .dct->∃a es ep dd sl,v=.ref a/\s.heap.get? a=Fk (O1 (.dict es ep) dd sl):=λ{w} {x} {v} s1 rx e1=>by
    cases w with
    |own ds=>cases e1
    |val d=>
     have s1':EJ X.K M H x d:=s1
     cases s1' with
     |dct h n rr=>
      rename_i a kvs es
      cases (show v=va a from rx)
      obtain⟨_,_,vs,_,p⟩:=(show EL X.prog X.w H s.heap a (.dK kvs)from I.hok a _ h)
      obtain⟨⟨oc,od,odt,osl⟩,es,ep,h1,⟨h2,_⟩,h3,_⟩:=p
      simp only at h2 h3
      subst h2 h3
      exact⟨a,es,ep,od,osl,rfl,h1⟩
     |_=>cases e1
   have hu':X.A.units<cLine:=by lia
   unfold unlike at hk
   split at hk
   .obtain⟨a,it,rfl,ha⟩:=L s1 rx e1
    obtain⟨i,t,rfl⟩:=J s2 ry e2
    exact SeqAt.RcAt.list_int i t ha hu' X.prog X.w _ _ fin
   .obtain⟨a,it,rfl,ha⟩:=T s1 rx e1
    obtain⟨i,t,rfl⟩:=J s2 ry e2
    exact SeqAt.RcAt.tuple_int i t ha hu' X.prog X.w _ _ fin
   .obtain⟨a,es,ep,dd,sl,rfl,ha⟩:=D s1 rx e1
    obtain⟨i,t,rfl⟩:=J s2 ry e2
    exact UN i t ha hu' X.prog X.w _ _ fin
   .obtain⟨a,es,ep,dd,sl,rfl,ha⟩:=D s1 rx e1
    obtain⟨b,it,rfl,hb⟩:=L s2 ry e2
    exact R7 ha hb hu' X.prog X.w _ _ fin
   .obtain⟨a,es,ep,dd,sl,rfl,ha⟩:=D s1 rx e1
    obtain⟨b,it,rfl,hb⟩:=T s2 ry e2
    exact Q4 ha hb hu' X.prog X.w _ _ fin
   .obtain⟨a,it,rfl,ha⟩:=L s1 rx e1
    obtain⟨b,it2,rfl,hb⟩:=T s2 ry e2
    exact SeqAt.RcAt.list_tuple ha hb hu' X.prog X.w _ _ fin
   .cases hk
  .cases e
end
noncomputable def hide(h:ux):Gc uF->ux
 | []=>h
 |a::l=>(hide h l).update a λo=>{o with data:=.freed}
theorem LU{h:ux}:∀{l:Gc uF} {b:uF},b∈l->(hide h l).get? b=uC
 |a::l,b,m=>by
  by_cases e:a=b
  .subst e
   cases q:((hide h l).update a λo=>{o with data:=.freed}).get? a with
   |none=>exact q
   |some o=>
    exfalso
    obtain⟨q1,q2⟩:=Heap.get?_some_iff.mp q
    generalize hide h l=g at q1
    obtain⟨objs,lf⟩:=g
    simp only[Heap.update,Array.getElem?_modify,ya]at q1
    cases r:objs[a]? with
    |none=>rw[r]at q1;cases q1
    |some o'=>rw[r]at q1;cases q1;cases q2
  .unfold hide
   rw[xg _ _ e]
   exact LU ((uI.mp m).resolve_left λz=>e z.symm)
theorem Nl{h:ux}:∀{l:Gc uF} {b:uF},b∉l->(hide h l).get? b=h.get? b
 | [],_,_=>rfl
 |a::l,b,m=>by
  unfold hide
  rw[xg _ _ λz=>m (by rw[z];exact uP)]
  exact Nl λz=>m (uJ _ z)
theorem QU{h:ux}{l:Gc uF}:(hide h l).StaysIn h:=λb o e=>by
 by_cases m:b∈l
 .rw[LU m]at e;cases e
 .rw[Nl m]at e;exact e
theorem Nv{h base:ux}{l:Gc uF}:∀{es:Gc wF},(∀b∈frs es,b∈l)->h.FunFrames base es->h.FunFrames (hide h l) es
 | [],_,_=>trivial
 |env::r,m,hl=>by
  obtain⟨hk,⟨L,o,hf,hn,ho,hd⟩,hr⟩:=hl
  have e:frs (env::r)=L::frs r:=by unfold frs;rw[ur,hf]
  rw[e]at m
  exact⟨hk,⟨L,o,hf,LU (m L uP),ho,hd⟩,Nv (λb z=>m b (uJ _ z)) hr⟩
def Tb(old:uF->Prop)(H:Hp)(h:ux)(e:uF)(v:Wp):Prop:=
 v=.none\/∃T oT ts,v=.ref T/\T≠e/\h.get? T=Fk oT/\oT.data=.fields ts/\ts[3]?=Fk .none/\H T=uC/\¬old T
structure Fly(old:uF->Prop)(H:Hp)(h:ux)(e C:uF):Prop where
 free:H e=uC
 new:¬old e
 ex:∃oe vs a0 v,h.get? e=Fk oe/\oe.cls=.ref C/\oe.data=.fields vs/\vs[0]?=Fk a0/\vs[1]?=Fk v/\Tb old H h e v
theorem Fly.imp{old old':uF->Prop}{H:Hp}{h:ux}{e C:uF}(f:Fly old H h e C)(m:∀b,old' b->old b):Fly old' H h e C:=by
 obtain⟨oe,vs,a0,v,h1,h2,h3,h4,h5,t⟩:=f.ex
 refine⟨f.free,λz=>f.new (m _ z),oe,vs,a0,v,h1,h2,h3,h4,h5,?_⟩
 rcases t with t|⟨T,oT,ts,t1,t2,t3,t4,t5,t6,t7⟩
 .exact .inl t
 .exact .inr ⟨T,oT,ts,t1,t2,t3,t4,t5,t6,λz=>t7 (m _ z)⟩
structure kO(old:uF->Prop)(H:Hp)(h:ux)(e C:uF):Prop where
 free:H e=uC
 new:¬old e
 ex:∃oe vs a0 T oT ts,h.get? e=Fk oe/\oe.cls=.ref C/\oe.data=.fields vs/\vs[0]?=Fk a0/\vs[1]?=Fk (.ref T)/\T≠e/\h.get? T=Fk oT/\oT.data=.fields ts/\ts[3]?=Fk .none/\H T=uC/\¬old T
theorem kO.fly{old:uF->Prop}{H:Hp}{h:ux}{e C:uF}(f:kO old H h e C):Fly old H h e C:=by
 obtain⟨oe,vs,a0,T,oT,ts,h1,h2,h3,h4,h5,r⟩:=f.ex
 exact⟨f.free,f.new,oe,vs,a0,.ref T,h1,h2,h3,h4,h5,.inr ⟨T,oT,ts,rfl,r⟩⟩
structure Trn(X:Cx)(old:uF->Prop)(H:Hp)(h h':ux)(e C:uF):Prop where
 keep:∀b o,h.get? b=Fk o->b∉frs X.stack->(H b≠uC\/old b\/∀vs,o.data≠.fields vs)->h'.get? b=Fk o
 slot:∀b o,h.get? b=Fk o->(∀vs,o.data≠.fields vs)->∃sl,h'.get? b=Fk {o with slots:=sl}
 fly:kO old H h' e C
theorem EL.there{P:ug}{w:vG}{H:Hp}{h:ux}{a:uF}{o:HO}(x:EL P w H h a o):∃ob,h.get? a=Fk ob:=by
 cases o with
 |lst xs=>obtain⟨_,_,_,_,e⟩:=x;exact⟨_,e⟩
 |tup xs=>obtain⟨_,_,_,ob,e,_⟩:=x;exact⟨_,e⟩
 |dK kvs=>obtain⟨_,_,_,_,o,_,_,e,_⟩:=x;exact⟨_,e⟩
 |dT kvs=>obtain⟨_,_,_,_,o,_,_,e,_⟩:=x;exact⟨_,e⟩
 |set S n=>obtain⟨o,_,_,_,e,_⟩:=x;exact⟨_,e⟩
 |ins C dx fs=>obtain⟨_,_,_,e,_⟩:=x;exact⟨_,e⟩
 |own y=>obtain⟨_,e⟩:=x;exact⟨_,e⟩
 |xd fs=>obtain⟨_,⟨_,_,_,e,_⟩,_⟩:=x;exact⟨_,e⟩
 |rng lo hi=>obtain⟨_,_,_,e⟩:=x;exact⟨_,e⟩
 |frz ob u=>obtain⟨e,_⟩:=x;exact⟨_,e⟩
 |tbl ps=>exact⟨_,(show h.get? a=Fk _ from x)⟩
 |met f y=>exact⟨_,(show h.get? a=Fk _ from x)⟩
 |ext φ=>obtain⟨_,⟨_,e⟩,_⟩:=x;exact⟨_,e⟩
section
variable{X:Cx}{pins:Gc (uF×Obj)}{σ:St}{H:Hp}{s:uE}{old:uF->Prop}{e C:uF}{Q:Unit->uE->Prop}{E:Wp->uE->Prop}{A:vF}
theorem Ug{M:Model}(I:Inv X pins σ H s)(f:Fly old H s.heap e C)(ho:∀b,old b->s.heap.get? b≠uC){a0 fl:Wp}{h':ux}(l:Gc uF)(hl:∀b∈l,b∈frs X.stack\/(b=e\/(H b=uC/\¬old b/\∃o us,s.heap.get? b=Fk o/\o.data=.fields us)))  (hN:Heap.NotedW (hide s.heap l) X.stack e (.ref C) a0 fl s.heap h')(hQ:∀h',Trn X old H s.heap h' e C->Q () {s with heap:=h'}):wpAny M A (setFlight (.ref e) uC) Q E {s with heap:=h'}:=by
 have st:=I.stack
 obtain⟨oe,vs,_,v,h1,h2,h3,h4,h5,t⟩:=f.ex
 have frD:∀b∈frs X.stack,∃o,s.heap.get? b=Fk o/\∀vs,o.data≠.fields vs:=λb m=>(st.mem m).2
 obtain⟨n1,n2,n3,n4⟩:=hN
 refine wpAny_setFlight_noneW (base:=hide s.heap l) (l:=X.stack) (cls:=.ref C) (a0:=a0) (fl:=fl) n1 n2 n3 λh2' m1 m2 m3 m4=>?_
 have slot:∀b o,s.heap.get? b=Fk o->(∀vs,o.data≠.fields vs)->∃sl,h2'.get? b=Fk {o with slots:=sl}:=λb o e1 e2=>by
  obtain⟨sl,q⟩:=n4 b o e1 e2
  exact⟨sl,m4 b _ q e2⟩
 refine hQ h2' ⟨λb o e1 e2 e3=>?_,slot,f.free,f.new,?_⟩
 .have nl:b∉l:=λz=>by
   rcases hl b z with z|z|⟨z1,z2,o',us,z3,z4⟩
   .exact e2 z
   .subst z
    rw[h1]at e1;cases e1
    rcases e3 with e3|e3|e3
    .exact e3 f.free
    .exact f.new e3
    .exact e3 _ h3
   .rw[z3]at e1;cases e1
    rcases e3 with e3|e3|e3
    .exact e3 z1
    .exact z2 e3
    .exact e3 _ z4
  exact m1 b o (by rw[Nl nl];exact e1)
 .obtain⟨oe2,vs2,T,oT,ts,k1,⟨k2,k3⟩,k4,k5,k6,k7,k8,k9,k10⟩:=m3
  refine⟨oe2,vs2,a0,T,oT,ts,k1,k2,k4,k3,k5,k7,k8,k9,k10,?_⟩
  by_cases hT:T∈l
  .rcases hl T hT with z|z|z
   .exfalso
    obtain⟨o,e1,e2⟩:=frD T z
    obtain⟨sl,q⟩:=slot T o e1 e2
    rw[k8]at q;cases q
    exact e2 _ k9
   .exact absurd z k7
   .exact⟨z.1,z.2.1⟩
  .rw[Nl hT]at k6
   refine⟨?_,λz=>ho T z k6⟩
   cases q:H T with
   |none=>rfl
   |some o=>
    obtain⟨ob,z⟩:=EL.there (I.hok T o q)
    rw[k6]at z;cases z
theorem Q6{M:Model}(I:Inv X pins σ H s)(hA:A.frames=Fk X.stack)(hst:X.stack=X.env::X.outer)(hf:X.env.frame=Fk X.env.locals)(f:Fly old H s.heap e C)(ho:∀b,old b->s.heap.get? b≠uC)(hQ:∀h',Trn X old H s.heap h' e C->Q () {s with heap:=h'}):wpAny M A (noteFrame (.ref e) X.env) (λ_ s2=>wpAny M A (setFlight (.ref e) uC) Q E s2) E s:=by
 have st:=I.stack
 obtain⟨oe,vs,a0,v,h1,h2,h3,h4,h5,t⟩:=f.ex
 have fin:=λ(l:Gc uF) hl h' (hN:Heap.NotedW (hide s.heap l) X.stack e (.ref C) a0 (rawInt X.env.locals) s.heap h')=>Ug (M:=M) (A:=A) (E:=E) (Q:=Q) I f ho l hl hN hQ
 have hfr:A.frames=Fk (X.env::X.outer):=by rw[hA,hst]
 rw[hst]at fin st
 rcases t with t|⟨T,oT,ts,t1,t2,t3,t4,t5,t6,t7⟩
 .subst t
  have hh:∀b∈frs (X.env::X.outer),b∈e::frs (X.env::X.outer):=λb m=>uJ _ m
  unfold noteFrame
  simp only[hf]
  refine tz (wD h1 h3 h5 ?_)
  rw[vH (by decide)]
  refine wpAny_entryW (base:=hide s.heap (e::frs (X.env::X.outer))) hfr (Nv hh st) hf h1 QU (LU uP) h3 (Array.getElem?_eq_some_iff.mp h5).1 h4 λh' hN=>?_
  rw[h2]at hN
  exact fin _ (λb m=>(uI.mp m).elim (λz=>.inr (.inl z)) λz=>.inl z) h' hN
 .subst t1
  have hh:∀b∈frs (X.env::X.outer),b∈e::T::frs (X.env::X.outer):=λb m=>uJ _ (uJ _ m)
  refine wpAny_noteFrame_onW (base:=hide s.heap (e::T::frs (X.env::X.outer))) (cls:=.ref C) (a0:=a0) hfr (Nv hh st) hf ?_ QU (LU uP) λh' hN=>?_
  .exact⟨oe,vs,T,oT,ts,h1,⟨h2,h4⟩,h3,h5,LU (uJ _ uP),t2,t3,t4,t5⟩
  .refine fin _ (λb m=>?_) h' hN
   rcases uI.mp m with z|m
   .exact .inr (.inl z)
   .rcases uI.mp m with z|m
    .subst z
     exact .inr (.inr ⟨t6,t7,oT,ts,t3,t4⟩)
    .exact .inl m
end
def hU(X:Cx)(pins:Gc (uF×Obj))(b:uF):Prop:=X.s₀.heap.get? b≠uC\/∃p∈X.pn++pins,p.1=b
section
variable{X:Cx}{pins:Gc (uF×Obj)}{σ:St}{H:Hp}{s:uE}{old:uF->Prop}{e C:uF}{h':ux}
theorem Wj(hst:X.stack=X.env::X.outer)(hf:X.env.frame=Fk X.env.locals):frs X.stack=X.env.locals::X.fs:=by
 rw[hst];unfold frs Cx.fs frs;rw[ur,hf]
theorem HG(I:Inv X pins σ H s)(hx:X.ex=[]):∀b,hU X pins b->s.heap.get? b≠none:=λb z=>by
 rcases z with z|⟨p,m,rfl⟩
 .cases q:X.s₀.heap.get? b with
  |none=>exact absurd q z
  |some o=>
   obtain⟨o',e'⟩:=I.base.there b o q (by rw[hx];exact λz=>nomatch z)
   rw[e'];exact λz=>nomatch z
 .rw[(I.pin p m).1];exact λz=>nomatch z
theorem UD(I:Inv X pins σ H s)(t:Trn X old H s.heap h' e C):HOk X.prog X.w H h':=λa o q=>by
 refine(I.hok a o q).Ym (λb u hb e1=>?_) (λ_ z=>z) λ_ _ z=>z
 have hn:H b≠none:=by
  rcases hb with z|z
  .subst z;rw[q];exact λz=>nomatch z
  .rw[z];exact λz=>nomatch z
 exact t.keep b u e1 (λz=>hn (I.Te b z)) (.inl hn)
theorem XR(I:Inv X pins σ H s)(hst:X.stack=X.env::X.outer)(hf:X.env.frame=Fk X.env.locals)(hx:X.ex=[])(t:Trn X (hU X pins) H s.heap h' e C):Un X.fs X.ex X.H₀ H X.s₀.heap h':=by
 have hs:=Wj hst hf
 have nL:∀b o,X.s₀.heap.get? b=Fk o->b≠X.env.locals:=λb o e1=>vB (uG (uZ e1) I.ok.above)
 have od:∀b o,X.s₀.heap.get? b=Fk o->hU X pins b:=λb o e1=>.inl (by rw[e1];exact λz=>nomatch z)
 have fd:∀b o,b∈X.fs->X.s₀.heap.get? b=Fk o->∀vs,o.data≠.fields vs:=λb o hb e1 vs=>by
  obtain⟨_,o',e2,q⟩:=I.ok.U1.mem hb
  rw[e1]at e2;cases e2
  exact q vs
 refine⟨λb o e1 n hb hx'=>?_,λb o e1 n hb hx'=>?_,I.base.free,λb o e1 hx'=>?_,I.base.bD,I.base.X9,I.base.Yr⟩
 .refine t.keep b o (I.base.keep b o e1 n hb hx') (λz=>?_) (.inr (.inl (od b o e1)))
  rw[hs]at z
  exact(uI.mp z).elim (nL b o e1) hb
 .obtain⟨sl,q⟩:=I.base.slot b o e1 n hb hx'
  obtain⟨sl',q'⟩:=t.slot b _ q (fd b o hb e1)
  exact⟨sl',q'⟩
 .obtain⟨o',q⟩:=I.base.there b o e1 hx'
  by_cases hb:b∈frs X.stack
  .obtain⟨_,o2,q2,d⟩:=I.stack.mem hb
   obtain⟨sl,z⟩:=t.slot b o2 q2 d
   exact⟨_,z⟩
  .exact⟨o',t.keep b o' q hb (.inr (.inl (od b o e1)))⟩
theorem Wu(I:Inv X pins σ H s)(hst:X.stack=X.env::X.outer)(hf:X.env.frame=Fk X.env.locals)(hx:X.ex=[])(t:Trn X (hU X pins) H s.heap h' e C):Inv X pins σ H {s with heap:=h'}:=by
 have hs:=Wj hst hf
 have cl:∀c v,s.heap.IsCell c v->h'.IsCell c v:=λc v ⟨o,ho,hd⟩=>by
  obtain⟨sl,q⟩:=t.slot c o ho λvs z=>by rw[hd]at z;cases z
  exact⟨_,q,hd⟩
 refine⟨I.ok,I.os,I.bare,XR I hst hf hx t,?_,λx c e1=>?_,I.free,I.L6,λp m=>?_,UD I t,I.len⟩
 .obtain⟨m,hn,hl⟩:=I.loc
  refine⟨m,Heap.UpToSlots.ns (λb o e1 e2=>t.slot b o e1 e2) hn,λi x v e1 e2 e3=>?_⟩
  obtain⟨u,r,l⟩:=hl i x v e1 e2 e3
  refine⟨u,r,?_⟩
  rcases l with l|⟨k,c,e4,z⟩
  .exact .inl l
  .exact .inr ⟨k,c,e4,cl c _ z⟩
 .obtain⟨v,z⟩:=I.cell x c e1
  exact⟨v,cl c v z⟩
 .obtain⟨p1,p2,p3,p4,p5⟩:=I.pin p m
  refine⟨t.keep _ _ p1 (λz=>?_) (.inr (.inl (.inr ⟨p,m,rfl⟩))),p2,p3,p4,p5⟩
  rw[hs]at z
  exact(uI.mp z).elim p3 p4
end
abbrev Rk:=uF->St->Hp->Prop
abbrev TR:=St->Hp->Rk->Prop
def XP(X:Cx)(pins:Gc (uF×Obj))(Z:Rk)(ev:Wp)(s':uE):Prop:=∃e C σ' H',ev=.ref e/\Inv X pins σ' H' s'/\Z C σ' H'/\Fly (hU X pins) H' s'.heap e C
def PX(X:Cx)(st:vC)(t:TR):Prop:=∀(pins:Gc (uF×Obj)) (s:uE) (σ:St) (H:Hp) (Z:Rk),Inv X pins σ H s->t σ H Z->wpAny (model X.prog X.w) X.A (exec st X.env) (λ_ _=>wk) (XP X pins Z) s
def PXs(X:Cx)(sts:Gc vC)(t:TR):Prop:=∀(pins:Gc (uF×Obj)) (s:uE) (σ:St) (H:Hp) (Z:Rk),Inv X pins σ H s->t σ H Z->wpAny (model X.prog X.w) X.A (execs sts X.env) (λ_ _=>wk) (XP X pins Z) s
def PXe(X:Cx)(e:uh)(t:TR):Prop:=∀(pins:Gc (uF×Obj)) (s:uE) (σ:St) (H:Hp) (Z:Rk),Inv X pins σ H s->t σ H Z->wpAny (model X.prog X.w) X.A (eval e X.env) (λ_ _=>wk) (XP X pins Z) s
noncomputable def CXr(P:ug)(w:vG):CXT:=λouter H s E ev s'=>∃e C H',ev=.ref e/\s'.os=s.os/\yR s'.gens/\Un (frs outer) [] H H' s.heap s'.heap/\HOk P w H' s'.heap/\Fly (λb=>s.heap.get? b≠uC) H' s'.heap e C/\E (.ref C) uC H'
theorem bz{P:ug}{w:vG}{K:KE}{mg:Str->uD Wp}{base:ux}{N:Gc Str}{qual:Str}{scope:vn}{f:uF}{cd:Wp}{A:vF}{outer:Gc wF}{s:uE}{H:Hp}{E:XK}{pins:Gc (uF×Obj)}{Z:Rk}{ev:Wp}{s':uE}(h:XP (NR (CXr P w) P w K mg base N qual scope f cd A outer s H E).nox pins Z ev s')(hZ:∀C σ' H',Z C σ' H'->E (.ref C) uC H'):(NR (CXr P w) P w K mg base N qual scope f cd A outer s H E).xe ev s':=by
 obtain⟨e,C,σ',H',rfl,I,z,fl⟩:=h
 show wpAny _ _ (leaving _ (.ref e)) _ _ s'
 unfold leaving
 refine tz (Q6 I I.ok.frames rfl rfl fl (HG I rfl) λh' t=>?_)
 exact⟨e,C,H',rfl,I.os,I.bare,XR I rfl rfl rfl t,UD I t,t.fly.fly.imp λb z=>.inl z,hZ _ _ _ z⟩
abbrev Rx:=En->Sto->uD (Str×En×Sto)
abbrev Rf:=Gc D->Sto->uD (Str×Sto)
noncomputable def tR(K:KE)(mg:Str->uD Wp)(r:Rx):TR:=λσ H Z=>∃M E S x E' S',r E S=Fk (x,E',S')/\EnR K M E σ H/\StR K M S H/\∀C σ' H' M',mg x=Fk (.ref C)->Gr M H M' H'->EnR K M' E' σ' H'->StR K M' S' H'->Z C σ' H'
structure RS(X:Cx)(st:vC)(r:Rx):Prop where
 pe:PX X st (tR X.K X.mg r)
structure RSs(X:Cx)(st:Gc vC)(r:Rx):Prop where
 pe:PXs X st (tR X.K X.mg r)
structure RE(X:Cx)(e:uh)(r:Rx):Prop where
 pe:PXe X e (tR X.K X.mg r)
noncomputable def spR(K:KE)(mg:Str->uD Wp)(np:Nat)(R:Rf):Sp:=λvs H _ E=>∃M ds S x S',ds.length=np/\R ds S=Fk (x,S')/\A1 K M H vs ds/\StR K M S H/\∀C H' M',mg x=Fk (.ref C)->Gr M H M' H'->StR K M' S' H'->E (.ref C) uC H'
noncomputable def V2(N:Nat)(r:Rx):Rf:=λds S=>(r (ds.map Fk++uc (N-ds.length) uC) S).map λq=>(q.1,q.2.2)
structure iA(P:ug)(w:vG)(K:KE)(mg:Str->uD Wp)(base:ux)(x:Str)(k:Nat)(ps:Gc Str)(sp:Sp):Prop where
 ex:∃f fd,mg x=Fk (.ref f)/\we K (.ref f)=true/\Binds K fd ps []/\Up P w K mg base (CXr P w) k f fd ps sp
section
variable{P:ug}{w:vG}{K:KE}{mg:Str->uD Wp}{base:ux}
theorem jZ{x:Str}{st:vC}{f:uF}{fd:wV}{N ps:Gc Str}{k np:Nat}{r:Rx}(Fu:Fun K x x st f fd)(S:AQ N ps (AH st))(hp:ps.length=np)(hb:∀(cdv:Wp) (A:vF) (outer:Gc wF) (s:uE) (H:Hp) (E:XK),Hu k (A.deeper (vW x (AH st) s.heap.objs.size f cdv))->RSs (NR CX0 P w K mg base N x (AH st) f cdv A outer s H E).nox (DX st) r):Up P w K mg base (CXr P w) (k+1) f fd ps (spR K mg np (Ar (V2 N.length r))):=by
 rw[KP]
 obtain⟨oc,od,kV,doc,pm,an,cdv,ct,osl,rfl,lk,hcd⟩:=Fu.ex
 refine eS lk hcd S (λvs H Q E h=>?_) λA outer s H vs Q E hr h=>?_
 .obtain⟨M,ds,S0,d,S',hl,_,r,_⟩:=h
  have:=r.length
  omega
 .obtain⟨M,ds,S0,y,S',hl,e,rr,st,q⟩:=h
  have hlen:=rr.length
  refine⟨λ_ σ H=>tR K mg r σ H λC _ H'=>E (.ref C) uC H',λpins s1 σ1 H1 D I h=>?_,?_⟩
  .exact wB ((hb cdv A outer s H E hr).pe pins s1 σ1 H1 _ (I.WC _) h) (λ_ _ z=>z.elim) λev s' z=>bz z λ_ _ _ z=>z
  .obtain⟨⟨y',E',S1⟩,e1,e⟩:=MZ e
   cases e
   refine⟨M,_,S0,y',E',S1,e1,?_,st,λC σ' H' M' hm g _ st'=>q C H' M' hm g st'⟩
   rw[show L2.start N vs=vs.map Fk++uc (N.length-ds.length) uC from by unfold L2.start;rw[hlen]]
   exact .args rr _
theorem QZ{x:Str}{st:vC}{N ps:Gc Str}{k np:Nat}{r:Rx}(S:St.Src K mg x st)(sc:AQ N ps (AH st))(hp:ps.length=np)(hbi:∀f fd,Fun K x x st f fd->Binds K fd ps [])(hb:∀(f:uF) (cdv:Wp) (A:vF) (outer:Gc wF) (s:uE) (H:Hp) (E:XK),Hu k (A.deeper (vW x (AH st) s.heap.objs.size f cdv))->RSs (NR CX0 P w K mg base N x (AH st) f cdv A outer s H E).nox (DX st) r):iA P w K mg base x (k+1) ps (spR K mg np (Ar (V2 N.length r))):=by
 obtain⟨f,fd,Fu,hm⟩:=S.ex
 exact⟨f,fd,hm,Fu.kp,hbi f fd Fu,jZ Fu sc hp λcdv A outer s H E hr=>hb f cdv A outer s H E hr⟩
end
theorem KD{X:Cx}{α:Type}{M:Model}{A:vF}{t:Sem α}{Q Q':α->uE->Prop}{E:Wp->uE->Prop}{s:uE}(hn:X.xe=λ_ _=>wk)(h:wpAny M A t Q X.xe s)(hQ:∀a s,Q a s->Q' a s):wpAny M A t Q' E s:=
 wB h hQ λ_ _ z=>by rw[hn]at z;exact z.elim
noncomputable def GW(R:Rf)(fs:Gc Ev):Rx:=λE S=>(evs fs E S).bind λq=>(R q.1 q.2).map λz=>(z.1,E,z.2)
theorem Md{X:Cx}{k np:Nat}{x:Str}{ps:Gc Str}{R:Rf}{e:uh}{es:Gc uh}{fs:Gc Ev}{p pos:Pos}(d:iA X.prog X.w X.K X.mg X.base x k ps (spR X.K X.mg np R))(hr:Hu k X.A)(hg:Gl X x)(ha:DEs X (e::es) fs)(hn:fs.length=np:=by rfl)(hxe:X.xe=λ_ _=>wk:=by rfl)(hx:X.ex=[]:=by rfl)(hdb:(x==("__debug__":Str))=false:=by decide)(he:ue (e::es) X.env=(false,eval e X.env)::ue es X.env:=by rfl)(hpl:(backTo pos (ue es X.env)).any (·.1)=false:=by rfl):RE X (.Call (.Name x p) (e::es) [] pos) (GW R fs):=⟨by
 intro pins s σ H Z I h
 obtain⟨f,fd,hm,hk,hb,F⟩:=d.ex
 obtain⟨M,E,S,y,E',S',e0,r,st,q⟩:=h
 obtain⟨⟨ds,S1⟩,e1,e2⟩:=BO e0
 obtain⟨⟨y',S2⟩,e3,e4⟩:=MZ e2
 cases e4
 refine vt (N2 I hg hm ?_ hdb)
 have ha':=ha.pe pos pins s σ H (λvs H1=>∃M1,Gr M H M1 H1/\StR X.K M1 S1 H1/\A1 X.K M1 H1 vs ds) I (Jd e1 r st λvs H1 M1 g1 st1 r1=>⟨M1,g1,st1,r1⟩)
 refine zL (h₀:=X.base) I.ok.mod.kin hk (KD hxe ha' λus s1 ⟨vs,H1,I1,rv,M1,g1,st1,r1⟩=>⟨I1.kIn,?_⟩) he hpl
 have sp:spR X.K X.mg np R vs H1 (λ_ _=>wk) (λv _ H'=>∃C,v=.ref C/\Z C σ H'):=
  ⟨M1,ds,S1,y',S2,by rw[N8 e1];exact hn,e3,r1,st1,λC H' M' hc g2 st2=>⟨C,rfl,q C σ H' M' hc (g1.trans g2) ((r.step g1.st).step g2.st) st2⟩⟩
 have hl:(us++[]).length=ps.length:=by rw[wJ,<-rv.length];exact F.len _ _ _ _ sp
 have hbs:=hb s1 us I1.kIn hl
 rw[wJ]at hbs
 refine AAG (AAH (F.run X.A X.stack s1 H1 ⟨us,[]⟩ us vs _ _ hr I1.j4 hbs rv sp) λrs s' hq=>?_)
 cases rs with
 |error ev=>
  obtain⟨e,C,H',rfl,os,bare,un,hok,fly,C',hC,z⟩:=hq
  cases hC
  exact⟨e,C,σ,H',rfl,I1.dy os un hok bare (λb z=>nomatch z),z,fly.imp λb z=>HG I1 hx b z⟩
 |ok fl=>
  cases fl with
  |ret u=>
   obtain⟨v,H',_,_,_,_,_,q⟩:=hq
   exact q.elim
  |next=>exact wC hq
  |brk=>exact wC hq
  |cont=>exact wC hq⟩
section
variable{X:Cx}{st:vC}{rest a b:Gc vC}{f g:Ex}{r r1 r2:Rx}{c e:uh}{k:Ev}{pos:Pos}
theorem Ti(h:RE X e r)(hs:swapsWith e uC pos.line X.env=pure false:=by rfl):RS X (.Expr e pos) r:=⟨λpins s σ H Z I q=>AAk (wB (h.pe pins s σ H Z I q) (λ_ _ z=>z) λ_ _ z=>z) I.quiet hs⟩
noncomputable def rNo:Rx:=λ_ _=>uC
theorem gf:RS X st rNo:=⟨λ_ _ _ _ _ _ z=>by
 obtain⟨M,E,S,x,E',S',e,_⟩:=z
 cases e⟩
theorem Ud:RSs X rest rNo:=⟨λ_ _ _ _ _ _ z=>by
 obtain⟨M,E,S,x,E',S',e,_⟩:=z
 cases e⟩
noncomputable def WX(r:Rx)(f:Ex)(r2:Rx):Rx:=λE S=>match r E S with
 |some z=>Fk z
 |none=>(f E S).bind λq=>match q.1 with
  | .nx=>r2 q.2.1 q.2.2
  | .ret _=>uC
theorem Kr(h1:RS X st r)(hb:DS X st f)(h2:RSs X rest r2)(hxe:X.xe=λ_ _=>wk:=by rfl):RSs X (st::rest) (WX r f r2):=⟨λpins s σ H Z I z=>by
 obtain⟨M,E,S,x,E',S',e,rr,ss,q⟩:=z
 unfold WX at e
 split at e
 .rename_i z' e1
  cases e
  refine xV (wB (h1.pe pins s σ H Z I ⟨M,E,S,x,E',S',e1,rr,ss,q⟩) (λ_ _ z=>z.elim) λ_ _ z=>z)
 .obtain⟨⟨fl,E1,S1⟩,e1,e⟩:=BO e
  dsimp only at e
  split at e
  .refine xV (KD hxe (hb.pe pins s σ H {nx:=λσ' H'=>tR X.K X.mg r2 σ' H' Z,rt:=λ_ _=>wk} I ⟨M,E,S,.nx,E1,S1,e1,rr,ss,λσ' H' M' g' r' st'=>⟨M',E1,S1,x,E',S',e,r',st',λC σ2 H2 M2 hm g2=>q C σ2 H2 M2 hm (g'.trans g2)⟩⟩) λfl s1 w=>?_)
   cases fl with
   |next=>
    obtain⟨σ',H',I',q'⟩:=w
    exact h2.pe pins s1 σ' H' Z I' q'
   |ret v=>obtain⟨_,_,_,_,_,q'⟩:=w;exact q'.elim
   |brk=>obtain⟨_,_,_,q'⟩:=w;exact q'.elim
   |cont=>obtain⟨_,_,_,q'⟩:=w;exact q'.elim
  .cases e⟩
theorem XB(h1:RS X st r):RSs X [st] r:=⟨λpins s σ H Z I z=>xV (wB (h1.pe pins s σ H Z I z) (λ_ _ z=>z.elim) λ_ _ z=>z)⟩
noncomputable def rIf(k:Ev)(r1 r2:Rx):Rx:=λE S=>(k E S).bind λq=>match q.1 with
 | .bl true=>r1 E q.2
 | .bl false=>r2 E q.2
 |_=>uC
theorem oM(hc:DT X c k)(ha:RSs X a r1)(hb:RSs X b r2)(hxe:X.xe=λ_ _=>wk:=by rfl):RS X (.If c a b pos) (rIf k r1 r2):=⟨λpins s σ H Z I z=>by
 obtain⟨M,E,S,x,E',S',e,rr,ss,q⟩:=z
 obtain⟨⟨w1,S1⟩,e1,e⟩:=BO e
 dsimp only at e
 split at e
 .refine wpAny_If (KD hxe (hc.pe pins s σ H (λd H1=>d=true/\tR X.K X.mg r1 σ H1 Z) I ⟨M,E,S,_,S1,e1,rr,ss,λH1 M1 g1 st1=>⟨rfl,M1,E,S1,x,E',S',e,rr.step g1.st,st1,λC σ2 H2 M2 hm g2=>q C σ2 H2 M2 hm (g1.trans g2)⟩⟩) λd s1 w=>?_)
  obtain⟨H1,I1,rfl,q1⟩:=w
  exact ha.pe pins s1 σ H1 Z I1 q1
 .refine wpAny_If (KD hxe (hc.pe pins s σ H (λd H1=>d=false/\tR X.K X.mg r2 σ H1 Z) I ⟨M,E,S,_,S1,e1,rr,ss,λH1 M1 g1 st1=>⟨rfl,M1,E,S1,x,E',S',e,rr.step g1.st,st1,λC σ2 H2 M2 hm g2=>q C σ2 H2 M2 hm (g1.trans g2)⟩⟩) λd s1 w=>?_)
  obtain⟨H1,I1,rfl,q1⟩:=w
  exact hb.pe pins s1 σ H1 Z I1 q1
 .cases e⟩
end
abbrev VEm:Gc Wp:=[.type "ValueError",.type "Exception",.type "BaseException",.type "object"]
structure XcD(K:KE)(mg:Str->uD Wp)(x:Str):Prop where
 ex:∃C,mg x=Fk (.ref C)/\zq K C VEm "ValueError.__new__"=true
theorem pQ{K:KE}{h:ux}{mg:Str->uD Wp}{x:Str}{C:uF}(X:K.In h)(G:h.Ns mainGlobals mg)(e:wO K mainGlobals x=Fk (Fk (.ref C)))(q:zq K C VEm "ValueError.__new__"=true):XcD K mg x:=⟨C,yL X G e,q⟩
theorem fB{K:KE}{h:ux}{C:uF}{bmB:Gc Wp}{newId:xA}(X:K.In h)(q:zq K C bmB newId=true):∃bm N nm q bs hdct sn sub ab col dd k0 k1 k2 k3 k5 mN,h.get? C=Fk (excClassObj nm q C N bs bm hdct sn sub ab col dd k0 k1 k2 k3 k5 newId)/\h.Ns N mN/\mN "__init__"=uC/\OwnTail h bmB bm:=by
 unfold zq at q
 split at q
 case h_2=>cases q
 rename_i dd cd sl ho
 split at q
 case h_2=>cases q
 rename_i C' bm k0 k1 k2 k3 n k5 hm hs
 simp only[uT,ABO,Bool.not_eq_true']at q
 obtain⟨⟨⟨⟨⟨rfl,rfl⟩,hdel⟩,ht⟩,hok⟩,hni⟩:=q
 have hsl:sl= #[k0,k1,k2,k3,Fk (.builtin n),k5]:=Array.toList_inj.mp hs
 obtain⟨nm,bs,mro,ns,qn,hd,sn,sub,ab,col,del⟩:=cd
 dsimp only at hm hdel hok hni
 subst hm hdel hsl
 exact⟨bm,ns,nm,qn,bs,hd,sn,sub,ab,col,dd,k0,k1,k2,k3,k5,_,X _ _ ho,.of_isNs (PySem.W.isNs_of_in X hok),PySem.W.nsMap_none_of_in X hok hni,PySem.W.tail_of_in X ht⟩
noncomputable def U0(x:Str)(fs:Gc Ev):Rx:=λE S=>(evs fs E S).map λq=>(x,E,q.2)
theorem br{X:Cx}{x:Str}{e:uh}{es:Gc uh}{fs:Gc Ev}{np cpos pos:Pos}(hc:X.calm=true)(xc:XcD X.K X.mg x)(hg:Gl X x)(ha:DEs X (e::es) fs)(hl:fs.length<=sizeLine:=by decide)(hxe:X.xe=λ_ _=>wk:=by rfl)(hx:X.ex=[]:=by rfl)(hdb:(x==("__debug__":Str))=false:=by decide)(he:ue (e::es) X.env=(false,eval e X.env)::ue es X.env:=by rfl)(hpl:(backTo cpos (ue es X.env)).any (·.1)=false:=by rfl):RS X (.Raise (Fk (.Call (.Name x np) (e::es) [] cpos)) uC pos) (U0 x fs):=⟨by
 intro pins s σ H Z I h
 obtain⟨C,hm,hex⟩:=xc.ex
 obtain⟨M,E,S,y,E',S',e0,r,st,q⟩:=h
 obtain⟨⟨ds,S1⟩,e1,e2⟩:=MZ e0
 cases e2
 obtain⟨tl,N,nm,qn,bs,hdct,sn,sub,ab,col,dd,k0,k1,k2,k3,k5,mN,hC,hN,hni,T⟩:=fB I.ok.mod.kin hex
 refine wpAny_Raise_call_subT (C:=C) (nm:=nm) (q:=qn) (N:=N) (bs:=bs) (bm:=tl) (hdct:=hdct) (sn:=sn) (sub:=sub) (ab:=ab) (col:=col) (dd:=dd) (k0:=k0) (k1:=k1) (k2:=k2) (k3:=k3) (k5:=k5)
  AAx (mN:=mN) (T.hasType AAx.hasBase) (I.ok.hd hc) (by rw[he];show(false||(backTo cpos (ue es X.env)).any (·.1))=false;rw[hpl];rfl) hni (N2 I hg hm ⟨rfl,?_⟩ hdb)
 have ha':=ha.pe cpos pins s σ H (λvs H1=>∃M1,Gr M H M1 H1/\StR X.K M1 S1 H1/\A1 X.K M1 H1 vs ds) I (Jd e1 r st λvs H1 M1 g1 st1 r1=>⟨M1,g1,st1,r1⟩)
 rw[he]at ha'⊢
 refine AAo (KD hxe ha' λus s1 ⟨vs,H1,I1,rv,M1,g1,st1,r1⟩=>?_)
 refine⟨rfl,by rw[<-rv.length,r1.length,N8 e1];exact hl,I1.bk _ _ hC,hN.keeps I1.bk,T.keeps I1.bk,λh' ea hmd=>?_⟩
 obtain⟨t,w1,w2,w3⟩:=hmd.there
 refine⟨ea,C,σ,H1,rfl,I1.kept (t':=s1.toks) hmd.keeps,q C σ H1 M1 hm g1 (r.step g1.st) st1,?_,λz=>HG I1 hx _ z hmd.new,_,_,.ref t,.none,w1,rfl,rfl,rfl,rfl,.inl rfl⟩
 cases o:H1 ea with
 |none=>rfl
 |some ho=>
  obtain⟨ob,z⟩:=EL.there (I1.hok ea ho o)
  rw[hmd.new]at z;cases z⟩
abbrev Cx.mrk(X:Cx)(e:uF):Cx:={X with A:=X.A.mark (Fk (.ref e)),calm:=false}
section
variable{X:Cx}{pins:Gc (uF×Obj)}{σ:St}{H:Hp}{s:uE}{e:uF}
theorem ir(ok:X.Ok):(Cx.mrk X e).Ok:=⟨ok.mod,ok.kind,ok.glob,ok.blt,ok.above,ok.inj,ok.has,ok.cab,(λz=>nomatch z),ok.frames,ok.stk,ok.exf,ok.bs,ok.bsz,ok.dX,ok.eU,ok.U1,ok.frf⟩
theorem fC(I:Inv X pins σ H s):Inv (Cx.mrk X e) pins σ H s:=⟨ir I.ok,I.os,I.bare,I.base,I.loc,I.cell,I.free,I.L6,I.pin,I.hok,I.len⟩
theorem Lh(ok:X.Ok)(I:Inv (Cx.mrk X e) pins σ H s):Inv X pins σ H s:=⟨ok,I.os,I.bare,I.base,I.loc,I.cell,I.free,I.L6,I.pin,I.hok,I.len⟩
theorem bT{D:Ends}{f:Flow}(ok:X.Ok)(h:SP (Cx.mrk X e) pins D f s):SP X pins D f s:=by
 cases f with
 |next=>obtain⟨σ',H',I,q⟩:=h;exact⟨σ',H',Lh ok I,q⟩
 |brk=>obtain⟨σ',H',I,q⟩:=h;exact⟨σ',H',Lh ok I,q⟩
 |cont=>obtain⟨σ',H',I,q⟩:=h;exact⟨σ',H',Lh ok I,q⟩
 |ret u=>obtain⟨v,σ',H',I,r,q⟩:=h;exact⟨v,σ',H',Lh ok I,r,q⟩
end
structure HS(X:Cx)(hs:Gc wc)(g:Str->Ex):Prop where
 pe:∀(x:Str) (C:uF),X.mg x=Fk (.ref C)->∀(pins:Gc (uF×Obj)) (s:uE) (σ:St) (H:Hp) (D:Ends) (e:uF),Inv X pins σ H s->kO (hU X pins) H s.heap e C->tX X.K (g x) D σ H->
  wpAny (model X.prog X.w) X.A (handleBy (.ref e) X.env hs) (SP X pins D) (λ_ _=>wk) s
noncomputable def gNo:Str->Ex:=λ_ _ _=>uC
theorem Xs{X:Cx}:HS X [] gNo:=⟨λ_ _ _ _ _ _ _ _ _ _ _ z=>by
 obtain⟨M,E,S,fl,E',S',e,_⟩:=z
 cases e⟩
structure XmD(K:KE)(mg:Str->uD Wp)(xs:Gc Str)(y:Str):Prop where
 ex:∃C',mg y=Fk (.ref C')/\∀x∈xs,∀C,mg x=Fk (.ref C)->x5 K (.ref C) (.ref C')=Fk (x==y)
noncomputable def gOr(xs:Gc Str)(y:Str)(f:Ex)(g:Str->Ex):Str->Ex:=λx=>if x∈xs then(if(x==y)=true then f else g x)else TJ
theorem de{X:Cx}{pins:Gc (uF×Obj)}{σ:St}{H:Hp}{s:uE}{old:uF->Prop}{e C:uF}{Q:Unit->uE->Prop}{E:Wp->uE->Prop}{A:vF}{M:Model}(I:Inv X pins σ H s)(f:kO old H s.heap e C)(ho:∀b,old b->s.heap.get? b≠uC)(hQ:∀h',Trn X old H s.heap h' e C->Q () {s with heap:=h'}):wpAny M A (setFlight (.ref e) uC) Q E s:=by
 obtain⟨oe,vs,a0,T,oT,ts,h1,h2,h3,h4,h5,t2,t3,t4,t5,t6,t7⟩:=f.ex
 have hh:∀b∈frs X.stack,b∈e::T::frs X.stack:=λb m=>uJ _ (uJ _ m)
 refine Ug (s:=s) (h':=s.heap) (a0:=a0) (fl:=.none) I f.fly ho (e::T::frs X.stack) (λb m=>?_) ⟨QU,Nv hh I.stack,?_,λb o e1 _=>⟨o.slots,e1⟩⟩ hQ
 .rcases uI.mp m with z|m
  .exact .inr (.inl z)
  .rcases uI.mp m with z|m
   .subst z
    exact .inr (.inr ⟨t6,t7,oT,ts,t3,t4⟩)
   .exact .inl m
 .exact⟨oe,vs,T,oT,ts,h1,⟨h2,h4⟩,h3,h5,LU (uJ _ uP),t2,t3,t4,t5⟩
theorem UM{X:Cx}{xs:Gc Str}{y:Str}{b₀:vC}{suite:Gc vC}{f:Ex}{g:Str->Ex}{np pos:Pos}{rest:Gc wc}(xm:XmD X.K X.mg xs y)(hg:Gl X y)(hf:∀e,DSs (Cx.mrk X e) (b₀::suite) f)(hr:HS X rest g)(hxe:X.xe=λ_ _=>wk:=by rfl)(hx:X.ex=[]:=by rfl)(hst:X.stack=X.env::X.outer:=by rfl)(hfr:X.env.frame=Fk X.env.locals:=by rfl)(hdb:(y==("__debug__":Str))=false:=by decide):HS X (.ExceptHandler (Fk (.Name y np)) uC (b₀::suite) pos::rest) (gOr xs y f g):=⟨by
 intro x C hm pins s σ H D e I fl z
 obtain⟨C',hm',hex⟩:=xm.ex
 have hin:x∈xs:=by
  by_cases h:x∈xs
  .exact h
  .obtain⟨M,E,S,fl,E',S',e,_⟩:=z
   unfold gOr at e
   rw[vH h]at e
   cases e
 have z':tX X.K (if(x==y)=true then f else g x) D σ H:=by
  unfold gOr at z
  rw[vD hin]at z
  exact z
 have ex:=hex x hin C hm
 obtain⟨oe,vs,a0,T,oT,ts,h1,h2,_⟩:=id fl.ex
 have LT:PySem.W.Looks (model X.prog X.w) s.heap (typeOf (.ref e)) (.ref C):=by
  rw[<-h2];exact(PySem.W.Looks.ld h1).andThen .now
 refine wpAny_handleBy_cons (codeAny_handlers_test (xt I.ok.kind hg (zw (by rw[I.ok.glob];exact I.mod.glob.keeps I.bk) hm' ?_) hdb)) (by intro q;cases q)
 refine PySem.W.exm_one I.kIn LT ex _ _ _ _ (λ_ _ q=>q) ?_
 cases hb:(x==y)with
 |true=>
  rw[vD hb]at z'
  refine codeAny_handlers_suite (wpAny_passesOwnAt PassesOwnAt.never (de I fl (HG I hx) λh' t=>?_))
  have I':=fC (e:=e) (Wu I hst hfr hx t)
  exact wpAny_passesOwnAt PassesOwnAt.never (KD (X:=Cx.mrk X e) hxe ((hf e).pe pins _ σ H D I' z') λfl s2 w=>bT I.ok w)
 |false=>
  rw[vH (by rw[hb];decide)]at z'
  exact hr.pe x C hm pins s σ H D e I fl z'⟩
section
variable{X:Cx}{pos:Pos}
end
theorem nT{K:KE}{h:ux}{mg:Str->uD Wp}{xs:Gc Str}{y:Str}{C':uF}(X:K.In h)(G:h.Ns mainGlobals mg)(e:wO K mainGlobals y=Fk (Fk (.ref C')))(t:∀x∈xs,∃C,wO K mainGlobals x=Fk (Fk (.ref C))/\x5 K (.ref C) (.ref C')=Fk (x==y)):XmD K mg xs y:=⟨C',yL X G e,λx hx C hm=>by
 obtain⟨C2,e2,q⟩:=t x hx
 have:=hm.symm.trans (yL X G e2)
 cases this
 exact q⟩
theorem all_nil{p:Str->Prop}:∀x∈([]:Gc Str),p x:=λ_ z=>nomatch z
theorem all_cons{p:Str->Prop}{x:Str}{xs:Gc Str}(h:p x)(t:∀x∈xs,p x):∀y∈x::xs,p y:=λy m=>by
 rcases uI.mp m with rfl|m
 .exact h
 .exact t y m
end Mi
end
noncomputable section
namespace Mi
open PySem PySem.Spec L2 PyProof.Rows
abbrev eIx(a b:Ev):Ev:=eOp (o2 wIx) [a,b]
abbrev eI(n:Int):Ev:=eC (.int n)
theorem scM{N P:Gc Str}{sc:vn}(a:sc.kind=.function:=by rfl)(b:sc.isCoroutine=false:=by rfl)(c:sc.isGenerator=false:=by rfl)(d:N.Nodup:=by decide+kernel)(e:N.take P.length=P:=by rfl)(f:∀x∈P,sc.names.lookup x=Fk .local\/sc.names.lookup x=Fk .cell:=by decide+kernel)(g:∀y∈sc.names,y.2≠.free:=by decide+kernel):AQ N P sc:=⟨a,b,c,d,e,f,g⟩
theorem csM{N:Gc Str}{osc:vn}{N':Gc Str}{ix:Gc (uD Nat)}{scope:vn}(a:scope.kind=.function:=by rfl)(b:∀y∈scope.names,y.2=.cell->scope.names.lookup y.1=Fk .cell:=by decide+kernel)(c:∀y∈scope.names,y.2=.local->scope.names.lookup y.1=Fk .local:=by decide+kernel)(d:∀y∈scope.names,y.2=.free->(osc.names.lookup y.1=Fk .cell\/osc.names.lookup y.1=Fk .free):=by decide+kernel)(e:VE N osc scope N' ix=true:=by decide+kernel):Af N osc N' ix scope:=⟨a,b,c,d,e⟩
theorem len0{α:Type}{us:Gc α}(h:us.length=0):us=[]:=by
 match us,h with
 | [],_=>rfl
theorem Ut{α:Type}{us:Gc α}(h:us.length=1):∃a,us=[a]:=by
 match us,h with
 | [a],_=>exact⟨a,rfl⟩
theorem dB{α:Type}{us:Gc α}(h:us.length=2):∃a b,us=[a,b]:=by
 match us,h with
 | [a,b],_=>exact⟨a,b,rfl⟩
theorem md{α:Type}{us:Gc α}(h:us.length=3):∃a b c,us=[a,b,c]:=by
 match us,h with
 | [a,b,c],_=>exact⟨a,b,c,rfl⟩
theorem qq{α:Type}{us:Gc α}(h:us.length=4):∃a b c d,us=[a,b,c,d]:=by
 match us,h with
 | [a,b,c,d],_=>exact⟨a,b,c,d,rfl⟩
theorem qG{α:Type}{us:Gc α}(h:us.length=5):∃a b c d e,us=[a,b,c,d,e]:=by
 match us,h with
 | [a,b,c,d,e],_=>exact⟨a,b,c,d,e,rfl⟩
theorem sv{α:Type}{us:Gc α}(h:us.length=6):∃a b c d e f,us=[a,b,c,d,e,f]:=by
 match us,h with
 | [a,b,c,d,e,f],_=>exact⟨a,b,c,d,e,f,rfl⟩
section
variable{P:ug}{w:vG}{K:KE}{mg:Str->uD Wp}{base:ux}
theorem dfM {x : Str} {st : vC} {N ps : Gc Str} (k : Nat) {np : Nat} {b : Ex} (S : St.Src K mg x st) (sc : AQ N ps (AH st)) (hb : ∀ {f : uF} {cdv : Wp} {A : vF} {outer : Gc wF} {s : uE} {H : Hp} {E : XK}, Hu k (A.deeper (vW x (AH st) s.heap.objs.size f cdv)) -> (A.deeper (vW x (AH st) s.heap.objs.size f cdv)).units + 100 < cLine -> DSs (NR CX0 P w K mg base N x (AH st) f cdv A outer s H E).nox (DX st) b) (hp : ps.length = np := by rfl) (hbi : ∀ f fd, Fun K x x st f fd -> Binds K fd ps [] := by
      first
      | exact fun f fd F => F.binds fun _ _ _ _ _ _ us hl => by obtain ⟨_, rfl⟩ := Ut hl; rfl
      | exact fun f fd F => F.binds fun _ _ _ _ _ _ us hl => by obtain ⟨_, _, rfl⟩ := dB hl; rfl
      | exact fun f fd F => F.binds fun _ _ _ _ _ _ us hl => by obtain ⟨_, _, _, rfl⟩ := md hl; rfl
      | exact fun f fd F => F.binds fun _ _ _ _ _ _ us hl => by obtain ⟨_, _, _, _, rfl⟩ := qq hl; rfl
      | exact fun f fd F => F.binds fun _ _ _ _ _ _ us hl => by obtain ⟨_, _, _, _, _, rfl⟩ := qG hl; rfl
      | exact fun f fd F => F.binds fun _ _ _ _ _ _ us hl => by obtain rfl := len0 hl; rfl
      | exact fun f fd F => F.binds fun _ _ _ _ _ _ us hl => by obtain ⟨_, _, _, _, _, _, rfl⟩ := sv hl; rfl) :
    St.Dfn P w K mg base x (k + 1) ps (spD K np (Ar (A3 N.length b))) := j8 S sc hp hbi fun _ _ _ _ _ _ _ hr => hb hr (LL hr)
end
theorem deM{X:Cx}{k k' np:Nat}{x:Str}{ps:Gc Str}{f:Fn}{e:uh}{es:Gc uh}{fs:Gc Ev}{p pos:Pos}(d:St.Dfn X.prog X.w X.K X.mg X.base x k ps (spD X.K np f))(hr:Hu k' X.A)(ha:DEs X (e::es) fs)(hk:k<=k':=by first|decide|omega)(hg:Gl X x:=by exact rfl)(hn:fs.length=np:=by rfl)(hdb:(x==("__debug__":Str))=false:=by decide)(he:ue (e::es) X.env=(false,eval e X.env)::ue es X.env:=by rfl)(hpl:(backTo pos (ue es X.env)).any (·.1)=false:=by rfl):DE X (.Call (.Name x p) (e::es) [] pos) (AJ f fs):=fS d (hr.mono hk) hg ha hn hdb he hpl
end Mi
end
noncomputable section
namespace Mi
open PySem PySem.Spec L2 PyProof.Rows
def BmB(mg:Str->uD Wp)(base:ux):Prop:=
 ∃bm o,mg "__builtins__"=Fk (.ref bm)/\bm≠builtinsNs/\bm≠mainGlobals/\base.get? bm=Fk o/\o.cls=.type "module" /\o.dict=Fk builtinsNs/\o.data=.plain
theorem MS.hd{K:KE}{h:ux}{c P:uF}(k:MS K c P)(X:K.In h):PySem.W.CodeHd h c P:=by
 obtain⟨o,vs,file,tf,flags,tg,inF,text,tt,h0,r⟩:=k
 exact⟨o,vs,file,tf,flags,tg,inF,text,tt,X _ _ h0,r⟩
theorem V7{pos:Pos}{a b:Int}{v cv:Wp}{l:Gc Wp}(h:TriplesOk l)(e:codeAmong pos (l++[rawInt a,rawInt b,v])=Fk cv):codeAmong pos l=Fk cv\/cv=v:=by
 induction l using TriplesOk.induct with
 |case1=>
  rw[uz,yB]at e
  unfold rawInt at e
  dsimp only at e
  split at e
  .cases e;exact .inr rfl
  .rw[yB]at e;cases e
 |case2 i t1 j t2 w r ih=>
  rw[TriplesOk.eq_def]at h
  rw[vK,vK,vK,yB]at e
  rw[yB]
  dsimp only at e h⊢
  split at e
  .rename_i z;rw[vD z];exact .inl e
  .rename_i z;rw[vH z];exact ih h e
 |case3 l n1 n2=>
  rw[TriplesOk.eq_def]at h
  split at h
  .exact(n1 rfl).elim
  .exact(n2 _ _ _ _ _ _ rfl).elim
  .exact h.elim
structure Tj(X:Cx)(pins:Gc (uF×Obj))(σ:Sg)(H:Hp)(s:uE)(x:Str)(P:uF)(params:zH)(body:uh)(sc:vn)(clos:Gc (Str×uF))(f:uF)(H':Hp)(s':uE):Prop where
 inv:Inv X pins σ H' s'
 fn:∃pm c' ctv o,s'.heap.get? f=Fk (AAa "<lambda>" (PH x) params body sc clos pm c' ctv)/\H' c'=Fk (.frz o (.own 0))/\XU (PH x) o
 new:s.heap.objs.size<=f
 tab:∃ps,H' P=Fk (.tbl ps)/\Vu X.K H' x P ps
 keep:∀b o,H b=Fk o->b≠P->H' b=Fk o
 none:H' f=uC
theorem Zi{X:Cx}{pins:Gc (uF×Obj)}{σ:Sg}{H:Hp}{s:uE}{params:zH}{body:uh}{sc:vn}{pos:Pos}{x:Str}{c P:uF}{ps:vQ Wp}{clos:Gc (Str×uF)}{Q:Wp->uE->Prop}{E:Wp->uE->Prop}(I:Inv X pins σ H s)(hqual:X.env.qual=x++(".<locals>.":Str))(hdf:defaultsOf params X.env=([],[]))(hcl:closureFor sc X.env=pure clos)(hcode:X.env.code=.ref c)(hcd:MS X.K c P)(bm:BmB X.mg X.base)(hP:H P=Fk (.tbl ps))(tok:Vu X.K H x P ps)(hQ:∀f H' s',Tj X pins σ H s x P params body sc clos f H' s'->Q (.ref f) s'):wpAny (model X.prog X.w) X.A (eval (.Lambda params body sc pos) X.env) Q E s:=by
 have hG:s.heap.Ns mainGlobals X.mg:=I.mod.glob.keeps I.bk
 have hCH:=hcd.hd I.kIn
 have hT:s.heap.get? P=Fk (yh ps):=I.hok P _ hP
 have hq:X.env.qual++("<lambda>":Str)=PH x:=by rw[hqual];rfl
 obtain⟨b0,ob,m1,m2,m3,m4,m5,m6,m7⟩:=bm
 have nb:b0≠P:=λz=>by
  have:=(I.bs b0 ob m4).2
  rw[z,hP]at this;cases this
 have hB:s.heap.BuiltinsAt X.mg P:=⟨b0,ob,m1,m2,m3,nb,I.bk _ _ m4,m5,m6,m7⟩
 have gP:mainGlobals≠P:=λz=>by
  obtain⟨o,es,ep,ho,_⟩:=id I.mod.glob
  have:=(I.bs _ o ho).2
  rw[z,hP]at this;cases this
 refine PySem.W.kla_eval hdf ?_
 cases hh:codeAmong pos ps.toList with
 |some cv=>
  refine PySem.W.kla_makeFunctionHit hcl I.ok.glob hG hcode hCH hT tok.tri hh hB λctv h' tk kp sz=>?_
  obtain⟨c',o,rfl,hz,vs,t,n1,n2⟩:=tok.cod pos cv hh
  have hcc:s.heap.get? c'=Fk o:=(I.hok c' _ hz).1
  have kp2:∀b u,s.heap.get? b=Fk u->(h'.push {cls:=AAE "function",data:=Data.func (yi "<lambda>" (X.env.qual++("<lambda>":Str)) params body sc clos ((X.mg "__name__").getD vo) (.ref c') ctv)}).get? b=Fk u:=λb u e=>uB _ (kp b u e)
  refine hQ _ H _ ⟨I.kept (t':=tk) kp2,⟨_,c',ctv,o,by rw[<-hq];exact uf _ rfl,hz,vs,t,n1,n2⟩,sz,⟨ps,hP,tok⟩,λ_ _ e _=>e,I.hok.fresh sz⟩
 |none=>
  refine PySem.W.kla_makeFunction hcl I.ok.glob hG hcode hCH hT tok.tri hh gP hB λc' ctv h' tk ext l1 l2 crec ht=>?_
  rw[hq]at crec
  generalize hfo:(AAa "<lambda>" (X.env.qual++("<lambda>":Str)) params body sc clos ((X.mg "__name__").getD vo) c' ctv)=fo
  have hfo2:fo=AAa "<lambda>" (PH x) params body sc clos ((X.mg "__name__").getD vo) c' ctv:=by rw[<-hfo,hq]
  obtain⟨c1,o,vs,t,ec,ho,hd,hv⟩:=id crec
  cases ec
  have kp:∀b u,b≠P->s.heap.get? b=Fk u->(h'.push fo).get? b=Fk u:=λb u n e=>uB _ (ext b u n e)
  have nH:H c'=none:=I.hok.fresh l1
  have cP:c'≠P:=λz=>by rw[z,hP]at nH;cases nH
  generalize hmo:ps++ #[rawInt ↑pos.line,rawInt ↑pos.col,va c']=ps2 at ht
  let H':Hp:=upd (upd H c' (.frz o (.own 0))) P (.tbl ps2)
  have hk:∀b u,H b=Fk u->b≠P->H' b=Fk u:=λb u e n=>by
   show upd (upd H c' (.frz o (.own 0))) P (.tbl ps2) b=Fk u
   rw[Am n,Am (λz=>by rw[z,nH]at e;cases e)]
   exact e
  have hc1:H' c'=Fk (.frz o (.own 0)):=by
   show upd (upd H c' (.frz o (.own 0))) P (.tbl ps2) c'=_
   rw[Am cP,Bf]
  have hP':H' P=Fk (.tbl ps2):=Bf
  have hn:∀b,b≠P->b≠c'->H b=uC->H' b=none:=λb n1 n2 e=>by
   show upd (upd H c' (.frz o (.own 0))) P (.tbl ps2) b=uC
   rw[Am n1,Am n2];exact e
  have pP:(h'.push fo).get? P=Fk (yh ps2):=uB _ ht
  have po:(h'.push fo).get? c'=Fk o:=uB _ ho
  have fz:fo.isFreed=false:=by rw[<-hfo];rfl
  have un:Un X.fs [] H H' s.heap (h'.push fo):=by
   refine⟨λb u e n _ _=>kp b u (λz=>?_) e,λb u e n _ _=>⟨u.slots,kp b u (λz=>?_) e⟩,λb u e n _=>hn b (λz=>?_) (λz=>?_) n,λb u e _=>?_,λb xs e=>hk b _ e (λz=>?_),λb u v e=>hk b _ e (λz=>?_),λb qs e=>?_⟩
   .rw[z,hP]at n;cases n
   .rw[z,hP]at n;cases n
   .rw[z,hP]at n;cases n
   .subst z;exact absurd (uG (uZ e) l1) (vw _)
   .by_cases z:b=P
    .subst z;exact⟨_,pP⟩
    .exact⟨u,kp b u z e⟩
   .rw[z,hP]at e;cases e
   .rw[z,hP]at e;cases e
   .by_cases z:b=P
    .subst z
     rw[hP]at e;cases e
     exact⟨_,by rw[hmo];exact hP'⟩
    .exact⟨#[],by rw[Array.append_empty];exact hk b _ e z⟩
  have hok:HOk X.prog X.w H' (h'.push fo):=λa u q=>by
   by_cases z:a=P
   .subst z
    rw[hP']at q;cases q
    exact pP
   .by_cases z2:a=c'
    .subst z2
     rw[hc1]at q;cases q
     exact⟨po,o,po⟩
    .have q0:H a=Fk u:=by
      have:H' a=H a:=by
       show upd (upd H c' (.frz o (.own 0))) P (.tbl ps2) a=_
       rw[Am z,Am z2]
      rw[<-this];exact q
     refine(I.hok a u q0).Ym (λb v hb e=>kp b v (λzz=>?_) e) (λb e=>hk b _ e (λzz=>?_)) λb xs e=>hk b _ e (λzz=>?_)
     .rcases hb with hb|hb
      .exact z (hb.symm.trans zz)
      .rw[zz,hP]at hb;cases hb
     .rw[zz,hP]at e;cases e
     .rw[zz,hP]at e;cases e
  have sz:s.heap.objs.size<=h'.objs.size:=zA (vT l1 l2)
  have nF:H' h'.objs.size=none:=hn _ (λz=>by rw[<-z]at ht;exact absurd (uZ ht) (vw _)) (λz=>by rw[<-z]at l2;exact vw _ l2) (I.hok.fresh sz)
  refine hQ _ H' _ ⟨I.un (t':=tk) un hok,⟨_,c',ctv,o,by rw[<-hfo2];exact uf _ fz,hc1,vs,t,hd,hv⟩,sz,⟨ps2,hP',?_⟩,hk,nF⟩
  refine⟨by rw[<-hmo];simpa using TriplesOk_snoc pos.line pos.col (.ref c') ps.toList tok.tri,tok.tat,λpos' cv e=>?_⟩
  rw[<-hmo]at e
  rcases V7 (l:=ps.toList) tok.tri (by simpa using e)with z|z
  .obtain⟨c2,o2,z1,z2,z3⟩:=tok.cod pos' cv z
   exact⟨c2,o2,z1,hk _ _ z2 (λzz=>by rw[zz,hP]at z2;cases z2),z3⟩
  .exact⟨c',o,z,hc1,vs,t,hd,hv⟩
end Mi
end
noncomputable section
namespace Mi
open PySem PySem.Spec L2
section
open PyProof.Rows (Below)
structure PN(H:Hp)(h:ux)(x:Str)(body:uh)(sc:vn)(clos:Gc (Str×uF))(N:Gc Str)(σc:Sg)(f:uF):Prop where
 fn:∃params pm c' ctv o oc,h.get? f=Fk o/\o.data=.func (yi "<lambda>" (PH x) params body sc clos pm (.ref c') ctv)/\H c'=Fk (.frz oc (.own 0))/\XU (PH x) oc/\bindArgs (yi "<lambda>" (PH x) params body sc clos pm (.ref c') ctv) ⟨[],[]⟩=pure []
 nof:H f=uC
 cell:∀y c,clos.lookup y=Fk c->(∃v,h.IsCell c v)/\H c=uC
 inj:∀y z c,clos.lookup y=Fk c->clos.lookup z=Fk c->y=z
 has:∀y,(sc.names.lookup y=Fk .cell\/sc.names.lookup y=Fk .free)->∃c,clos.lookup y=Fk c
 val:∀(i:Nat) (y:Str) (v:V),N[i]?=Fk y->σc[i]?=Fk (Fk v)->Vis sc y->sc.names.lookup y=Fk .free/\∃c u,clos.lookup y=Fk c/\h.IsCell c (Fk u)/\RelV v u
 len:σc.length=N.length
 kind:sc.kind=.function
 co:sc.isCoroutine=false
 gen:sc.isGenerator=false
 Px:∀y∈sc.names,y.2≠.cell
theorem PN.later{H H':Hp}{h h':ux}{x:Str}{body:uh}{sc:vn}{clos:Gc (Str×uF)}{N:Gc Str}{σc:Sg}{f:uF}{fs:Gc uF}(L:PN H h x body sc clos N σc f)(u:Un fs [] H H' h h'):PN H' h' x body sc clos N σc f:=by
 have cl:∀c v,h.IsCell c v->H c=uC->h'.IsCell c v:=λc v ⟨o,ho,hd⟩ n=>by
  obtain⟨sl,q⟩:=u.any ho n (by simp)
  exact⟨_,q,hd⟩
 obtain⟨params,pm,c',ctv,o,oc,h1,h2,h3,h4,h5⟩:=L.fn
 obtain⟨sl,q⟩:=u.any h1 L.nof (by simp)
 refine⟨⟨params,pm,c',ctv,_,oc,q,h2,u.X9 _ _ _ h3,h4,h5⟩,u.free f o h1 L.nof (by simp),λy c e=>?_,L.inj,L.has,λi y v e1 e2 e3=>?_,L.len,L.kind,L.co,L.gen,L.Px⟩
 .obtain⟨⟨v,z⟩,n⟩:=L.cell y c e
  obtain⟨o',ho',_⟩:=id z
  exact⟨⟨v,cl c v z n⟩,u.free c o' ho' n (by simp)⟩
 .obtain⟨k,c,w,e,z,r⟩:=L.val i y v e1 e2 e3
  exact⟨k,c,w,e,cl c _ z (L.cell y c e).2,r⟩
noncomputable def Pm(P:ug)(w:vG)(K:KE)(mg:Str->uD Wp)(base:ux)(N:Gc Str)(x:Str)(sc:vn)(clos:Gc (Str×uF))(f c':uF)(A:vF)(outer:Gc wF)(s:uE)(H:Hp):Cx where
 prog:=P
 w:=w
 K:=K
 mg:=mg
 base:=base
 A:=A.deeper (wd (PH x) sc s.heap.objs.size f (.ref c') clos)
 N:=N
 s₀:=s
 H₀:=H
 env:=wd (PH x) sc s.heap.objs.size f (.ref c') clos
 outer:=outer
 stack:=wd (PH x) sc s.heap.objs.size f (.ref c') clos::outer
 ex:=[]
 calm:=true
 fn:=λ_=>false
 pn:=[]
 xe:=λ_ _=>wk
theorem X3{P:ug}{w:vG}{K:KE}{mg:Str->uD Wp}{base:ux}{N:Gc Str}{x:Str}{body:uh}{sc:vn}{clos:Gc (Str×uF)}{f c':uF}{A:vF}{outer:Gc wF}{s:uE}{H:Hp}{σc:Sg}{h':ux}{tk:Nat}{m:Str->uD Wp}(L:PN H s.heap x body sc clos N σc f)(hd:A.handled=uC)(e0:jc P w K mg base A outer s H)(hns:h'.Ns s.heap.objs.size m)(kp:∀b o,s.heap.get? b=Fk o->h'.get? b=Fk o):Inv (Pm P w K mg base N x sc clos f c' A outer s H) [] σc H {s with heap:=h',toks:=tk}:=by
 have noA:∀b:uF,b∉(Pm P w K mg base N x sc clos f c' A outer s H).ex:=λb z=>absurd (show b∈([]:Gc uF)from z) (by simp)
 have cl:∀c v,s.heap.IsCell c v->h'.IsCell c v:=λc v ⟨o,ho,hd⟩=>⟨o,kp _ _ ho,hd⟩
 refine⟨⟨e0.mod,L.kind,rfl,rfl,uN _,L.inj,L.has,λy c z _=>absurd z (by intro q;cases q),λ_=>hd,AAn e0.frames,.inr ⟨rfl,rfl⟩,λb z=>absurd z (noA b),e0.bs,e0.bsz,λb _ _=>noA b,λb z=>absurd z (noA b),e0.U1,e0.frf⟩,
  rfl,e0.bare,Un.kept kp,⟨m,hns,λi y v e1 e2 e3=>?_⟩,λy c e=>?_,e0.hok.fresh (uN _),λy c e=>(L.cell y c e).2,λp hp=>absurd (show p∈([]:Gc (uF×Obj))from hp) (by simp),e0.hok.kept kp,L.len⟩
 .obtain⟨k,c,u,e,z,r⟩:=L.val i y v e1 e2 e3
  exact⟨u,r,.inr ⟨.inr k,c,e,cl c _ z⟩⟩
 .obtain⟨⟨v,z⟩,_⟩:=L.cell y c e
  exact⟨v,cl c v z⟩
theorem fw{X:Cx}{pins:Gc (uF×Obj)}{σ:Sg}{H:Hp}{s:uE}{x:Str}{body:uh}{sc:vn}{clos:Gc (Str×uF)}{N:Gc Str}{σc:Sg}{f:uF}{k:Nat}{t:TE}{Q:VK}(I:Inv X pins σ H s)(hr:Hu (k+1) X.A)(L:PN H s.heap x body sc clos N σc f)(hb:∀c',Hu k (X.A.deeper (wd (PH x) sc s.heap.objs.size f (.ref c') clos))->PE (Pm X.prog X.w X.K X.mg X.base N x sc clos f c' X.A X.stack s H) body t)(ht:t σc H Q):wpAny (model X.prog X.w) X.A (call (.ref f) []) (EP X pins σ Q) X.xe s:=by
 obtain⟨params,pm,c',ctv,o,oc,h1,h2,h3,h4,h5⟩:=L.fn
 have cr:s.heap.CodeRec (.ref c') (PH x):=by
  obtain⟨vs,t,n1,n2⟩:=h4
  exact⟨c',oc,vs,t,rfl,(I.hok c' _ h3).1,n1,n2⟩
 refine AAG (AAy hr.depth h1 h2 L.co L.gen rfl cr ?_)
 rw[h5]
 refine uR (AAz L.Px (λ_ z=>nomatch z) (λh' hns sb=>?_) L.kind)
 have kp:∀b ob,s.heap.get? b=Fk ob->h'.get? b=Fk ob:=λb ob e=>by
  rw[sb.2 b (vB (uZ e))]
  exact uB _ e
 have J:=X3 (c':=c') (tk:=s.toks+0) L hr.hd I.j4 hns kp
 refine⟨I.nolimit.keeps kp,AA0 (wB (hb c' (hr.deeper _) [] _ σc H Q J ht) (λu s' z=>?_) λ_ _ z=>z.elim)⟩
 obtain⟨v,H',J',rv,q⟩:=z
 exact I.after ⟨v,H',J'.os,J'.bare,J'.base,J'.hok,rv,q⟩
theorem bU{X:Cx}{pins:Gc (uF×Obj)}{σ:Sg}{H:Hp}{s:uE}{x:Str}{body:uh}{sc:vn}{clos:Gc (Str×uF)}{N:Gc Str}{σc:Sg}{f:uF}{k:Nat}{t:TR}{Z:Rk}(I:Inv X pins σ H s)(hr:Hu (k+1) X.A)(L:PN H s.heap x body sc clos N σc f)(hx:X.ex=[])(hb:∀c',Hu k (X.A.deeper (wd (PH x) sc s.heap.objs.size f (.ref c') clos))->PXe (Pm X.prog X.w X.K X.mg X.base N x sc clos f c' X.A X.stack s H) body t)(ht:t σc H λC _ H'=>Z C σ H'):wpAny (model X.prog X.w) X.A (call (.ref f) []) (λ_ _=>wk) (XP X pins Z) s:=by
 obtain⟨params,pm,c',ctv,o,oc,h1,h2,h3,h4,h5⟩:=L.fn
 have cr:s.heap.CodeRec (.ref c') (PH x):=by
  obtain⟨vs,t,n1,n2⟩:=h4
  exact⟨c',oc,vs,t,rfl,(I.hok c' _ h3).1,n1,n2⟩
 refine AAG (AAy hr.depth h1 h2 L.co L.gen rfl cr ?_)
 rw[h5]
 refine uR (AAz L.Px (λ_ z=>nomatch z) (λh' hns sb=>?_) L.kind)
 have kp:∀b ob,s.heap.get? b=Fk ob->h'.get? b=Fk ob:=λb ob e=>by
  rw[sb.2 b (vB (uZ e))]
  exact uB _ e
 have J:=X3 (c':=c') (tk:=s.toks+0) L hr.hd I.j4 hns kp
 refine⟨I.nolimit.keeps kp,AA0 (wB (hb c' (hr.deeper _) [] _ σc H _ J ht) (λ_ _ z=>z.elim) λev s' z=>?_)⟩
 obtain⟨e,C,σ',H',rfl,J',z,fl⟩:=z
 unfold leaving
 refine tz (Q6 J' J'.ok.frames rfl rfl fl (HG J' rfl) λh2 t=>?_)
 have un:=XR J' rfl rfl rfl t
 have ok2:=UD J' t
 have fl2:=t.fly.fly
 show XP X pins Z (.ref e) _
 exact⟨e,C,σ,H',rfl,I.dy J'.os un ok2 J'.bare (λb z=>nomatch z),z,fl2.imp λb z=>.inl (HG I hx b z)⟩
theorem ZE{X:Cx}{x:Str}{body:uh}{sc:vn}{clos:Gc (Str×uF)}{N:Gc Str}{σc:Sg}{f:uF}{k i:Nat}{t:TE}{y:Str}{p pos:Pos}(hr:Hu (k+1) X.A)(hx:X.ex=[])(L:PN X.H₀ X.s₀.heap x body sc clos N σc f)(hb:∀c' s H,Hu k (X.A.deeper (wd (PH x) sc s.heap.objs.size f (.ref c') clos))->PE (Pm X.prog X.w X.K X.mg X.base N x sc clos f c' X.A X.stack s H) body t)(hN:X.N[i]?=Fk y)(hv:Vis X.env.scope y)(hd:(y==("__debug__":Str))=false:=by decide)(hcd:(y==("__classdict__":Str))=false:=by decide):PE X (.Call (.Name y p) [] [] pos) (λσ H Q=>σ[i]?=Fk (Fk (.ref f))/\t σc H Q):=by
 intro pins s σ H Q I h
 refine vt (thn (YS hN hv hd hcd pins s σ H (λv H1=>v=.ref f/\H1=H) I ⟨.ref f,h.1,rfl,rfl⟩) λu s1 z=>?_)
 obtain⟨v,H1,I1,rv,rfl,rfl⟩:=z
 obtain rfl:u=.ref f:=rv
 have un:=I1.base
 rw[hx]at un
 have L1:=L.later un
 obtain⟨params,pm,c',ctv,o,oc,h1,h2,_⟩:=L1.fn
 refine ABD ⟨o.cls,o.dict,_,o.slots,by rw[h1];obtain⟨c,d,dt,sl⟩:=o;cases h2;rfl⟩ ?_
 exact fw I1 hr L1 (λc'=>hb c' s1 H1) h.2
theorem ZW{X:Cx}{x:Str}{body:uh}{sc:vn}{clos:Gc (Str×uF)}{N:Gc Str}{σc:Sg}{f:uF}{k i:Nat}{t:TR}{y:Str}{p pos:Pos}(hr:Hu (k+1) X.A)(hx:X.ex=[])(L:PN X.H₀ X.s₀.heap x body sc clos N σc f)(hb:∀c' s H,Hu k (X.A.deeper (wd (PH x) sc s.heap.objs.size f (.ref c') clos))->PXe (Pm X.prog X.w X.K X.mg X.base N x sc clos f c' X.A X.stack s H) body t)(hN:X.N[i]?=Fk y)(hv:Vis X.env.scope y)(hxe:X.xe=λ_ _=>wk)(hd:(y==("__debug__":Str))=false:=by decide)(hcd:(y==("__classdict__":Str))=false:=by decide):PXe X (.Call (.Name y p) [] [] pos) (λσ H Z=>σ[i]?=Fk (Fk (.ref f))/\t σc H λC _ H'=>Z C σ H'):=by
 intro pins s σ H Z I h
 refine vt (KD hxe (YS hN hv hd hcd pins s σ H (λv H1=>v=.ref f/\H1=H) I ⟨.ref f,h.1,rfl,rfl⟩) λu s1 z=>?_)
 obtain⟨v,H1,I1,rv,rfl,rfl⟩:=z
 obtain rfl:u=.ref f:=rv
 have un:=I1.base
 rw[hx]at un
 have L1:=L.later un
 obtain⟨params,pm,c',ctv,o,oc,h1,h2,_⟩:=L1.fn
 refine ABD ⟨o.cls,o.dict,_,o.slots,by rw[h1];obtain⟨c,d,dt,sl⟩:=o;cases h2;rfl⟩ ?_
 exact bU I1 hr L1 hx (λc'=>hb c' s1 H1) h.2
end
structure Ko(N:Gc Str)(osc:vn)(N':Gc Str)(JT:Gc Nat)(sc:vn):Prop where
 kind:sc.kind=.function
 co:sc.isCoroutine=false
 gen:sc.isGenerator=false
 Px:∀y∈sc.names,y.2≠.cell
 free:∀y∈sc.names,y.2=.free->osc.names.lookup y.1=Fk .cell
 len:JT.length=N'.length
 JT:∀z∈N'.zip JT,N[z.2]?=Fk z.1/\osc.names.lookup z.1=Fk .cell/\sc.names.lookup z.1=Fk .free
noncomputable def UH{α:Type}(JT:Gc Nat)(σ:Gc (uD α)):Gc (uD α):=JT.map λi=>(σ[i]?).join
theorem Uh{α:Type}{JT:Gc Nat}{σ:Gc (uD α)}{j:Nat}{v:α}(h:(UH JT σ)[j]?=Fk (Fk v)):∃i,JT[j]?=Fk i/\σ[i]?=Fk (Fk v):=by
 unfold UH at h
 rw[uQ]at h
 cases e:JT[j]? with
 |none=>rw[e]at h;cases h
 |some i=>
  rw[e]at h
  refine⟨i,rfl,?_⟩
  have h':(σ[i]?).join=Fk v:=by simpa using h
  cases e2:σ[i]? with
  |none=>rw[e2]at h';cases h'
  |some o=>rw[e2]at h';simpa using h'
theorem b9{α:Type}{JT:Gc Nat}{σ:Gc (uD α)}{i j:Nat}{v:α}(h:JT[j]?=Fk i)(e:σ[i]?=Fk (Fk v)):(UH JT σ)[j]?=Fk (Fk v):=by
 unfold UH
 rw[uQ,h]
 simp[e]
theorem EnR.Pa{K:KE}{M:Ms}{E:En}{σ:Sg}{H:Hp}(r:EnR K M E σ H)(JT:Gc Nat):EnR K M (UH JT E) (UH JT σ) H:=⟨by simp[UH],λj d e=>by
 obtain⟨i,h1,h2⟩:=Uh e
 obtain⟨v,h3,h4⟩:=r.val i d h2
 exact⟨v,b9 h1 h3,h4⟩⟩
theorem kS{X:Cx}{pins:Gc (uF×Obj)}{σ:Sg}{H H':Hp}{s s':uE}{x:Str}{P f:uF}{params:zH}{body:uh}{sc:vn}{N':Gc Str}{JT:Gc Nat}(LS:Ko X.N X.env.scope N' JT sc)(M:Tj X pins σ H s x P params body sc (HW X.env.cells sc.names []) f H' s')(hp:∀pm c' ctv,bindArgs (yi "<lambda>" (PH x) params body sc (HW X.env.cells sc.names []) pm (.ref c') ctv) ⟨[],[]⟩=pure []):PN H' s'.heap x body sc (HW X.env.cells sc.names []) N' (UH JT σ) f:=by
 have I:=M.inv
 have hcl:∀y∈sc.names,y.2=.free->∃a,X.env.cells.lookup y.1=Fk a:=λy hy hf=>I.ok.has y.1 (.inl (LS.free y hy hf))
 have sub:∀{y:Str} {c:uF},(HW X.env.cells sc.names []).lookup y=Fk c->X.env.cells.lookup y=Fk c:=λ{y c} h=>by
  rcases Lk hcl h with z|z
  .cases z
  .exact z
 obtain⟨pm,c',ctv,o,h1,h2,h3⟩:=M.fn
 refine⟨⟨params,pm,c',ctv,_,o,h1,rfl,h2,h3,hp pm c' ctv⟩,M.none,λy c e=>⟨I.cell y c (sub e),I.L6 y c (sub e)⟩,λy z c e1 e2=>I.ok.inj y z c (sub e1) (sub e2),λy h=>?_,λj y v e1 e2 e3=>?_,by simp[UH,LS.len],LS.kind,LS.co,LS.gen,LS.Px⟩
 .rcases h with h|h
  .exact absurd rfl (LS.Px _ (vN h))
  .exact Ip (.inl (vN h))
 .obtain⟨i,q1,q2⟩:=Uh e2
  have hz:(y,i)∈N'.zip JT:=xF.mpr ⟨j,by rw[yE];exact⟨e1,q1⟩⟩
  obtain⟨p1,p2,p3⟩:=LS.JT _ hz
  refine⟨p3,?_⟩
  obtain⟨m,_,hl⟩:=I.loc
  obtain⟨u,ru,lk⟩:=hl i y v p1 q2 (.inr (.inl p2))
  rcases lk with⟨k,_⟩|⟨_,c,ec,ic⟩
  .have:X.env.scope.names.lookup y=Fk .local:=k
   rw[p2]at this;cases this
  .obtain⟨c2,ec2⟩:=Ip (cells:=X.env.cells) (cs:=[]) (.inl (vN p3))
   have:=sub ec2
   rw[ec]at this;cases this
   exact⟨c,u,ec2,ic,ru⟩
theorem gv{X:Cx}{body:Gc vC}{h₀:wc}{hs:Gc wc}{tb:TS}{tr:TR}{g:Str->Ex}{pos:Pos}(hb:PSs X body tb)(hr:PXs X body tr)(hh:HS X (h₀::hs) g)(hxe:X.xe=λ_ _=>wk)(hx:X.ex=[])(hst:X.stack=X.env::X.outer)(hfr:X.env.frame=Fk X.env.locals):PS X (.Try body (h₀::hs) [] [] pos) (λD σ H=>tb D σ H\/∃x,tr σ H λC σ' H'=>X.mg x=Fk (.ref C)/\tX X.K (g x) D σ' H'):=by
 intro pins s σ H D I z
 rcases z with z|⟨x,z⟩
 .refine wpAny_Try_except (KD hxe (hb pins s σ H D I z) λf s1 w=>?_)
  cases f with
  |next=>exact yM w
  |ret u=>exact w
  |brk=>exact w
  |cont=>exact w
 .refine wpAny_Try_except (wB (hr pins s σ H _ I z) (λ_ _ z=>z.elim) λev s1 w=>?_)
  obtain⟨ea,C,σ',H',rfl,I',⟨hm,z'⟩,fly⟩:=w
  refine Q6 I' I'.ok.frames hst hfr fly (HG I' hx) λh' t=>?_
  have I2:=Wu I' hst hfr hx t
  exact wB (hh.pe x C hm pins _ σ' H' D ea I2 t.fly z') (λ_ _ z=>z) λ_ _ z=>z.elim
theorem kR{X:Cx}{pins:Gc (uF×Obj)}{σ:Sg}{H:Hp}{s:uE}{k:Nat}{f:uF}{fd:wV}{x:Str}{st:vC}{N ps:Gc Str}{us:Gc Wp}{vs:Gc V}{Q:VK}(Fu:Fun X.K x x st f fd)(S:AQ N ps (AH st))(Bi:Binds X.K fd ps [])(hr:Hu (k+1) X.A)(I:Inv X pins σ H s)(r:Vals vs us)(hl:vs.length=ps.length)(hbody:∀cdv,Hu k (X.A.deeper (vW x (AH st) s.heap.objs.size f cdv))->∃t,PSs (NR CX0 X.prog X.w X.K X.mg X.base N x (AH st) f cdv X.A X.stack s H E0).nox (DX st) t/\t {nx:=λ_ H'=>Q .non H',rt:=Q} (L2.start N vs) H):wpAny (model X.prog X.w) X.A (call (.ref f) us) (EP X pins σ Q) X.xe s:=by
 obtain⟨oc,od,kV,doc,pm,an,cdv,ct,osl,rfl,lk,hcd⟩:=Fu.ex
 have hl2:(us++[]).length=ps.length:=by rw[wJ,<-r.length];exact hl
 have hb:=Bi s us I.kIn hl2
 rw[wJ]at hb
 have lim:=I.nolimit
 have hkind:∀y∈ps.zip us,(AH st).names.lookup y.1=Fk .local\/((AH st).names.lookup y.1=Fk .cell/\((cellsFrom (s.heap.objs.size+1) (AH st).names []).lookup y.1).isSome=true):=λ⟨n,v⟩ hy=>by
  rcases S.par n (vx hy).1 with q|q
  .exact .inl q
  .exact .inr ⟨q,yY _ _ _ (.inl q)⟩
 refine AAG (AAe hr.depth (I.kIn _ _ lk) rfl S.co S.gen rfl (ABL I.kIn hcd) (hb _ _ _ _ ?_))
 refine zO S.kind hkind λenv he s1 x1=>?_
 subst he
 refine⟨lim.keeps x1.toInCall.keep,codeAny_func ?_⟩
 obtain⟨t,ht,hq⟩:=hbody cdv (hr.deeper _)
 have J:Inv (NR CX0 X.prog X.w X.K X.mg X.base N x (AH st) f cdv X.A X.stack s H E0) [] (L2.start N vs) H s1:=Sk S hr.hd I.j4 hl r x1
 have J':Inv (NR CX0 X.prog X.w X.K X.mg X.base N x (AH st) f cdv X.A X.stack s H E0).nox [] (L2.start N vs) H s1:=J.WC _
 refine wB (ht [] s1 (L2.start N vs) H _ J' hq) (λfl s' hs=>?_) λe s' hs=>hs.elim
 have fin:∀{σ':Sg} {H':Hp} {v:V} {u:Wp},Inv (NR CX0 X.prog X.w X.K X.mg X.base N x (AH st) f cdv X.A X.stack s H E0).nox [] σ' H' s'->RelV v u->Q v H'->EP X pins σ Q u s':=
  λ{σ' H' v u} J rv q=>I.after ⟨v,H',J.os,J.bare,J.base,J.hok,rv,q⟩
 cases fl with
 |ret u=>
  obtain⟨v,σ',H',J,rv,q⟩:=hs
  exact fin J rv q
 |next=>
  obtain⟨σ',H',J,q⟩:=hs
  exact fin (v:=V.non) (u:=vo) J rfl q
 |brk=>
  obtain⟨_,_,_,q⟩:=hs
  exact wC q
 |cont=>
  obtain⟨_,_,_,q⟩:=hs
  exact wC q
noncomputable def Lp(x:Str):Cl->vE
 | .tab y=>y==x
 |_=>false
noncomputable def WB(x:Str)(JT:Gc Nat)(F:Ev)(R:Rx)(c0:D)(h:Str->Ex):Ev:=λE S=>
 if S.any (Lp x)=true then
  match F (UH JT E) S with
  |some q=>Fk (c0,q.2)
  |none=>(R (UH JT E) S).bind λq=>(h q.1 [uC] q.2.2).bind λz=>match z.1 with| .ret d=>Fk (d,z.2.2)| .nx=>uC
 else uC
theorem Qd{x:Str}:∀{S:Sto},S.any (Lp x)=true->∃n:Nat,S[n]?=Fk (Cl.tab x)
 | [],h=>by cases h
 |c::S,h=>by
  rw[w6,vf]at h
  rcases h with h|h
  .cases c with
   |tab y=>have e:y=x:=eq_of_beq h;exact⟨0,by rw[e];rfl⟩
   |lst ds=>cases h
   |dct ds=>cases h
  .obtain⟨n,e⟩:=Qd h
   exact⟨n+1,e⟩
noncomputable def Sw(p:Str)(np cp ep tp rp:Pos)(h₀:wc)(hs:Gc wc)(ret:uh):Gc vC:=
 [.Try [.Expr (.Call (.Name p np) [] [] cp) ep] (h₀::hs) [] [] tp,.Return (Fk ret) rp]
theorem Zj{X:Cx}{pins:Gc (uF×Obj)}{σ:Sg}{H:Hp}{s:uE}{k:Nat}{fg f:uF}{fd:wV}{g p x:Str}{st:vC}{body ret:uh}{sc:vn}{clos:Gc (Str×uF)}{N':Gc Str}{σc:Sg}{Q:VK}{np cp ep tp rp:Pos}{h₀:wc}{hs:Gc wc}{hd:Str->Ex}{F:Ev}{R:Rx}{c0:D}(I:Inv X pins σ H s)(Fu:Fun X.K g g st fg fd)(S:AQ [p] [p] (AH st))(Bi:Binds X.K fd [p] [])(hr:Hu (k+3) X.A)(L:PN H s.heap x body sc clos N' σc f)(eb:DX st=Sw p np cp ep tp rp h₀ hs ret)(hv:Vis (AH st) p)(hd1:(p==("__debug__":Str))=false)(hd2:(p==("__classdict__":Str))=false)(hb:∀(c':uF) (A:vF) (outer:Gc wF) (s:uE) (H:Hp),Hu k (A.deeper (wd (PH x) sc s.heap.objs.size f (.ref c') clos))->DE (Pm X.prog X.w X.K X.mg X.base N' x sc clos f c' A outer s H) body F)(hx:∀(c':uF) (A:vF) (outer:Gc wF) (s:uE) (H:Hp),Hu k (A.deeper (wd (PH x) sc s.heap.objs.size f (.ref c') clos))->RE (Pm X.prog X.w X.K X.mg X.base N' x sc clos f c' A outer s H) body R)(hh:∀(cdv:Wp) (A:vF) (outer:Gc wF) (s:uE) (H:Hp),HS (NR CX0 X.prog X.w X.K X.mg X.base [p] g (AH st) fg cdv A outer s H E0).nox (h₀::hs) hd)(hret:∀(cdv:Wp) (A:vF) (outer:Gc wF) (s:uE) (H:Hp),DE (NR CX0 X.prog X.w X.K X.mg X.base [p] g (AH st) fg cdv A outer s H E0).nox ret (eC c0))(h:∃M E S,EnR X.K M E σc H/\StR X.K M S H/\((∃d S',F E S=Fk (d,S')/\∀v H' M',Gr M H M' H'->StR X.K M' S' H'->EJ X.K M' H' v c0->Q v H')\/∃y E' S' d E2 S2,R E S=Fk (y,E',S')/\hd y [uC] S'=Fk (.ret d,E2,S2)/\∀v H' M',Gr M H M' H'->StR X.K M' S2 H'->EJ X.K M' H' v d->Q v H')):wpAny (model X.prog X.w) X.A (call (.ref fg) [.ref f]) (EP X pins σ Q) X.xe s:=by
 refine kR (k:=k+2) (vs:=[.ref f]) Fu S Bi hr I (.cons rfl .nil) rfl λcdv hrg=>?_
 have hrl:Hu (k+1) (X.A.deeper (vW g (AH st) s.heap.objs.size fg cdv)):=hrg.mono (by lia)
 let Xg:=(NR CX0 X.prog X.w X.K X.mg X.base [p] g (AH st) fg cdv X.A X.stack s H E0).nox
 have p1:=ZE (X:=Xg) (t:=tD X.K F) (i:=0) (y:=p) (p:=np) (pos:=cp) hrl rfl L (λc' s H z=>(hb c' Xg.A Xg.stack s H z).pe) rfl hv hd1 hd2
 have p2:=ZW (X:=Xg) (t:=tR X.K X.mg R) (i:=0) (y:=p) (p:=np) (pos:=cp) hrl rfl L (λc' s H z=>(hx c' Xg.A Xg.stack s H z).pe) rfl hv rfl hd1 hd2
 have q1:PSs Xg [.Expr (.Call (.Name p np) [] [] cp) ep] _:=Tv (YF p1 rfl)
 have q0:PX Xg (.Expr (.Call (.Name p np) [] [] cp) ep) (λσ H Z=>σ[0]?=Fk (Fk (.ref f))/\tR X.K X.mg R σc H λC _ H'=>Z C σ H'):=λpins s σ H Z I q=>AAk (wB (p2 pins s σ H Z I q) (λ_ _ z=>z) λ_ _ z=>z) I.quiet rfl
 have q2:PXs Xg [.Expr (.Call (.Name p np) [] [] cp) ep] (λσ H Z=>σ[0]?=Fk (Fk (.ref f))/\tR X.K X.mg R σc H λC _ H'=>Z C σ H'):=λpins s σ H Z I q=>
  xV (wB (q0 pins s σ H Z I q) (λ_ _ z=>wC z) λ_ _ z=>z)
 have q3:=U3 (gv (pos:=tp) q1 q2 (hh cdv X.A X.stack s H) rfl rfl rfl rfl) (Tv (AR (pos:=rp) (hret cdv X.A X.stack s H)).pe)
 refine⟨_,by rw[eb];exact q3,?_⟩
 obtain⟨M,E,S0,r,sr,w⟩:=h
 rcases w with⟨d,S',e,q⟩|⟨y,E',S',d,E2,S2,e,e2,q⟩
 .refine .inl ⟨rfl,M,E,S0,d,S',e,r,sr,λv H' M' gr st' rd=>?_⟩
  refine⟨M',[uC],S',.ret c0,[uC],S',rfl,⟨rfl,λi d e=>by match i,e with|0,e=>cases e⟩,st',λv2 H2 M2 g2 st2 r2=>?_⟩
  exact q v2 H2 M2 (gr.trans g2) st2 r2
 .refine .inr ⟨y,rfl,M,E,S0,y,E',S',e,r,sr,λC σ' H' M' hm gr er st'=>⟨hm,?_⟩⟩
  refine⟨M',[uC],S',.ret d,E2,S2,e2,⟨rfl,λi d e=>by match i,e with|0,e=>cases e⟩,st',λv2 H2 M2 g2 st2 r2=>?_⟩
  exact q v2 H2 M2 (gr.trans g2) st2 r2
theorem kT{X:Cx}{pins:Gc (uF×Obj)}{σ:Sg}{H H':Hp}{s s':uE}{x:Str}{P f:uF}{params:zH}{body:uh}{sc:vn}{clos:Gc (Str×uF)}{M:Ms}{S:Sto}{n:Nat}(st:StR X.K M S H)(h1:M.cel[n]?=Fk P)(h2:S[n]?=Fk (Cl.tab x))(k:Tj X pins σ H s x P params body sc clos f H' s'):StR X.K M S H'/\Gr M H M H':=by
 have hP:P∈M.cel:=uY h1
 obtain⟨ps,t1,t2⟩:=k.tab
 have g:Gr M H M H':=⟨st.mo,vg,rfl,λ_ z=>.inl z,λa o e na=>k.keep a o e λz=>na (by rw[z];exact hP),λa e=>by
  by_cases z:a=P
  .subst z;rw[t1];intro z;cases z
  .cases q:H a with
   |none=>exact absurd q e
   |some o=>rw[k.keep a o q z];intro z;cases z⟩
 refine⟨⟨λb z=>?_,st.nd,st.nt,st.len,λm b c e1 e2=>?_⟩,g⟩
 .by_cases hb:b=P
  .subst hb;exact .inr (.inr ⟨ps,t1⟩)
  .exact(st.mo b z).imp (λ⟨xs,e⟩=>⟨xs,k.keep _ _ e hb⟩) (Or.imp (λ⟨xs,e⟩=>⟨xs,k.keep _ _ e hb⟩) λ⟨xs,e⟩=>⟨xs,k.keep _ _ e hb⟩)
 .by_cases hb:b=P
  .subst hb
   have hm:n=m:=(ye (uL.mp h1).1 st.nd).mp (h1.trans e1.symm)
   subst hm
   rw[h2]at e2;cases e2
   exact⟨ps,t1,t2⟩
  .have q:=st.cell m b c e1 e2
   cases c with
   |lst ds=>obtain⟨xs,e,rr⟩:=q;exact⟨xs,k.keep _ _ e hb,rr.step g.st⟩
   |dct ds=>obtain⟨xs,e,rr⟩:=q;exact⟨xs,k.keep _ _ e hb,rr.step g.st⟩
   |tab ds=>obtain⟨xs,e,rr⟩:=q;exact⟨xs,k.keep _ _ e hb,rr.step g.st⟩
def Xu(X:Cx)(x:Str):Prop:=∀P,TabAt X.K x P->X.K.In X.base->X.base.Ns mainGlobals X.mg->∃c,X.env.code=.ref c/\MS X.K c P
theorem WM{X:Cx}{k:Nat}{g p x:Str}{st:vC}{body ret:uh}{sc:vn}{params:zH}{N':Gc Str}{JT:Gc Nat}{gp pl pos np cp ep tp rp:Pos}{h₀:wc}{hs:Gc wc}{hd:Str->Ex}{F:Ev}{R:Rx}{c0:D}(G:St.Src X.K X.mg g st)(S:AQ [p] [p] (AH st))(LS:Ko X.N X.env.scope N' JT sc)(ci:Xu X x)(bm:BmB X.mg X.base)(hr:Hu (k+3) X.A)(hg:Gl X g)(hb:∀(f c':uF) (clos:Gc (Str×uF)) (A:vF) (outer:Gc wF) (s:uE) (H:Hp),Hu k (A.deeper (wd (PH x) sc s.heap.objs.size f (.ref c') clos))->DE (Pm X.prog X.w X.K X.mg X.base N' x sc clos f c' A outer s H) body F)(hx:∀(f c':uF) (clos:Gc (Str×uF)) (A:vF) (outer:Gc wF) (s:uE) (H:Hp),Hu k (A.deeper (wd (PH x) sc s.heap.objs.size f (.ref c') clos))->RE (Pm X.prog X.w X.K X.mg X.base N' x sc clos f c' A outer s H) body R)(hh:∀(fg:uF) (cdv:Wp) (A:vF) (outer:Gc wF) (s:uE) (H:Hp),HS (NR CX0 X.prog X.w X.K X.mg X.base [p] g (AH st) fg cdv A outer s H E0).nox (h₀::hs) hd)(hret:∀(fg:uF) (cdv:Wp) (A:vF) (outer:Gc wF) (s:uE) (H:Hp),DE (NR CX0 X.prog X.w X.K X.mg X.base [p] g (AH st) fg cdv A outer s H E0).nox ret (eC c0))(eb:DX st=Sw p np cp ep tp rp h₀ hs ret:=by rfl)(hv:Vis (AH st) p:=by first|exact Or.inl rfl|exact Or.inr (Or.inl rfl))(hqual:X.env.qual=x++(".<locals>.":Str):=by rfl)(hdf:defaultsOf params X.env=([],[]):=by rfl)(hp:∀clos pm c' ctv,bindArgs (yi "<lambda>" (PH x) params body sc clos pm (.ref c') ctv) ⟨[],[]⟩=pure []:=by intro _ _ _ _;rfl)(hbi:∀f fd,Fun X.K g g st f fd->Binds X.K fd [p] []:=by exact λf fd F=>F.binds λ_ _ _ _ _ _ us hl=>by obtain⟨_,rfl⟩:=Ut hl;rfl)(hdb:(g==("__debug__":Str))=false:=by decide)(hd1:(p==("__debug__":Str))=false:=by decide)(hd2:(p==("__classdict__":Str))=false:=by decide)(he:ue [Expr.Lambda params body sc pl] X.env=[(false,eval (.Lambda params body sc pl) X.env)]:=by rfl):DE X (.Call (.Name g gp) [.Lambda params body sc pl] [] pos) (WB x JT F R c0 hd):=⟨by
 intro pins s σ H Q I h
 obtain⟨M,E,S0,d,S',e,r,sr,q⟩:=h
 unfold WB at e
 split at e
 case isFalse=>cases e
 rename_i hany
 obtain⟨n,hn⟩:=Qd hany
 obtain⟨P,hc,ps,hP,tok⟩:=sr.at hn
 obtain⟨c,hcode,hcd⟩:=ci P tok.tat I.ok.mod.kin I.ok.mod.glob
 obtain⟨fg,fd,Fu,hm⟩:=G.ex
 have hcl:∀y∈sc.names,y.2=.free->∃a,X.env.cells.lookup y.1=Fk a:=λy hy hf=>I.ok.has y.1 (.inl (LS.free y hy hf))
 refine vt (N2 I hg hm ?_ hdb)
 refine zL (h₀:=X.base) I.ok.mod.kin Fu.kp ?_ he rfl
 rw[he]
 show wpAny _ _ (spliced ((false,eval (.Lambda params body sc pl) X.env)::backTo pos [])) _ _ s
 refine yX (Zi I hqual hdf (Q2 hcl) hcode hcd bm hP tok λf H' s1 mk=>?_)
 refine yn ⟨mk.inv.kIn,?_⟩
 obtain⟨sr1,g1⟩:=kT sr hc hn mk
 have L:=kS LS mk λpm c' ctv=>hp _ pm c' ctv
 refine Zj mk.inv Fu S (hbi _ _ Fu) hr L eb hv hd1 hd2 (λc'=>hb f c' _) (λc'=>hx f c' _) (hh fg) (hret fg) ⟨M,UH JT E,S0,(r.step g1.st).Pa JT,sr1,?_⟩
 split at e
 .rename_i w ew
  cases e
  exact .inl ⟨w.1,w.2,ew,λv H2 M2 g2 st2 rd=>q v H2 M2 (g1.trans g2) st2 rd⟩
 .obtain⟨⟨y,E',S1⟩,e1,e⟩:=BO e
  obtain⟨⟨fl,E2,S2⟩,e2,e⟩:=BO e
  cases fl with
  |nx=>cases e
  |ret w=>
   cases e
   exact .inr ⟨y,E',S1,_,E2,S2,e1,e2,λv H2 M2 g2 st2 rd=>q v H2 M2 (g1.trans g2) st2 rd⟩⟩
section
variable{P:ug}{w:vG}{K:KE}{mg:Str->uD Wp}{base:ux}
theorem fnL{x:Str}{st:vC}{f:uF}{fd:wV}{N ps:Gc Str}{k np:Nat}{b:Ex}(Fu:Fun K x x st f fd)(hm:mg x=Fk (.ref f))(S:AQ N ps (AH st))(hp:ps.length=np)(hb:∀{cdv:Wp} {A:vF} {outer:Gc wF} {s:uE} {H:Hp} {E:XK},Xu (NR CX0 P w K mg base N x (AH st) f cdv A outer s H E).nox x->Hu k (A.deeper (vW x (AH st) s.heap.objs.size f cdv))->(A.deeper (vW x (AH st) s.heap.objs.size f cdv)).units+100<cLine->DSs (NR CX0 P w K mg base N x (AH st) f cdv A outer s H E).nox (DX st) b):Up P w K mg base CX0 (k+1) f fd ps (spD K np (Ar (A3 N.length b))):=by
 rw[KP]
 obtain⟨oc,od,kV,doc,pm,an,cdv,ct,osl,rfl,lk,hcd⟩:=Fu.ex
 refine eS lk hcd S (λvs H Q E h=>?_) (λA outer s H vs Q E hr h=>?_)
 .obtain⟨M,ds,S0,d,S',hl,_,r,_⟩:=h
  have:=r.length
  lia
 .obtain⟨M,ds,S0,d,S',hl,e,r,st,q⟩:=h
  have hlen:=r.length
  refine⟨_,(hb (cdv:=cdv) (A:=A) (outer:=outer) (s:=s) (H:=H) (E:=E) (λP0 ta kin glob=>?_) hr (LL hr)).pe.nox,?_⟩
  .obtain⟨f0,oc0,od0,fd0,osl0,c,t1,t2,t3,t4⟩:=ta
   have:=yL kin glob t1
   have e0:Fk (va f0)=Fk (va f):=this.symm.trans hm
   cases e0
   have t2':K.lookup f=_:=t2
   rw[lk]at t2'
   cases t2'
   exact⟨c,t3,t4⟩
  obtain⟨⟨fl,E',S1⟩,e1,e⟩:=MZ e
  cases e
  refine⟨M,_,S0,fl,E',S1,e1,?_,st,?_⟩
  .rw[show L2.start N vs=vs.map Fk++uc (N.length-ds.length) uC from by unfold L2.start;rw[hlen]]
   exact .args r _
  .cases fl with
   |nx=>exact λσ' H' M' g _ st'=>q _ _ M' g st' .non
   |ret d=>exact λv H' M' g st' r'=>q _ _ M' g st' r'
theorem dfL {x : Str} {st : vC} {N ps : Gc Str} (k : Nat) {np : Nat} {b : Ex} (S : St.Src K mg x st) (sc : AQ N ps (AH st)) (hb : ∀ {f : uF} {cdv : Wp} {A : vF} {outer : Gc wF} {s : uE} {H : Hp} {E : XK}, Xu (NR CX0 P w K mg base N x (AH st) f cdv A outer s H E).nox x -> Hu k (A.deeper (vW x (AH st) s.heap.objs.size f cdv)) -> (A.deeper (vW x (AH st) s.heap.objs.size f cdv)).units + 100 < cLine -> DSs (NR CX0 P w K mg base N x (AH st) f cdv A outer s H E).nox (DX st) b) (hp : ps.length = np := by rfl) (hbi : ∀ f fd, Fun K x x st f fd -> Binds K fd ps [] := by
      first
      | exact fun f fd F => F.binds fun _ _ _ _ _ _ us hl => by obtain ⟨_, rfl⟩ := Ut hl; rfl
      | exact fun f fd F => F.binds fun _ _ _ _ _ _ us hl => by obtain ⟨_, _, rfl⟩ := dB hl; rfl
      | exact fun f fd F => F.binds fun _ _ _ _ _ _ us hl => by obtain ⟨_, _, _, rfl⟩ := md hl; rfl
      | exact fun f fd F => F.binds fun _ _ _ _ _ _ us hl => by obtain ⟨_, _, _, _, rfl⟩ := qq hl; rfl
      | exact fun f fd F => F.binds fun _ _ _ _ _ _ us hl => by obtain ⟨_, _, _, _, _, rfl⟩ := qG hl; rfl) :
    St.Dfn P w K mg base x (k + 1) ps (spD K np (Ar (A3 N.length b))) := by
  obtain ⟨f, fd, Fu, hm⟩ := S.ex
  exact ⟨f, fd, hm, Fu.kp, hbi f fd Fu, fnL Fu hm sc hp fun ci hr hu => hb ci hr hu⟩
end
end Mi
end
noncomputable section
namespace Mi
open PySem PySem.Spec L2 PyProof.Rows
theorem TV{K:KE}{h:ux}{c P:uF}(k:MS K c P)(X:K.In h):isCodeTable h P:=by
 obtain⟨o,vs,file,tf,flags,tg,inF,text,tt,h0,h1,h2,h3,_⟩:=k
 exact⟨c,o,vs,X _ _ h0,h1,h2,h3⟩
noncomputable def V8(T:Gc (Str×uF)):Sto:=T.map λz=>Cl.tab z.1
theorem WT{P:ug}{w:vG}{K:KE}{mg mb:Str->uD Wp}{k:Nat}{fa a:uF}{fd:wV}{x:Str}{Fn0:Fn}{s₁:uE}{vs:Gc Wp}{ns:Gc Int}{T:Gc (Str×uF)}(KX:K.In s₁.heap)(hns:s₁.heap.Ns mainGlobals mg)(hb:s₁.heap.Ns builtinsNs mb)(hbb:∀x:Str,x≠ "__name__"->mb x=bootBuiltins x)(hlim:s₁.heap.NoLimit)(hg:s₁.gens= #[])(ha:s₁.heap.get? a=Fk {cls:=.type "list",data:=.seq vs.toArray})(hi:yJ vs ns)(hl:ns.length<=sizeLine)(hr:Hu k callerA)(hT:∀z∈T,TabAt K z.1 z.2/\K.lookup z.2=uC/\s₁.heap.get? z.2=Fk (yh #[]))(nd:(T.map (·.2)).Nodup)(bmn:∃bm ob,mg "__builtins__"=Fk (.ref bm)/\bm≠builtinsNs/\s₁.heap.get? bm=Fk ob/\ob.cls=.type "module" /\ob.dict=Fk builtinsNs/\ob.data=.plain)(F:∀base:ux,K.In base->base.Ns mainGlobals mg->BmB mg base->Up P w K mg base CX0 k fa fd [x] (spD K 1 Fn0))(hbind:∀(s:uE) (u:Wp),BindsTo s fd ⟨[u],[]⟩ [(x,u)])(hlaw:∃S,Fn0 [.scr ns] (V8 T)=Fk (.bl true,S)):codeAny (model P w) callerA (.call (.ref fa) ⟨[.ref a],[]⟩) (λr s'=>r=.ok (.ret (.bool true))/\OldK s₁.heap s'.heap/\s'.os=s₁.os/\yR s'.gens) s₁:=by
 have rv:=RZ hi
 have lenV:=hi.length
 have aT:∀z∈T,z.2≠a:=λz hz e=>by
  have:=(hT z hz).2.2
  rw[e,ha]at this;cases this
 have core:∀H:Hp,SqL K H a (ns.map V.int)->HOk P w H s₁.heap->(∀b,H b≠uC->b=a\/∃z∈T,z.2=b)->(∀b,H b≠uC->K.lookup b=uC)->(∀z∈T,H z.2=Fk (.tbl #[]))->(H a=uC\/∃o xs,H a=Fk (.frz o (.lst xs)))->
   codeAny (model P w) callerA (.call (.ref fa) ⟨[.ref a],[]⟩) (λr s'=>r=.ok (.ret (.bool true))/\OldK s₁.heap s'.heap/\s'.os=s₁.os/\yR s'.gens) s₁:=by
  intro H hS hok hA hK hTb hF
  have base_of:∀{b:uF} {o:Obj},s₁.heap.get? b=Fk o->H b=uC->(Yx s₁.heap H).get? b=Fk o:=λe n=>ay e n
  have noA:∀{b:uF} {o:Obj},s₁.heap.get? b=Fk o->(∀x n,o.data≠.seq x n)->(∀x,o.data≠.fields x)->H b=none:=λ{b o} e d1 d2=>by
   cases q:H b with
   |none=>rfl
   |some u=>
    rcases hA b (by rw[q];simp)with z|⟨z,hz,z2⟩
    .subst z
     rw[ha]at e;cases e
     exact absurd rfl (d1 _ _)
    .subst z2
     rw[(hT z hz).2.2]at e;cases e
     exact absurd rfl (d2 _)
  have nsK:∀{b:uF} {m:Str->uD Wp},s₁.heap.Ns b m->(Yx s₁.heap H).Ns b m:=λ{b m} ⟨o,es,ep,e,d,r⟩=>⟨o,es,ep,base_of e (noA e (λ_ _ z=>by rw[d]at z;cases z) λ_ z=>by rw[d]at z;cases z),d,r⟩
  have hKb:K.In (Yx s₁.heap H):=λb o e=>base_of (KX b o e) (by
   cases q:H b with
   |none=>rfl
   |some u=>rw[hK b (by rw[q];simp)]at e;cases e)
  have hM:Mod K mg (Yx s₁.heap H):=⟨hKb,nsK hns,⟨mb,nsK hb,hbb⟩,let⟨mc,h1,h2⟩:=hlim;⟨mc,nsK h1,h2⟩⟩
  have e0:jc P w K mg (Yx s₁.heap H) callerA [] s₁ H:=⟨rfl,hM,λb o e=>dZ e,Nat.le_of_eq (W2 _ _),trivial,λb hb=>absurd (show b∈([]:Gc uF)from hb) (by simp),hok,.of_eq hg⟩
  have hbm:BmB mg (Yx s₁.heap H):=by
   obtain⟨bm,ob,m1,m2,m3,m4,m5,m6⟩:=bmn
   refine⟨bm,ob,m1,m2,λz=>?_,base_of m3 (noA m3 (λ_ _ z=>by rw[m6]at z;cases z) λ_ z=>by rw[m6]at z;cases z),m4,m5,m6⟩
   obtain⟨o,es,ep,e,d,_⟩:=hns
   rw[z,e]at m3;cases m3
   rw[d]at m6;cases m6
  obtain⟨S',hS'⟩:=hlaw
  have nm:¬Ms.mem ⟨T.map (·.2),[]⟩ a:=λz=>by
   rcases z with z|z
   .obtain⟨q,hq,e⟩:=uk.mp z
    exact aT q hq e
   .cases z
  have st:StR K ⟨T.map (·.2),[]⟩ (V8 T) H:=by
   refine⟨λb z=>?_,nd,λb z=>(nomatch z),by simp[V8],λn b c e1 e2=>?_⟩
   .rcases z with z|z
    .obtain⟨q,hq,e⟩:=uk.mp z
     subst e
     exact .inr (.inr ⟨_,hTb q hq⟩)
    .cases z
   .have e1':(T.map (·.2))[n]?=Fk b:=e1
    have e2':(T.map λz=>Cl.tab z.1)[n]?=Fk c:=e2
    rw[uQ]at e1' e2'
    cases q:T[n]? with
    |none=>rw[q]at e1';cases e1'
    |some z=>
     rw[q]at e1' e2'
     cases e1';cases e2'
     have hz:=uY q
     exact⟨#[],hTb z hz,trivial,(hT z hz).1,λpos cv e=>by rw[yB]at e;cases e⟩
  refine AAH ((F _ hKb (nsK hns) hbm).run callerA [] s₁ H ⟨[.ref a],[]⟩ [.ref a] [.ref a] (λv _=>v=.bl true) (λ_ _ _=>wk) hr e0 (hbind s₁ (.ref a)) (.cons rfl .nil) ⟨⟨T.map (·.2),[]⟩,[.scr ns],V8 T,_,S',rfl,hS',.cons (.scr ?_) .nil,st,λv H' M' g st' r'=>by cases r';rfl⟩) λr s' h=>?_
  .rcases hS with z|z
   .exact .inl ⟨z,nm⟩
   .exact .inr z
  cases r with
  |error e=>exact wC h
  |ok fl=>
   cases fl with
   |next=>exact wC h
   |brk=>exact wC h
   |cont=>exact wC h
   |ret u=>
    obtain⟨v,H',os,bare,un,hok',r',q⟩:=h
    have q':v=.bl true:=q
    subst q'
    obtain rfl:u=AAD true:=r'
    refine⟨rfl,⟨λb o e=>?_,λb o e=>un.there b o e (by simp)⟩,os,bare⟩
    cases q:H b with
    |none=>exact .inl (un.keep b o e q (by intro z;exact absurd (show b∈([]:Gc uF)from z) (by simp)) (by simp))
    |some u=>
     rcases hA b (by rw[q];simp)with z|⟨z,hz,z2⟩
     .subst z
      rcases hF with z|⟨ob,xs,z⟩
      .rw[q]at z;cases z
      .have z2:=un.X9 b ob _ z
       obtain⟨e1,_⟩:=hok b _ z
       obtain⟨e2,_⟩:=hok' b _ z2
       rw[e]at e1;cases e1
       exact .inl e2
     .subst z2
      obtain⟨t1,t2,t3⟩:=hT z hz
      rw[t3]at e;cases e
      obtain⟨more,em⟩:=un.Yr _ _ (hTb z hz)
      have e2:s'.heap.get? z.2=Fk (yh (#[]++more)):=hok' _ _ em
      obtain⟨_,_,_,_,_,c,_,_,_,hc⟩:=t1
      exact .inr (.inl ⟨TV hc KX,rfl, #[],more,rfl,e2⟩)
 cases hk:K.lookup a with
 |some o=>
  have e:=KX a o hk
  rw[ha]at e
  cases e
  refine core (λb=>if∃z∈T,z.2=b then Fk (.tbl #[])else uC) (.inr ⟨_,vs.toArray,_,hk,rfl,rfl,rfl,by rw[uV,lenV];exact hl,by simpa using rv⟩) (λb u z=>?_) (λb z=>?_) (λb z=>?_) (λz hz=>vD ⟨z,hz,rfl⟩) (.inl (vH λ⟨z,hz,e⟩=>aT z hz e))
  .by_cases hb:∃z∈T,z.2=b
   .have z':=(vD hb).symm.trans z
    cases z'
    obtain⟨y,hy,rfl⟩:=hb
    exact(hT y hy).2.2
   .have z':=(vH hb).symm.trans z
    cases z'
  .by_cases hb:∃z∈T,z.2=b
   .exact .inr hb
   .exact absurd (vH hb) z
  .by_cases hb:∃z∈T,z.2=b
   .obtain⟨y,hy,rfl⟩:=hb;exact(hT y hy).2.1
   .exact absurd (vH hb) z
 |none=>
  refine core (λb=>if b=a then Fk (.frz {cls:=.type "list",data:=.seq vs.toArray} (.lst (ns.map V.int)))else if∃z∈T,z.2=b then Fk (.tbl #[])else uC) (.inl (.inr ⟨{cls:=.type "list",data:=.seq vs.toArray},vD rfl⟩)) (λb u z=>?_) (λb z=>?_) (λb z=>?_) (λz hz=>(vH (aT z hz)).trans (vD ⟨z,hz,rfl⟩)) (.inr ⟨_,_,vD rfl⟩)
  .by_cases hb:b=a
   .have z':=(vD hb).symm.trans z
    cases z'
    subst hb
    exact⟨ha,by rw[vL];exact hl,vs,_,rv,ha⟩
   .have z':=(vH hb).symm.trans z
    by_cases hc:∃z∈T,z.2=b
    .have z'':=(vD hc).symm.trans z'
     cases z''
     obtain⟨y,hy,rfl⟩:=hc
     exact(hT y hy).2.2
    .have z'':=(vH hc).symm.trans z'
     cases z''
  .by_cases hb:b=a
   .exact .inl hb
   .by_cases hc:∃z∈T,z.2=b
    .exact .inr hc
    .exact absurd ((vH hb).trans (vH hc)) z
  .by_cases hb:b=a
   .rw[hb];exact hk
   .by_cases hc:∃z∈T,z.2=b
    .obtain⟨y,hy,rfl⟩:=hc;exact(hT y hy).2.1
    .exact absurd ((vH hb).trans (vH hc)) z
theorem ny{l:AAC}{q:ug}{loose:Gc Str}{XP:(Str->uD Wp)->ux->Prop}{YP:vG->ux->Prop}{d:DefRec}{K:Params->KE}{x:Str}{k:Nat}{Fn0:Fn}(T:Gc (Str×uF))(hn:l.most=Fk 63)(hdf:d.params.defaults=[])(hr:Hu k callerA)(hY:∀(w:vG) (h:ux),YP w h->(K w.params).In h/\∀z∈T,h.get? z.2=Fk (yh #[]))(nd:(T.map (·.2)).Nodup)(F:∀(w:vG) (mg:Str->uD Wp) (fa:uF) (h:ux),(K w.params).In h->h.Ns mainGlobals mg->mg d.name=Fk (.ref fa)->(∀z∈T,TabAt (K w.params) z.1 z.2/\(K w.params).lookup z.2=uC)/\∃fd:wV,(∀(s:uE) (u:Wp),BindsTo s fd ⟨[u],[]⟩ [(x,u)])/\∀base:ux,(K w.params).In base->base.Ns mainGlobals mg->BmB mg base->Up l.prog w (K w.params) mg base CX0 k fa fd [x] (spD (K w.params) 1 Fn0))(hlaw:∀ns:Gc Int,ns.length<=63->∃S,Fn0 [.scr ns] (V8 T)=Fk (.bl true,S)):PySem.W.WalkO q loose XP YP l.row.toRowW d [] (λf vs=>PySem.call f vs):=by
 refine Att.attach_call hn hdf λw s₀ s₁ mg mb fa o pm cd doc a vs ns G Y ho hd hcd hmg hobj hints hlen hg=>?_
 obtain⟨KX,Y2⟩:=hY w _ Y
 obtain⟨hT,fd,hb,hF⟩:=F w mg fa _ KX G.T.g hmg
 exact WT KX G.T.g G.T.b G.T.builtins G.T.nolimit hg hobj hints (uO hlen (by decide)) hr (λz hz=>⟨(hT z hz).1,(hT z hz).2,Y2 z hz⟩) nd G.T.bmain hF hb (hlaw ns hlen)
end Mi
end
noncomputable section
namespace Mi
open PySem PySem.Spec L2
noncomputable def laE:Nat->uh->Gc vn
 |0,_=>[]
 |n+1,.Lambda _ _ s _=>[s]
 |n+1,.BoolOp _ vs _=>vs.flatMap (laE n)
 |n+1,.Call f as _ _=>laE n f++as.flatMap (laE n)
 |n+1,.UnaryOp _ a _=>laE n a
 |n+1,.Compare a _ cs _=>laE n a++cs.flatMap (laE n)
 |n+1,.Tuple es _ _=>es.flatMap (laE n)
 |n+1,.List es _=>es.flatMap (laE n)
 |_,_=>[]
noncomputable def laS:Nat->vC->Gc vn
 |0,_=>[]
 |n+1,.Return (Fk e) _=>laE 30 e
 |n+1,.Assign ts e _=>laE 30 e
 |n+1,.Expr e _=>laE 30 e
 |n+1,.If t a b _=>laE 30 t++a.flatMap (laS n)++b.flatMap (laS n)
 |n+1,.For _ it a b _=>laE 30 it++a.flatMap (laS n)++b.flatMap (laS n)
 |n+1,.While t a b _=>laE 30 t++a.flatMap (laS n)++b.flatMap (laS n)
 |_,_=>[]
noncomputable def mz(st:vC)(k:Nat):vn:=((DX st).flatMap (laS 20)).getD k (AH st)
theorem lsM{N:Gc Str}{osc:vn}{N':Gc Str}{JT:Gc Nat}{sc:vn}(a:sc.kind=.function:=by rfl)(b:sc.isCoroutine=false:=by rfl)(c:sc.isGenerator=false:=by rfl)(d:∀y∈sc.names,y.2≠.cell:=by decide+kernel)(e:∀y∈sc.names,y.2=.free->osc.names.lookup y.1=Fk .cell:=by decide+kernel)(f:JT.length=N'.length:=by rfl)(g:∀z∈N'.zip JT,N[z.2]?=Fk z.1/\osc.names.lookup z.1=Fk .cell/\sc.names.lookup z.1=Fk .free:=by decide+kernel):Ko N osc N' JT sc:=⟨a,b,c,d,e,f,g⟩
section
open PyProof.Rows (boot_isinstance boot_int boot_bool boot_tuple boot_str boot_list boot_abs boot_all boot_any boot_sum boot_max boot_min boot_range boot_enumerate boot_zip boot_sorted boot_set boot_divmod)
noncomputable def GY:D:=.tup [.int 0,.int 1]
noncomputable def Xt:D:=.tup [.int 1,.int 1]
noncomputable def EZ:D:=.tup [.str "bring",.str "pool",.str "swap",.str "trade"]
def GQ:Ex:=(BI (Hs (eOp (o2 K5) [eV 0,eC (.ty "int")]) (Tg (eOp (o2 K5) [eV 0,eC (.ty "bool")]))))
def Ck:Fn:=Ar (A3 1 GQ)
def JY:Ex:=(BI (Hs (AJ Ck [eV 0]) (eOp (o2 wGe) [eV 0,eV 1])))
def Fi:Fn:=Ar (A3 2 JY)
def FK:Ex:=(BI (Hs (AJ Fi [eV 0,eV 1]) (eOp (o2 wLe) [eV 0,eV 2])))
def DH:Fn:=Ar (A3 3 FK)
def Gx:Ex:=(Aa (TM 0 1 (eOp (o1 iC) [eV 0]) (eOp (o1 iC) [eV 1]))
    (Aa (TH (VZ 1) (eOp (o2 wNe) [eV 1,eI 0]) (TM 0 1 (eV 1) (eOp (o2 TN) [eV 0,eV 1])))
    (BI (eV 0))))
def Cs:Fn:=Ar (A3 2 Gx)
def QJ:Ex:=(Aa (BQ 2 (AJ Cs [eV 0,eV 1]))
    (BI (Cm [eOp (o2 Qk) [eV 0,eV 2],eOp (o2 Qk) [eV 1,eV 2]])))
def EA:Fn:=Ar (A3 3 QJ)
def Uk:Ex:=(BI (AJ EA [eOp (o2 CJ) [eOp (o2 CD) [eIx (eV 0) (eI 0),eIx (eV 1) (eI 1)],eOp (o2 CD) [eIx (eV 1) (eI 0),eIx (eV 0) (eI 1)]],eOp (o2 CD) [eIx (eV 0) (eI 1),eIx (eV 1) (eI 1)]]))
def Gz:Fn:=Ar (A3 2 Uk)
def VB:Ex:=(BI (AJ EA [eOp (o2 OG) [eOp (o2 CD) [eIx (eV 0) (eI 0),eIx (eV 1) (eI 1)],eOp (o2 CD) [eIx (eV 1) (eI 0),eIx (eV 0) (eI 1)]],eOp (o2 CD) [eIx (eV 0) (eI 1),eIx (eV 1) (eI 1)]]))
def Lm:Fn:=Ar (A3 2 VB)
def RW:Ex:=(BI (AJ EA [eOp (o2 CD) [eIx (eV 0) (eI 0),eIx (eV 1) (eI 0)],eOp (o2 CD) [eIx (eV 0) (eI 1),eIx (eV 1) (eI 1)]]))
def ES:Fn:=Ar (A3 2 RW)
def RV:Ex:=(Aa (BQ 4 (eOp (o2 CJ) [eOp (o2 CD) [eOp (o2 CD) [eIx (eV 0) (eI 0),eIx (eV 2) (eI 1)],eV 1],eOp (o2 CD) [eOp (o2 CD) [eIx (eV 2) (eI 0),eIx (eV 0) (eI 1)],eV 3]]))
    (BI (AJ EA [eV 4,eOp (o2 CD) [eOp (o2 CD) [eIx (eV 0) (eI 1),eIx (eV 2) (eI 1)],eOp (o2 CJ) [eV 1,eV 3]]])))
def J1:Fn:=Ar (A3 5 RV)
def K9:Ex:=(BI (Hs (eOp (o2 wLt) [eV 1,eOp (o1 Jq) [eV 0]]) (eOp (o2 wGe) [eIx (eIx (eV 0) (eV 1)) (eI 1),eV 2])))
def Cp:Fn:=Ar (A3 3 K9)
def Mu:Ex:=(BI (Hs (AJ Cp [eV 0,eV 1,eI 1]) (Hs (AJ Cp [eV 0,eV 2,eI 1]) (eOp (o2 wEq) [eIx (eIx (eV 0) (eV 1)) (eI 0),eIx (eIx (eV 0) (eV 2)) (eI 0)]))))
def H0:Fn:=Ar (A3 3 Mu)
def Mw:Ex:=(BI (Hs (AJ Cp [eV 0,eV 1,eV 2]) (eOp (o2 wNe) [eIx (eIx (eV 0) (eV 1)) (eI 0),eV 3])))
def GO:Fn:=Ar (A3 4 Mw)
def Ez:Ex:=(Aa (BQ 3 (eIx (eV 2) (eI 0)))
    (Aa (xIf (eOp (o2 wEq) [eV 3,eC (.str "pool")]) (BI (AJ H0 [eV 0,eIx (eV 2) (eI 1),eIx (eV 2) (eI 2)])) D5)
    (Aa (xIf (eOp (o2 wEq) [eV 3,eC (.str "swap")]) (BI (AJ GO [eV 0,eIx (eV 2) (eI 1),eIx (eV 2) (eI 2),eIx (eV 2) (eI 3)])) D5)
    (Aa (xIf (eOp (o2 wEq) [eV 3,eC (.str "trade")]) (Aa (BQ 4 (C9 [] 1 (Js (eV 1)) (tNm 0) (eOp (o2 wEq) [eIx (eV 0) (eI 0),eC (.str "trade")]) (eIx (eV 0) (eI 1))))
    (BI (Hs (eOp (o2 (wIn true)) [eIx (eV 2) (eI 1),eV 4]) (AJ GO [eV 0,eIx (eV 2) (eI 2),eIx (eV 2) (eI 3),eIx (eV 2) (eI 4)])))) D5)
    (Aa (xIf (eOp (o2 (wIn false)) [eV 3,Cm [eC (.str "spoil"),eC (.str "throw")]]) (BI (AJ Cp [eV 0,eIx (eV 2) (eI 1),eIx (eV 2) (eI 2)])) D5)
    (BI (eC (.bl true))))))))
def C4:Fn:=Ar (A3 5 Ez)
def Jl:Ex:=(Aa (Qs (tTp [tNm 3,tNm 4]) (eIx (eV 0) (eV 1)))
    (BI (eOp (o2 CJ) [eOp (o2 CJ) [eOp (Kq false true) [eV 0,eV 1],Fh [Cm [eV 3,eOp (o2 OG) [eV 4,eV 2]]]],eOp (Kq true false) [eV 0,eOp (o2 CJ) [eV 1,eI 1]]])))
def B9:Fn:=Ar (A3 5 Jl)
def B2:Ex:=(Aa (BQ 2 (eIx (eV 1) (eI 0)))
    (Aa (xIf (eOp (o2 wEq) [eV 2,eC (.str "bring")]) (BI (eOp (o2 CJ) [eV 0,Fh [Cm [eIx (eV 1) (eI 2),eIx (eV 1) (eI 3)]]])) D5)
    (Aa (xIf (eOp (o2 wEq) [eV 2,eC (.str "pool")]) (Aa (Qs (tTp [tNm 3,tNm 4]) (eIx (eV 0) (eIx (eV 1) (eI 1))))
    (Aa (BQ 5 (eIx (eIx (eV 0) (eIx (eV 1) (eI 2))) (eI 1)))
    (BI (eOp (o2 CJ) [AJ B9 [AJ B9 [eV 0,eIx (eV 1) (eI 1),eV 4],eIx (eV 1) (eI 2),eV 5],Fh [Cm [eV 3,eOp (o2 CJ) [eV 4,eV 5]]]])))) D5)
    (Aa (xIf (eOp (o2 (wIn false)) [eV 2,Cm [eC (.str "swap"),eC (.str "trade")]]) (Aa (Qs (tTp [tNm 6,tNm 7,tNm 3,tNm 8]) (eOp (Kq true false) [eV 1,eOp (o1 Nk) [eI 4]]))
    (BI (eOp (o2 CJ) [AJ B9 [eV 0,eV 6,eV 7],Fh [Cm [eV 3,eV 8]]]))) D5)
    (Aa (xIf (eOp (o2 (wIn false)) [eV 2,Cm [eC (.str "spoil"),eC (.str "throw")]]) (BI (AJ B9 [eV 0,eIx (eV 1) (eI 1),eIx (eV 1) (eI 2)])) D5)
    (BI (eV 0)))))))
def Aq:Fn:=Ar (A3 9 B2)
def Ik:Ex:=(BI (C9 [] 1 (Js (eIx (eV 0) (eI 1))) (tNm 0) Cr (Cm [eIx (eV 0) (eI 0),eIx (eV 0) (eI 1)])))
def CK:Fn:=Ar (A3 1 Ik)
def FH:Ex:=(Aa (BQ 1 (eIx (eV 0) (eI 0)))
    (Aa (xIf (eOp (o2 wEq) [eV 1,eC (.str "pool")]) (BI (eOp (o1 RI) [Fh [eIx (eV 0) (eI 1),eIx (eV 0) (eI 2)]])) D5)
    (Aa (xIf (eOp (o2 (wIn false)) [eV 1,Cm [eC (.str "swap"),eC (.str "trade")]]) (BI (Fh [eIx (eV 0) (eOp (o1 Nk) [eI 4])])) D5)
    (BI (Fh [])))))
def Cc:Fn:=Ar (A3 2 FH)
def Jy:Ex:=(Aa (BQ 1 (AJ CK [eV 0]))
    (Aa (BQ 2 (eIx (eV 0) (eI 2)))
    (Aa (MH (YZ (eV 2)) (tTp [tNm 3,tNm 4]) (Aa (xIf (Tg (AJ C4 [eV 1,eOp (Kq false true) [eV 2,eV 3],eV 4])) (BI (eV 3)) D5)
    (BQ 1 (AJ Aq [eV 1,eV 4]))))
    (BI (eC .non)))))
def FQ:Fn:=Ar (A3 5 Jy)
def Iu:Ex:=(Aa (BQ 1 (AJ FQ [eV 0]))
    (xIf (eOp (o2 (ZV true)) [eV 1,eC .non]) TJ D5))
def Ay:Fn:=Ar (A3 2 Iu)
def LG:Ex:=(BI (eOp (o1 CS) [C9 [1] 1 (PM [eV 0]) (tNm 1) Cr (eIf (eOp (o2 wEq) [eV 1,eV 0]) (eC Xt) (eC GY))]))
def GA:Fn:=Ar (A3 2 LG)
def Jk:Ex:=(BI (eOp (o1 CS) [C9 [1,3] 2 (Yh (eV 0) (eV 2)) (tTp [tNm 2,tNm 3]) Cr (AJ J1 [eV 2,eV 0,eV 3,eV 1])]))
def DR:Fn:=Ar (A3 4 Jk)
def Dh:Ex:=(Aa (BQ 3 (AJ Cc [eV 2]))
    (Aa (xIf (eOp (o2 wEq) [eOp (o1 Jq) [eV 3],eI 1]) (BI (eIx (eV 1) (eIx (eV 3) (eI 0)))) D5)
    (Aa (Qs (tTp [tNm 4,tNm 5]) (eV 3))
    (BI (AJ DR [eIx (eV 1) (eV 4),eIx (eIx (eV 0) (eV 4)) (eI 1),eIx (eV 1) (eV 5),eIx (eIx (eV 0) (eV 5)) (eI 1)])))))
def Bj:Fn:=Ar (A3 6 Dh)
def Jg:Ex:=(BI (eOp (o2 CJ) [eOp (o1 aH) [C9 [2] 2 (Js (eV 1)) (tTp [tNm 1,tNm 2]) Cr (eOp (o2 CD) [eV 2,eIx (eV 0) (eV 1)])],eOp (o2 CD) [eIx (eV 0) (eI 2),eIx (eV 2) (eOp (o1 Nk) [eI 1])]]))
def EX:Fn:=Ar (A3 3 Jg)
def KY:Ex:=(Aa (Qs (tTp [tNm 3,tNm 4,tNm 5]) (eOp (Kq true false) [eV 2,eI 1]))
    (BI (AJ EA [eOp (o2 CD) [eV 4,eIx (eV 5) (eIx (eIx (eV 1) (eV 3)) (eI 0))],AJ EX [eV 0,eV 1,eV 5]])))
def Dy:Fn:=Ar (A3 6 KY)
def Im:Ex:=(Aa (Qs (tTp [tNm 5,tNm 6]) (AJ Dy [eV 0,eV 1,eV 3]))
    (BI (AJ DR [eV 4,eOp (o2 OG) [eV 6,eV 5],eIx (eV 2) (eIx (eV 3) (eI 1)),eV 5])))
def D6:Fn:=Ar (A3 7 Im)
def Jv:Ex:=(Aa (Qs (tTp [tNm 2,tNm 3,tNm 4]) (eOp (Kq true false) [eV 0,eI 1]))
    (Aa (BQ 5 (AJ ES [eIx (eV 1) (eV 2),eV 4]))
    (Aa (BQ 6 (gu (o1 L5) [eV 1]))
    (Aa (P2 (AJ Lm [eIx (eV 1) (eV 2),eV 5]) (eV 6) (eV 2))
    (Aa (P2 (AJ Gz [eIx (eV 1) (eV 3),eV 5]) (eV 6) (eV 3))
    (BI (eOp (o1 CS) [eV 6])))))))
def FZ:Fn:=Ar (A3 7 Jv)
def BY:Ex:=(Aa (xIf (eOp (o2 wEq) [eIx (eV 3) (eI 0),eC (.str "throw")]) (BI (AJ D6 [eV 0,eV 1,eV 2,eV 3,eV 4])) D5)
    (Aa (xIf (eOp (o2 wEq) [eIx (eV 3) (eI 0),eC (.str "sell")]) (BI (AJ FZ [eV 3,eV 4])) D5)
    (BI (eV 4))))
def Ao:Fn:=Ar (A3 5 BY)
def BX:Ex:=(Aa (BQ 4 (C9 [0,1,2,3] 1 (Js (eV 2)) (tNm 4) Cr (AJ Ao [eV 0,eV 1,eV 2,eV 3,eV 4])))
    (Aa (xIf (eOp (o2 wEq) [eIx (eV 3) (eI 0),eC (.str "bring")]) (BI (eOp (o2 CJ) [eV 4,Fh [AJ GA [eIx (eV 0) (eI 0),eIx (eV 3) (eI 1)]]])) D5)
    (Aa (xIf (eOp (o2 (wIn false)) [eIx (eV 3) (eI 0),eC EZ]) (BI (eOp (o2 CJ) [eV 4,Fh [AJ Bj [eV 1,eV 2,eV 3]]])) D5)
    (BI (eV 4)))))
def BA:Fn:=Ar (A3 5 BX)
def NO:Ex:=(Aa (Qs (tTp [tNm 2,tNm 3,tNm 4]) (eV 0))
    (Aa (BQ 5 (AJ CK [eV 0]))
    (Aa (BQ 6 (C9 [] 1 (Js (eV 3)) (tNm 0) Cr (eIx (eV 0) (eI 2))))
    (Aa (BQ 7 (eIx (eV 2) (eI 3)))
    (Aa (MH (Js (eOp (Kq false true) [eV 4,eV 1])) (tNm 8) (Aa (BQ 7 (AJ Ao [eV 2,eV 5,eV 6,eV 8,eV 7]))
    (Aa (BQ 6 (AJ BA [eV 2,eV 5,eV 6,eV 8]))
    (BQ 5 (AJ Aq [eV 5,eV 8])))))
    (BI (Cm [eV 5,eV 6,eV 7])))))))
def GS:Fn:=Ar (A3 9 NO)
def JI:Ex:=(Aa (xIf (eOp (o2 wLt) [eV 1,eOp (o1 Jq) [eV 0]]) (BI (eIx (eV 0) (eV 1))) D5)
    (BI (eI 0)))
def D7:Fn:=Ar (A3 2 JI)
def SG:Ex:=(BI (K1 [eV 0,eOp (o1 aX) [eOp (o2 wGe) [eV 0,eOp (o2 YM) [eI 10,eI 18]]],eI 0,eOp (o2 TN) [eV 0,eI 1000000007]]))
def Ju:Fn:=Ar (A3 1 SG)
def Kv:Ex:=(Aa (xIf (Hs (eOp (o2 wEq) [eIx (eV 0) (eI 1),eI 1]) (eOp (o2 wGt) [eIx (eV 0) (eI 0),eI 0])) (Aa (BQ 2 (eOp (o2 TN) [eIx (eV 0) (eI 0),eV 1]))
    (Aa (P2 (eOp (o2 Qk) [eIx (eV 0) (eI 0),eV 1]) (eV 0) (eI 0))
    (BI (eV 2)))) D5)
    (Aa (P2 (eOp (o2 CJ) [eIx (eV 0) (eI 2),eI 1]) (eV 0) (eI 2))
    (Aa (BQ 3 (eOp (o2 TN) [eOp (o2 CD) [eOp (o2 CJ) [eIx (eV 0) (eI 3),eI 17],eOp (o2 CJ) [eI 69621,eOp (o2 CD) [eI 2,eIx (eV 0) (eI 2)]]],eI 2147483647]))
    (Aa (BQ 3 (eOp (o2 TN) [eOp (o2 CJ) [eOp (o2 CJ) [eOp (o2 CD) [eV 3,eV 3],eOp (o2 CD) [eI 40503,eIx (eV 0) (eI 2)]],eI 5],eI 2147483629]))
    (BI (eOp (o2 TN) [eOp (o2 Qk) [eOp (o2 TN) [eOp (o2 CD) [eV 3,eI 48271],eI 2147483647],eI 32],eV 1]))))))
def AI:Fn:=Ar (A3 4 Kv)
def My:Ex:=(Aa (TH (VZ 1) (eOp (o2 wGt) [eV 1,eI 0]) (TM 0 1 (eV 1) (eOp (o2 TN) [eV 0,eV 1])))
    (BI (eV 0)))
def Hz:Fn:=Ar (A3 2 My)
def QN:Ex:=(Aa (BQ 2 (AJ Hz [eOp (o1 iC) [eV 0],eV 1]))
    (BI (Cm [eOp (o2 Qk) [eV 0,eV 2],eOp (o2 Qk) [eV 1,eV 2]])))
def CL:Fn:=Ar (A3 3 QN)
def P6:Ex:=(BI (AJ CL [eOp (o2 CJ) [eOp (o2 CD) [eIx (eV 0) (eI 0),eIx (eV 1) (eI 1)],eOp (o2 CD) [eIx (eV 1) (eI 0),eIx (eV 0) (eI 1)]],eOp (o2 CD) [eIx (eV 0) (eI 1),eIx (eV 1) (eI 1)]]))
def CO:Fn:=Ar (A3 2 P6)
def OW:Ex:=(BI (AJ CL [eOp (o2 CD) [eIx (eV 0) (eI 0),eIx (eV 1) (eI 0)],eOp (o2 CD) [eIx (eV 0) (eI 1),eIx (eV 1) (eI 1)]]))
def Ax:Fn:=Ar (A3 2 OW)
def P9:Ex:=(BI (AJ CO [eV 0,Cm [eOp (o2 OG) [eI 0,eIx (eV 1) (eI 0)],eIx (eV 1) (eI 1)]]))
def Et:Fn:=Ar (A3 2 P9)
def La:Ex:=(Aa (BQ 2 (cT [0] 1 (PM [eV 1]) (tNm 1) Cr (eIx (Fh [eI 0,eI 1,AJ AI [eV 0,eI 4],AJ AI [eV 0,eI 9]]) (AJ AI [eV 0,eI 4]))))
    (Aa (xIf (eOp (o2 wEq) [eOp (o1 aH) [eV 2],eI 0]) (P2 (eI 1) (eV 2) (AJ AI [eV 0,eV 1])) D5)
    (BI (eOp (o1 CS) [C9 [2] 1 (Js (eV 2)) (tNm 1) Cr (AJ CL [eV 1,eOp (o1 aH) [eV 0]])]))))
def Ep:Fn:=Ar (A3 3 La)
def Ki:Ex:=(Aa (BQ 1 (eOp (o2 CJ) [eOp (o2 YM) [eI 10,eI 30],AJ AI [eV 0,eI 99]]))
    (BI (eIx (Fh [eOp (o2 CJ) [eI 1,AJ AI [eV 0,eI 4]],eOp (o2 CJ) [eI 1,AJ AI [eV 0,eI 40]],eOp (o2 CJ) [eI 1,AJ AI [eV 0,eI 999]],eV 1]) (eOp (o2 Qk) [AJ AI [eV 0,eI 7],eI 2]))))
def BL:Fn:=Ar (A3 2 Ki)
def Oe:Ex:=(Aa (TM 1 2 (eOp (o2 CJ) [eI 1,AJ AI [eV 0,eI 4]]) (eOp (o2 CJ) [eI 1,AJ AI [eV 0,eI 5]]))
    (Aa (BQ 3 (eIx (Fh [eOp (o2 CJ) [eI 1,AJ AI [eV 0,eI 3]],eOp (o2 CJ) [eI 1,AJ AI [eV 0,eI 20]]]) (AJ AI [eV 0,eI 2])))
    (BI (Cm [eV 1,eV 2,eV 3,AJ Ep [eV 0,eV 1],AJ AI [eV 0,eI 10],AJ AI [eV 0,eI 10]]))))
def JN:Fn:=Ar (A3 4 Oe)
def O9:Ex:=(Aa (BQ 2 (K1 []))
    (Aa (MH (PM [eIx (Fh [eI 0,eI 1,AJ AI [eV 0,eI 5]]) (AJ AI [eV 0,eI 3])]) (tNm 3) (Bm (Le L9 (eV 2) [Cm [AJ AI [eV 0,eIx (eV 1) (eI 1)],AJ BL [eV 0],AJ Ep [eV 0,eIx (eV 1) (eI 0)]]])))
    (BI (eOp (o1 CS) [eV 2]))))
def JW:Fn:=Ar (A3 4 O9)
def O3:Ex:=(Aa (BQ 1 (eOp (o2 CJ) [eI 1,AJ AI [eV 0,eI 12]]))
    (BI (AJ CL [eOp (o2 CJ) [eI 1,AJ AI [eV 0,eV 1]],eV 1])))
def Hm:Fn:=Ar (A3 2 O3)
def Mx:Ex:=(BI (eOp (o1 CS) [C9 [0] 1 (PM [eV 1]) (tNm 1) Cr (eOp (o2 CJ) [eI 1,eIx (Fh [AJ AI [eV 0,eI 3],AJ AI [eV 0,eI 99]]) (AJ AI [eV 0,eI 2])])]))
def Cj:Fn:=Ar (A3 2 Mx)
def OB:Ex:=(BI (K1 [cT [] 1 (Js (eIx (eV 0) (eI 1))) (tNm 0) Cr (gu (o1 L5) [eV 0]),eOp (o1 CS) [eIx (eIx (eV 0) (eI 0)) (eI 3)],K1 []]))
def Dc:Fn:=Ar (A3 1 OB)
def NI:Ex:=(Aa (BQ 2 (K1 []))
    (Aa (MH (Yh (eIx (eV 0) (eI 2)) (eIx (eV 1) (eI 2))) (tTp [tNm 3,tNm 4]) (Aa (BQ 5 (AJ CO [AJ Ax [Cm [eIx (eV 0) (eI 1),eI 1],eV 3],AJ Ax [Cm [eIx (eV 1) (eI 1),eI 1],eV 4]]))
    (Bm (Le L9 (eV 2) [AJ Ax [eV 5,AJ CL [eI 1,eOp (o2 CJ) [eIx (eV 0) (eI 1),eIx (eV 1) (eI 1)]]]]))))
    (BI (eOp (o1 CS) [eV 2]))))
def II:Fn:=Ar (A3 6 NI)
def QL:Ex:=(Aa (BQ 3 (eIx (eV 2) (eI 3)))
    (Aa (BQ 4 (eOp (o2 CJ) [eOp (o1 aH) [C9 [3] 3 (Js (eV 1)) (tTp [tNm 1,tNm 2,tNm 3]) Cr (eOp (o2 CD) [eV 2,eIx (eV 0) (eV 1)])],eOp (o2 CD) [eIx (eV 0) (eI 2),eIx (eV 3) (eOp (o1 Nk) [eI 1])]]))
    (BI (AJ CL [eOp (o2 CD) [eIx (eV 2) (eI 2),eIx (eV 3) (eIx (eIx (eV 1) (eIx (eV 2) (eI 1))) (eI 0))],eV 4]))))
def Ks:Fn:=Ar (A3 5 QL)
def OI:Ex:=(Aa (BQ 3 (K1 []))
    (Aa (MH (Yh (eV 0) (eV 2)) (tTp [tNm 4,tNm 5]) (Bm (Le L9 (eV 3) [AJ CO [AJ Ax [eV 4,AJ Et [Cm [eI 1,eI 1],eV 1]],AJ Ax [eV 5,eV 1]]])))
    (BI (eOp (o1 CS) [eV 3]))))
def F0:Fn:=Ar (A3 6 OI)
def P1:Ex:=(Aa (BQ 2 (gu (o1 L5) [eV 0]))
    (Aa (BQ 3 (AJ Ax [eIx (eV 2) (eIx (eV 1) (eI 1)),eIx (eV 1) (eI 3)]))
    (Aa (P2 (AJ Et [eIx (eV 2) (eIx (eV 1) (eI 1)),eV 3]) (eV 2) (eIx (eV 1) (eI 1)))
    (Aa (P2 (AJ CO [eIx (eV 2) (eIx (eV 1) (eI 2)),eV 3]) (eV 2) (eIx (eV 1) (eI 2)))
    (BI (eOp (o1 CS) [eV 2]))))))
def HB:Fn:=Ar (A3 4 P1)
def Ml:Ex:=(Aa (Qs (tTp [tNm 3,tNm 4,tNm 5]) (eV 1))
    (xIf (eOp (o2 wEq) [eIx (eV 2) (eI 0),eC (.str "throw")]) (Aa (TM 6 7 (AJ Ks [eV 0,eV 3,eV 2]) (eIx (eIx (eV 3) (eIx (eV 2) (eI 1))) (eI 2)))
    (Aa (P2 (eOp (o2 OG) [eIx (eIx (eV 3) (eIx (eV 2) (eI 1))) (eI 1),eIx (eV 2) (eI 2)]) (eIx (eV 3) (eIx (eV 2) (eI 1))) (eI 1))
    (Aa (MH (Js (eV 3)) (tNm 8) (P2 (AJ F0 [eIx (eV 8) (eI 2),eV 6,eV 7]) (eV 8) (eI 2)))
    (P2 (AJ F0 [eV 4,eV 6,eV 7]) (eV 1) (eI 1))))) (Aa (MH (Js (eV 3)) (tNm 8) (P2 (AJ HB [eIx (eV 8) (eI 2),eV 2]) (eV 8) (eI 2)))
    (P2 (AJ HB [eV 4,eV 2]) (eV 1) (eI 1)))))
def HA:Fn:=Ar (A3 9 Ml)
def IE:Ex:=(Aa (Qs (tTp [tNm 3,tNm 4,tNm 5]) (eV 1))
    (Aa (BQ 6 (eIx (eV 2) (eI 0)))
    (xIf (eOp (o2 wEq) [eV 6,eC (.str "bring")]) (Bm (Le L9 (eV 3) [K1 [eIx (eV 2) (eI 2),eIx (eV 2) (eI 3),eOp (o1 CS) [C9 [2] 1 (PM [eIx (eV 0) (eI 0)]) (tNm 1) Cr (Cm [eOp (o1 aX) [eOp (o2 wEq) [eV 1,eIx (eV 0) (eI 1)]],eI 1])]]])) (xIf (eOp (o2 wEq) [eV 6,eC (.str "pool")]) (Aa (TM 7 8 (eIx (eV 3) (eIx (eV 2) (eI 1))) (eIx (eV 3) (eIx (eV 2) (eI 2))))
    (Aa (Bm (Le L9 (eV 3) [K1 [eIx (eV 7) (eI 0),eOp (o2 CJ) [eIx (eV 7) (eI 1),eIx (eV 8) (eI 1)],AJ II [eV 7,eV 8]]]))
    (Aa (P2 (eI 0) (eV 7) (eI 1))
    (P2 (eI 0) (eV 8) (eI 1))))) (xIf (eOp (o2 (wIn false)) [eV 6,Cm [eC (.str "swap"),eC (.str "trade")]]) (Aa (Qs (tTp [tNm 9,tNm 10,tNm 11,tNm 12]) (eOp (Kq true false) [eV 2,eOp (o1 Nk) [eI 4]]))
    (Aa (P2 (eOp (o2 OG) [eIx (eIx (eV 3) (eV 9)) (eI 1),eV 10]) (eIx (eV 3) (eV 9)) (eI 1))
    (Aa (Bm (Le L9 (eV 3) [K1 [eV 11,eV 12,eIx (eIx (eV 3) (eV 9)) (eI 2)]]))
    (Bm (Le lG (eV 5) [eOp (o2 CD) [eOp (Kq true true) [eV 2,eI 1,eI 2],eOp (o1 aX) [eOp (o2 wEq) [eV 6,eC (.str "trade")]]]]))))) (xIf (eOp (o2 wEq) [eV 6,eC (.str "spoil")]) (P2 (eOp (o2 OG) [eIx (eIx (eV 3) (eIx (eV 2) (eI 1))) (eI 1),eIx (eV 2) (eI 2)]) (eIx (eV 3) (eIx (eV 2) (eI 1))) (eI 1)) (Bm (AJ HA [eV 0,eV 1,eV 2]))))))))
def BH:Fn:=Ar (A3 13 IE)
def QI:Ex:=(Aa (Qs (tTp [tNm 3,tNm 4,tNm 5]) (eV 2))
    (Aa (BQ 6 (C9 [] 2 (YZ (eV 3)) (tTp [tNm 0,tNm 1]) (eOp (o2 wGt) [eIx (eV 1) (eI 1),eI 0]) (eV 0)))
    (Aa (BQ 7 (AJ AI [eV 0,eI 12]))
    (Aa (xIf (eOr (eOp (o2 wLt) [eV 7,eI 2]) (eOp (o2 wEq) [eV 6,Fh []])) (BI (Cm [eC (.str "bring"),AJ AI [eV 0,eIx (eV 1) (eI 0)],AJ AI [eV 0,eIx (eV 1) (eI 1)],AJ BL [eV 0]])) D5)
    (Aa (BQ 8 (eIx (eV 6) (AJ AI [eV 0,eOp (o1 Jq) [eV 6]])))
    (Aa (BQ 9 (eOp (o2 CJ) [eI 1,AJ AI [eV 0,eOp (o2 Z0) [eIx (eIx (eV 3) (eV 8)) (eI 1),eI 2000]]]))
    (Aa (xIf (eOp (o2 wLt) [eV 7,eI 5]) (Aa (BQ 10 (C9 [3,8] 1 (Js (eV 6)) (tNm 2) (Hs (eOp (o2 wNe) [eV 2,eV 1]) (eOp (o2 wEq) [eIx (eIx (eV 0) (eV 2)) (eI 0),eIx (eIx (eV 0) (eV 1)) (eI 0)])) (eV 2)))
    (xIf (eOp (o2 wNe) [eV 10,Fh []]) (BI (Cm [eC (.str "pool"),eV 8,eIx (eV 10) (AJ AI [eV 0,eOp (o1 Jq) [eV 10]])])) D5)) D5)
    (Aa (xIf (Hs (eOp (o2 wLt) [eV 7,eI 8]) (eOp (o2 wGt) [eIx (eV 1) (eI 1),eI 1])) (Aa (BQ 11 (eOp (o2 TN) [eOp (o2 CJ) [eOp (o2 CJ) [eIx (eIx (eV 3) (eV 8)) (eI 0),eI 1],AJ AI [eV 0,eOp (o2 OG) [eIx (eV 1) (eI 1),eI 1]]],eIx (eV 1) (eI 1)]))
    (Aa (BQ 12 (C9 [5] 1 (PM [eI 10]) (tNm 1) (eOp (o2 (wIn true)) [eV 1,eV 0]) (eV 1)))
    (Aa (xIf (Hs (eOp (o2 wEq) [eV 7,eI 7]) (eOp (o2 wNe) [eV 12,Fh []])) (BI (Cm [eC (.str "trade"),eIx (eV 12) (AJ AI [eV 0,eOp (o1 Jq) [eV 12]]),eV 8,eV 9,eV 11,AJ BL [eV 0]])) D5)
    (BI (Cm [eC (.str "swap"),eV 8,eV 9,eV 11,AJ BL [eV 0]]))))) D5)
    (Aa (xIf (eOp (o2 wEq) [eV 7,eI 8]) (BI (Cm [eC (.str "spoil"),eV 8,eV 9])) D5)
    (Aa (xIf (Hs (eOp (o2 wEq) [eV 7,eI 9]) (eOp (o2 wGt) [eIx (eV 1) (eI 0),eI 1])) (Aa (BQ 13 (AJ AI [eV 0,eIx (eV 1) (eI 0)]))
    (BI (Cm [eC (.str "sell"),eV 13,eOp (o2 TN) [eOp (o2 CJ) [eOp (o2 CJ) [eV 13,eI 1],AJ AI [eV 0,eOp (o2 OG) [eIx (eV 1) (eI 0),eI 1]]],eIx (eV 1) (eI 0)],AJ Hm [eV 0]]))) D5)
    (BI (Cm [eC (.str "throw"),eV 8,eV 9,AJ Cj [eV 0,eOp (o2 CJ) [eIx (eV 1) (eI 1),eI 1]]]))))))))))))
def Eu:Fn:=Ar (A3 14 QI)
def P8:Ex:=(Aa (BQ 2 (AJ JN [eV 0]))
    (Aa (BQ 3 (AJ JW [eV 0,eV 2]))
    (Aa (TM 4 5 (AJ Dc [Cm [eV 2,eV 3,Cm []]]) (K1 []))
    (Aa (MH (PM [AJ AI [eV 0,eOp (o2 CJ) [eV 1,eI 1]]]) (tNm 6) (Aa (BQ 7 (AJ Eu [eV 0,eV 2,eV 4]))
    (xIf (eOr (eOp (o2 wNe) [eIx (eV 7) (eI 0),eC (.str "throw")]) (eOp (o2 wLt) [eOp (o1 Jq) [C9 [] 1 (Js (eV 5)) (tNm 0) (eOp (o2 wEq) [eIx (eV 0) (eI 0),eC (.str "throw")]) (eV 0)],eI 3])) (Aa (Bm (AJ BH [eV 2,eV 4,eV 7]))
    (Bm (Le L9 (eV 5) [eV 7]))) D5)))
    (BI (Cm [eV 2,eV 3,eOp (o1 CS) [eV 5]]))))))
def Ih:Fn:=Ar (A3 8 P8)
def NT:Ex:=(Aa (BQ 1 (AJ Dc [eV 0]))
    (Aa (BQ 2 (K1 [Cm [C9 [] 1 (Js (eIx (eV 1) (eI 0))) (tNm 0) Cr (eOp (o1 CS) [eV 0]),eOp (o1 CS) [eIx (eV 1) (eI 1)]]]))
    (Aa (MH (Js (eIx (eV 0) (eI 2))) (tNm 3) (Aa (Bm (AJ BH [eIx (eV 0) (eI 0),eV 1,eV 3]))
    (Bm (Le L9 (eV 2) [Cm [C9 [] 1 (Js (eIx (eV 1) (eI 0))) (tNm 0) Cr (eOp (o1 CS) [eV 0]),eOp (o1 CS) [eIx (eV 1) (eI 1)]]]))))
    (BI (eV 2)))))
def GF:Fn:=Ar (A3 4 NT)
def Rg:Ex:=(Aa (BQ 1 (eC GY))
    (Aa (MH (Js (eV 0)) (tNm 2) (BQ 1 (AJ Gz [eV 1,eV 2])))
    (BI (eV 1))))
def L3:Fn:=Ar (A3 3 Rg)
def Jj:Ex:=(Aa (Qs (tTp [tNm 4,tNm 5,tNm 6]) (eV 1))
    (Aa (BQ 7 (C9 [2,3] 3 (Yh (eV 4) (eV 5)) (tTp [tTp [tNm 3,tNm 4],tNm 2]) Cr (AJ ES [Cm [eOp (o2 CD) [eV 4,eIx (eV 0) (eV 3)],eI 1],eIx (eV 2) (eV 1)])))
    (BI (AJ Gz [AJ L3 [eV 7],AJ ES [Cm [eOp (o2 CD) [eIx (eV 0) (eI 2),eIx (eV 2) (eOp (o1 Nk) [eI 1])],eI 1],eIx (eV 6) (eV 3)]]))))
def B8:Fn:=Ar (A3 8 Jj)
def Je:Ex:=(Aa (TM 2 3 (eIx (eV 0) (eI 0)) (eIx (eIx (eIx (eV 0) (eI 2)) (eV 1)) (eI 3)))
    (Aa (TM 4 5 (AJ GS [eV 0,eV 1]) (AJ GS [eV 0,eOp (o2 CJ) [eV 1,eI 1]]))
    (Aa (BQ 6 (K1 []))
    (Aa (MH (PM [eIx (eV 2) (eI 0)]) (tNm 7) (Bm (Le L9 (eV 6) [Cm [AJ B8 [eV 2,eV 4,eV 3,eV 7],AJ B8 [eV 2,eV 5,eV 3,eV 7]]])))
    (BI (eOp (o1 CS) [eV 6]))))))
def CZ:Fn:=Ar (A3 8 Je)
def ID:Ex:=(BI (AJ DH [eV 1,eI 0,eOp (o2 OG) [eOp (o1 Jq) [eIx (eV 0) (eI 2)],eI 1]]))
def E9:Fn:=Ar (A3 2 ID)
def Dq:Ex:=(BI (Hs (AJ E9 [eV 0,eV 2]) (eOp (o2 wEq) [eIx (eIx (eIx (eV 0) (eI 2)) (eV 2)) (eI 0),eV 1])))
def Bk:Fn:=Ar (A3 3 Dq)
def DF:Ex:=(xIf (Tg (AJ Bk [eV 0,eC (.str "throw"),eV 1])) TJ D5)
def Ag:Fn:=Ar (A3 2 DF)
def LI:Ex:=(Aa (Bm (AJ Ay [eV 0]))
    (Aa (Bm (AJ Ag [eV 0,eV 1]))
    (BI (AJ CZ [eV 0,eV 1]))))
def DN:Fn:=Ar (A3 2 LI)
def Hx(rec_p_is_same:Fn):Ex:=(BI (Hs (eOp (o2 wEq) [eOp (o1 Jq) [eV 0],eOp (o1 Jq) [eV 1]]) (eOp (o1 kD) [C9 [1] 2 (YZ (eV 0)) (tTp [tNm 1,tNm 2]) Cr (AJ rec_p_is_same [eV 2,eIx (eV 0) (eV 1)])])))
def Du(rec_p_are_same:Fn):Ex:=(Aa (xIf (eOp (o2 K5) [eV 1,eC (.ty "tuple")]) (BI (Hs (eOp (o2 K5) [eV 0,eC (.ty "tuple")]) (AJ rec_p_are_same [eV 0,eV 1]))) D5)
    (Aa (xIf (eOp (o2 K5) [eV 1,eC (.ty "list")]) (BI (Hs (eOp (o2 K5) [eV 0,eC (.ty "list")]) (AJ rec_p_are_same [eV 0,eV 1]))) D5)
    (Aa (xIf (eOp (o2 (ZV false)) [eV 1,eC .non]) (BI (eOp (o2 (ZV false)) [eV 0,eC .non])) D5)
    (BI (Hs (AJ Ck [eV 0]) (eOp (o2 wEq) [eV 0,eV 1]))))))
def au:Nat->Fn×Fn
 |0=>(λ_ _=>uC,λ_ _=>uC)
 |n+1=>(Ar (A3 2 (Hx (au n).2)),Ar (A3 2 (Du (au n).1)))
def Ec(n:Nat):Fn:=(au n).2
def F6:Ex:=(Aa (Bm (AJ Ay [eV 0]))
    (Aa (Bm (AJ Ag [eV 0,eV 1]))
    (BI (AJ (Ec 8) [eV 2,AJ CZ [eV 0,eV 1]]))))
def BC:Fn:=Ar (A3 3 F6)
def OH:Ex:=(Aa (BQ 2 (AJ CK [eV 0]))
    (Aa (MH (Js (eOp (Kq false true) [eIx (eV 0) (eI 2),eV 1])) (tNm 3) (BQ 2 (AJ Aq [eV 2,eV 3])))
    (BI (eV 2))))
def JR:Fn:=Ar (A3 4 OH)
def LK:Ex:=(Aa (Bm (AJ Ay [eV 0]))
    (Aa (Bm (AJ Ag [eV 0,eV 1]))
    (BI (AJ Dy [eIx (eV 0) (eI 0),AJ JR [eV 0,eV 1],eIx (eIx (eV 0) (eI 2)) (eV 1)]))))
def DM:Fn:=Ar (A3 2 LK)
def Eg:Rx:=(rIf (Tg (AJ Bk [eV 0,eC (.str "throw"),eV 1])) (U0 "NoThrow" [eC (.str "the book has no throw at this place")]) rNo)
def Ak:Rf:=Ar (V2 2 Eg)
def LY:Rx:=(WX rNo (Bm (AJ Ay [eV 0]))
    (WX (GW Ak [eV 0,eV 1]) (Bm (AJ Ag [eV 0,eV 1]))
    rNo))
def F8:Rf:=Ar (V2 2 LY)
def F7:Rx:=(WX rNo (Bm (AJ Ay [eV 0]))
    (WX (GW Ak [eV 0,eV 1]) (Bm (AJ Ag [eV 0,eV 1]))
    rNo))
def CN:Rf:=Ar (V2 3 F7)
def LN:Rx:=(WX rNo (Bm (AJ Ay [eV 0]))
    (WX (GW Ak [eV 0,eV 1]) (Bm (AJ Ag [eV 0,eV 1]))
    rNo))
def F2:Rf:=Ar (V2 2 LN)
def NB:Ex:=(Aa (BQ 3 (K1 [WB "_law_all_so" [0,1] (AJ DM [eV 0,eV 1]) (GW F2 [eV 0,eV 1]) (.str "none") (gOr ["NoThrow"] "NoThrow" (BI (eC (.str "throw"))) gNo)]))
    (Aa (Bm (Le L9 (eV 3) [WB "_law_all_so" [0,1] (AJ DN [eV 0,eV 1]) (GW F8 [eV 0,eV 1]) (.str "none") (gOr ["NoThrow"] "NoThrow" (BI (eC (.str "throw"))) gNo)]))
    (Aa (Bm (Le L9 (eV 3) [WB "_law_all_so" [0,1] (AJ BC [eV 0,eV 1,eC .non]) (GW CN [eV 0,eV 1,eC .non]) (.str "none") (gOr ["NoThrow"] "NoThrow" (BI (eC (.str "throw"))) gNo)]))
    (BI (eOp (o2 wEq) [eV 3,eOp (o2 CD) [Fh [eV 2],eI 3]])))))
def GJ:Fn:=Ar (A3 4 NB)
def Ry:Ex:=(Aa (BQ 1 (Cm [eI 0,eI 1]))
    (Aa (MH (Js (eV 0)) (tNm 2) (BQ 1 (AJ CO [eV 1,eV 2])))
    (BI (eV 1))))
def MF:Fn:=Ar (A3 3 Ry)
def OP:Ex:=(Aa (BQ 5 (C9 [3,4] 3 (Js (eV 1)) (tTp [tNm 2,tNm 3,tNm 4]) Cr (AJ Ax [Cm [eOp (o2 CD) [eV 3,eIx (eV 0) (eV 2)],eI 1],eIx (eV 4) (eV 1)])))
    (BI (AJ MF [eOp (o2 CJ) [eV 5,Fh [AJ Ax [Cm [eOp (o2 CD) [eIx (eV 0) (eI 2),eIx (eV 3) (eOp (o1 Nk) [eI 1])],eI 1],eIx (eV 2) (eV 4)]]]])))
def Ee:Fn:=Ar (A3 6 OP)
def MA:Ex:=(Aa (TM 2 3 (AJ GF [eV 0]) (eIx (eIx (eIx (eV 0) (eI 2)) (eV 1)) (eI 3)))
    (Aa (BQ 4 (K1 []))
    (Aa (MH (PM [eIx (eIx (eV 0) (eI 0)) (eI 0)]) (tNm 5) (Aa (BQ 6 (AJ Ee [eIx (eV 0) (eI 0),eIx (eIx (eV 2) (eV 1)) (eI 0),eIx (eIx (eV 2) (eV 1)) (eI 1),eV 3,eV 5]))
    (Bm (Le L9 (eV 4) [Cm [eV 6,AJ Ee [eIx (eV 0) (eI 0),eIx (eIx (eV 2) (eOp (o2 CJ) [eV 1,eI 1])) (eI 0),eIx (eIx (eV 2) (eOp (o2 CJ) [eV 1,eI 1])) (eI 1),eV 3,eV 5]]]))))
    (BI (eOp (o1 CS) [eV 4])))))
def CI:Fn:=Ar (A3 7 MA)
def He:Ex:=(Aa (TM 2 3 (AJ AI [eV 0,eOp (o1 Jq) [eV 1]]) (AJ AI [eV 0,eI 8]))
    (Aa (Qs (tTp [tNm 4,tNm 5]) (eIx (eV 1) (eV 2)))
    (Aa (BQ 6 (Fh [Cm [eV 4,Cm [eOp (o2 CJ) [eIx (eV 5) (eI 0),eI 1],eIx (eV 5) (eI 1)]],Cm [Cm [eOp (o2 CD) [eI 2,eIx (eV 4) (eI 0)],eOp (o2 CD) [eI 2,eIx (eV 4) (eI 1)]],eV 5],Cm [eV 5,eV 4],Cm [eV 4],Fh [eV 4,eV 5]]))
    (Aa (BQ 6 (eOp (o2 CJ) [eV 6,Fh [Cm [eV 4,eOp (o1 L5) [eV 5]],Cm [eV 4,eV 5,eV 5]]]))
    (Aa (xIf (eOp (o2 wEq) [eV 3,eI 7]) (BI (eIx (Fh [eOp (o2 CJ) [eOp (Kq false true) [eV 1,eV 2],eOp (Kq true false) [eV 1,eOp (o2 CJ) [eV 2,eI 1]]],eOp (o2 CJ) [eV 1,eOp (Kq false true) [eV 1,eI 1]],eOp (o1 L5) [eV 1],eOp (o1 hV) [eV 1]]) (AJ AI [eV 0,eI 4]))) D5)
    (BI (eOp (o2 CJ) [eOp (o2 CJ) [eOp (Kq false true) [eV 1,eV 2],Cm [eIx (eV 6) (eV 3)]],eOp (Kq true false) [eV 1,eOp (o2 CJ) [eV 2,eI 1]]])))))))
def B1:Fn:=Ar (A3 7 He)
def HC(rec:Fn):Ex:=(Aa (xIf (Hs (eOp (o2 K5) [eV 0,eC (.ty "tuple")]) (eOp (o2 K5) [eV 1,eC (.ty "tuple")])) (BI (Hs (eOp (o2 VO) [eOp (o1 Jq) [eV 0],eOp (o1 Jq) [eV 1]]) (eOp (o1 kD) [C9 [] 2 (Yh (eV 0) (eV 1)) (tTp [tNm 0,tNm 1]) Cr (AJ rec [eV 0,eV 1])]))) D5)
    (BI (Hs (eOp (o2 VO) [eOp (o2 K5) [eV 0,eC (.ty "bool")],eOp (o2 K5) [eV 1,eC (.ty "bool")]]) (eOp (o2 VO) [eV 0,eV 1]))))
def EE:Nat->Fn
 |0=>λ_ _=>uC
 |n+1=>Ar (A3 2 (HC (EE n)))
def HP(rec:Fn):Ex:=(Aa (BQ 2 (AJ AI [eV 0,eI 12]))
    (Aa (xIf (eOr (eOp (o2 wLt) [eV 2,eI 8]) (eOp (o2 wEq) [eV 1,eI 0])) (BI (eIx (Fh [eC .non,eC (.bl true),eC (.bl false),eI 0,eI 1,eOp (o1 Nk) [eI 1],eI 9,eOp (o2 YM) [eI 10,eI 39],eC (.str ""),eC (.str "a"),Cm [],Fh []]) (AJ AI [eV 0,eI 12]))) D5)
    (Aa (BQ 3 (C9 [0,1] 1 (PM [AJ AI [eV 0,eI 4]]) (tNm 2) Cr (AJ rec [eV 0,eOp (o2 OG) [eV 1,eI 1]])))
    (Aa (xIf (eOp (o2 wEq) [eV 2,eI 8]) (BI (eV 3)) D5)
    (Aa (xIf (eOp (o2 wEq) [eV 2,eI 9]) (BI (eY [((eC (.str "a")),(eV 3))])) D5)
    (BI (eOp (o1 CS) [eV 3])))))))
def Al:Nat->Fn
 |0=>λ_ _=>uC
 |n+1=>Ar (A3 4 (HP (Al n)))
def IL(rec:Fn):Ex:=(Aa (xIf (Hs (eOp (o2 K5) [eV 1,eC (.ty "tuple")]) (Hs (eOp (o2 wNe) [eV 1,Cm []]) (eOp (o2 wGt) [AJ AI [eV 0,eI 6],eI 0]))) (Aa (BQ 2 (AJ AI [eV 0,eOp (o1 Jq) [eV 1]]))
    (BI (eOp (o2 CJ) [eOp (o2 CJ) [eOp (Kq false true) [eV 1,eV 2],Cm [AJ rec [eV 0,eIx (eV 1) (eV 2)]]],eOp (Kq true false) [eV 1,eOp (o2 CJ) [eV 2,eI 1]]]))) D5)
    (Aa (BQ 3 (AJ AI [eV 0,eI 8]))
    (Aa (xIf (Hs (eOp (o2 K5) [eV 1,eC (.ty "tuple")]) (eOp (o2 wLt) [eV 3,eI 4])) (BI (eIx (Fh [eOp (o2 CJ) [eV 1,eOp (Kq true false) [eV 1,eOp (o1 Nk) [eI 1]]],eOp (Kq false true) [eV 1,eOp (o1 Nk) [eI 1]],eOp (o1 L5) [eV 1],eOp (o1 hV) [eV 1]]) (eV 3))) D5)
    (Aa (xIf (Hs (eOp (o2 K5) [eV 1,eC (.ty "int")]) (eOp (o2 wLt) [eV 3,eI 4])) (BI (eIx (Fh [eOp (o2 CJ) [eV 1,eI 1],eOp (o2 OG) [eV 1,eI 1],eOp (o2 wGt) [eV 1,eI 0],eOp (o1 iz) [eV 1]]) (eV 3))) D5)
    (Aa (xIf (Hs (eOp (o2 K5) [eV 1,eC (.ty "str")]) (eOp (o2 wLt) [eV 3,eI 4])) (BI (eIx (Fh [eOp (o2 CJ) [eV 1,eC (.str "a")],eOp (o1 wUp) [eV 1],eOp (Kq false true) [eV 1,eOp (o1 Nk) [eI 1]],eOp (o2 CJ) [eC (.str "1"),eV 1]]) (eV 3))) D5)
    (BI (AJ (Al 8) [eV 0,eI 2])))))))
def Cd:Nat->Fn
 |0=>λ_ _=>uC
 |n+1=>Ar (A3 4 (IL (Cd n)))
def NQ:Ex:=(Aa (Qs (tTp [tNm 2,tNm 3,tNm 4]) (AJ Ih [eV 0,eV 1]))
    (Aa (BQ 5 (AJ Dc [Cm [eV 2,eV 3,eV 4]]))
    (Aa (MH (Js (eV 4)) (tNm 6) (Bm (AJ BH [eV 2,eV 5,eV 6])))
    (Aa (BQ 4 (gu (o1 L5) [eV 4]))
    (Aa (MH (PM [eOp (o2 OG) [eI 3,eOp (o1 Jq) [C9 [] 1 (Js (eV 4)) (tNm 0) (eOp (o2 wEq) [eIx (eV 0) (eI 0),eC (.str "throw")]) (eV 0)]]]) (tNm 7) (Aa (BQ 8 (C9 [] 2 (YZ (eIx (eV 5) (eI 0))) (tTp [tNm 0,tNm 1]) (eOp (o2 wGt) [eIx (eV 1) (eI 1),eI 0]) (eV 0)))
    (Aa (BQ 6 (Cm [eC (.str "bring"),AJ AI [eV 0,eIx (eV 2) (eI 0)],AJ AI [eV 0,eIx (eV 2) (eI 1)],AJ BL [eV 0]]))
    (Aa (xIf (eOp (o2 wNe) [eV 8,Fh []]) (Aa (BQ 9 (eIx (eV 8) (AJ AI [eV 0,eOp (o1 Jq) [eV 8]])))
    (Aa (BQ 10 (eIx (Fh [eOp (o2 CJ) [eI 1,AJ AI [eV 0,eOp (o2 Z0) [eIx (eIx (eIx (eV 5) (eI 0)) (eV 9)) (eI 1),eI 999]]],eIx (eIx (eIx (eV 5) (eI 0)) (eV 9)) (eI 1)]) (AJ AI [eV 0,eI 2])))
    (BQ 6 (Cm [eC (.str "throw"),eV 9,eV 10,AJ Cj [eV 0,eOp (o2 CJ) [eIx (eV 2) (eI 1),eI 1]]])))) D5)
    (Aa (Bm (AJ BH [eV 2,eV 5,eV 6]))
    (Bm (Le L9 (eV 4) [eV 6])))))))
    (BI (Cm [eV 2,eV 3,eOp (o1 CS) [eV 4]])))))))
def Gb:Fn:=Ar (A3 11 NQ)
def Wm:Ex:=(Aa (MH (PM [eOp (o2 mT) [eI 1,eOp (o2 Z0) [eOp (o1 Jq) [eV 0],eI 2]]]) (tNm 1) (Aa (BQ 2 (AJ Ju [AJ D7 [eV 0,eV 1]]))
    (Aa (BQ 3 (AJ Gb [eV 2,eI 8]))
    (Aa (BQ 4 (C9 [] 2 (YZ (eIx (eV 3) (eI 2))) (tTp [tNm 0,tNm 1]) (eOp (o2 wEq) [eIx (eV 1) (eI 0),eC (.str "throw")]) (eV 0)))
    (Aa (BQ 5 (C9 [3] 1 (Js (eV 4)) (tNm 1) Cr (AJ CI [eV 0,eV 1])))
    (Aa (MH (Yh (eV 4) (eV 5)) (tTp [tNm 6,tNm 7]) (Aa (BQ 8 (eOp (o2 CJ) [eV 5,Fh [eV 7,Cm [],eC .non,AJ (Al 8) [eV 2,eI 3],AJ (Cd 8) [eV 2,eV 7]]]))
    (MH (Js (eOp (o2 CJ) [eV 8,C9 [2,7] 1 (PM [eI 8]) (tNm 2) Cr (AJ B1 [eV 0,eV 1])])) (tNm 9) (Aa (BQ 10 (AJ BC [eV 3,eV 6,eV 9]))
    (xIf (eOr (Tg (eOp (o2 K5) [eV 10,eC (.ty "bool")])) (eOp (o2 wNe) [eV 10,AJ (EE 8) [eV 9,eV 7]])) (BI (eC (.bl false))) D5)))))
    (MH (Js (eOp (o2 CJ) [eLR (eOp (o2 CJ) [eOp (o1 Jq) [eIx (eV 3) (eI 2)],eI 1]),Fh [eOp (o1 Nk) [eI 1],eC (.bl true),eC .non,eC (.str "0"),eOp (o2 YM) [eI 10,eI 39],AJ (Al 8) [eV 2,eI 2]]])) (tNm 11) (Aa (BQ 12 (Hs (eOp (o2 K5) [eV 11,eC (.ty "int")]) (Hs (Tg (eOp (o2 K5) [eV 11,eC (.ty "bool")])) (eOp (o2 (wIn false)) [eV 11,eV 4]))))
    (xIf (Tg (AJ GJ [eV 3,eV 11,eIx (Fh [eC (.str "throw"),eC (.str "none")]) (eOp (o1 aX) [eV 12])])) (BI (eC (.bl false))) D5)))))))))
    (BI (eC (.bl true))))
def Oq:Fn:=Ar (A3 13 Wm)
def IB(n:Nat):Fn:=(au n).1
end
section
open PyProof.Rows (boot_isinstance boot_int boot_bool boot_tuple boot_str boot_list boot_abs boot_all boot_any boot_sum boot_max boot_min boot_range boot_enumerate boot_zip boot_sorted boot_set boot_divmod)
noncomputable def top(i:Nat):vC:=zD.main.body.getD i (.Pass ⟨0,0,0,0⟩)
abbrev GR:vC:=top 3
abbrev Hl:vC:=top 4
abbrev FN:vC:=top 5
abbrev Dv:vC:=top 6
abbrev HV:vC:=top 7
abbrev CB:vC:=top 8
abbrev Il:vC:=top 9
abbrev Ly:vC:=top 10
abbrev L8:vC:=top 11
abbrev J3:vC:=top 12
abbrev Jx:vC:=top 13
abbrev KH:vC:=top 14
abbrev ET:vC:=top 21
abbrev Ge:vC:=top 22
abbrev GL:vC:=top 23
abbrev Fy:vC:=top 24
abbrev DV:vC:=top 25
abbrev De:vC:=top 26
abbrev Bu:vC:=top 27
abbrev Hq:vC:=top 28
abbrev FJ:vC:=top 29
abbrev Di:vC:=top 30
abbrev C3:vC:=top 31
abbrev GU:vC:=top 32
abbrev D0:vC:=top 33
abbrev Co:vC:=top 35
abbrev B6:vC:=top 36
abbrev Dx:vC:=top 37
abbrev B5:vC:=top 38
abbrev Df:vC:=top 39
abbrev C6:vC:=top 40
abbrev Dj:vC:=top 41
abbrev C5:vC:=top 42
abbrev Bt:vC:=top 43
abbrev Dm:vC:=top 44
abbrev BU:vC:=top 46
abbrev B7:vC:=top 47
abbrev DP:vC:=top 48
abbrev Ef:vC:=top 49
abbrev Ek:vC:=top 50
abbrev Bv:vC:=top 51
abbrev FY:vC:=top 53
abbrev KA:vC:=top 54
abbrev Iy:vC:=top 55
abbrev Gf:vC:=top 56
abbrev Io:vC:=top 57
abbrev Ig:vC:=top 58
abbrev HQ:vC:=top 59
abbrev Iz:vC:=top 60
abbrev Kj:vC:=top 61
abbrev DL:vC:=top 62
abbrev GK:vC:=top 63
abbrev HH:vC:=top 64
abbrev Hk:vC:=top 65
abbrev Hf:vC:=top 66
abbrev Dt:vC:=top 67
abbrev Eo:vC:=top 68
abbrev GN:vC:=top 71
abbrev Ff:vC:=top 72
abbrev HL:vC:=top 73
abbrev Ie:vC:=top 74
abbrev JB:vC:=top 75
abbrev JP:vC:=top 76
abbrev C1:vC:=top 77
abbrev F3:vC:=top 78
abbrev Cg:vC:=top 79
abbrev Cb:vC:=top 80
abbrev Ed:vC:=top 81
abbrev FG:vC:=top 82
abbrev Ej:vC:=top 83
abbrev GH:vC:=top 84
abbrev F1:vC:=top 85
abbrev Dg:vC:=top 86
abbrev B3:vC:=top 88
abbrev Gn:vC:=top 89
abbrev Ia:vC:=top 87
theorem LJ:AQ ["_law_call"] ["_law_call"] (AH Ia):=scM
section
variable(P:ug)(w:vG)(K:KE)(mg:Str->uD Wp)(base:ux)
abbrev Jt:Prop:=St.Dfn P w K mg base "is_whole" 1 ["thing"] (spD K 1 Ck)
abbrev Ol:Prop:=St.Dfn P w K mg base "is_from" 2 ["thing","low"] (spD K 2 Fi)
abbrev MC:Prop:=St.Dfn P w K mg base "is_within" 3 ["thing","low","high"] (spD K 3 DH)
abbrev Ss(n:Nat):Prop:=St.Dfn P w K mg base "are_same" (1+n) ["things","told"] (spD K 2 (IB n))
abbrev LV(n:Nat):Prop:=St.Dfn P w K mg base "is_same" (1+n) ["thing","told"] (spD K 2 (Ec n))
abbrev Gy:Prop:=St.Dfn P w K mg base "greatest_divisor" 1 ["one","other"] (spD K 2 Cs)
abbrev G9:Prop:=St.Dfn P w K mg base "lowest" 2 ["top","bottom"] (spD K 2 EA)
abbrev Nu:Prop:=St.Dfn P w K mg base "plus" 3 ["one","other"] (spD K 2 Gz)
abbrev Uz:Prop:=St.Dfn P w K mg base "less" 3 ["one","other"] (spD K 2 Lm)
abbrev Ny:Prop:=St.Dfn P w K mg base "times" 3 ["one","other"] (spD K 2 ES)
abbrev Sq:Prop:=St.Dfn P w K mg base "mixed" 3 ["one","weight","other","more"] (spD K 4 J1)
abbrev SI:Prop:=St.Dfn P w K mg base "total" 4 ["amounts"] (spD K 1 L3)
abbrev F9:Prop:=St.Dfn P w K mg base "has_pieces" 1 ["held","load","pieces"] (spD K 3 Cp)
abbrev Mp:Prop:=St.Dfn P w K mg base "can_pool" 2 ["held","load","other"] (spD K 3 H0)
abbrev M9:Prop:=St.Dfn P w K mg base "can_swap" 2 ["held","load","given","kind"] (spD K 4 GO)
abbrev QH:Prop:=St.Dfn P w K mg base "can_do" 3 ["held","done","deed"] (spD K 3 C4)
abbrev Jf:Prop:=St.Dfn P w K mg base "held_without" 1 ["held","load","pieces"] (spD K 3 B9)
abbrev Fc:Prop:=St.Dfn P w K mg base "held_behind" 2 ["held","deed"] (spD K 2 Aq)
abbrev EF:Prop:=St.Dfn P w K mg base "held_at_first" 1 ["book"] (spD K 1 CK)
abbrev Lc:Prop:=St.Dfn P w K mg base "held_by" 3 ["book","many"] (spD K 2 JR)
abbrev Lx:Prop:=St.Dfn P w K mg base "made_from" 1 ["deed"] (spD K 1 Cc)
abbrev J2:Prop:=St.Dfn P w K mg base "first_wrong" 4 ["book"] (spD K 1 FQ)
abbrev Bs:Prop:=St.Dfn P w K mg base "refuse_undone" 5 ["book"] (spD K 1 Ay)
abbrev ND:Prop:=St.Dfn P w K mg base "is_place" 4 ["book","thing"] (spD K 2 E9)
abbrev HN:Prop:=St.Dfn P w K mg base "is_place_of" 5 ["book","word","thing"] (spD K 3 Bk)
abbrev LF:Prop:=St.Dfn P w K mg base "all_to_one" 1 ["many","one"] (spD K 2 GA)
abbrev Gm:Prop:=St.Dfn P w K mg base "mixed_shares" 4 ["shares","weight","others","more"] (spD K 4 DR)
abbrev Ke:Prop:=St.Dfn P w K mg base "made_shares" 5 ["held","shares","deed"] (spD K 3 Bj)
abbrev Ji:Prop:=St.Dfn P w K mg base "worth_of_all" 1 ["train","held","worths"] (spD K 3 EX)
abbrev FD:Prop:=St.Dfn P w K mg base "part_thrown" 3 ["train","held","deed"] (spD K 3 Dy)
abbrev Ic:Prop:=St.Dfn P w K mg base "thrown_shares" 5 ["train","held","owners","deed","shares"] (spD K 5 D6)
abbrev KN:Prop:=St.Dfn P w K mg base "sold_shares" 4 ["deed","shares"] (spD K 2 FZ)
abbrev Fz:Prop:=St.Dfn P w K mg base "shares_behind" 6 ["train","held","owners","deed","shares"] (spD K 5 Ao)
abbrev JC:Prop:=St.Dfn P w K mg base "owners_behind" 7 ["train","held","owners","deed"] (spD K 4 BA)
abbrev Mt:Prop:=St.Dfn P w K mg base "state_by" 8 ["book","many"] (spD K 2 GS)
abbrev BW:Prop:=St.Dfn P w K mg base "refuse_no_throw" 6 ["book","place"] (spD K 2 Ag)
abbrev Jm:Prop:=St.Dfn P w K mg base "worth_theirs" 5 ["train","state","worths","partner"] (spD K 4 B8)
abbrev DO:Prop:=St.Dfn P w K mg base "bearing_told" 9 ["book","place"] (spD K 2 CZ)
abbrev Oo:Prop:=St.Dfn P w K mg base "cost_of" 7 ["book","place"] (spD K 2 DM)
abbrev OL:Prop:=St.Dfn P w K mg base "bearing" 10 ["book","place"] (spD K 2 DN)
abbrev Fw:Prop:=St.Dfn P w K mg base "bearing_holds" 10 ["book","place","thing"] (spD K 3 BC)
abbrev MB:Prop:=St.Dfn P w K mg base "_law_cell_at" 1 ["_law_script","_law_k"] (spD K 2 D7)
abbrev R3:Prop:=St.Dfn P w K mg base "_law_pen" 1 ["_law_cell"] (spD K 1 Ju)
abbrev CM:Prop:=St.Dfn P w K mg base "_law_draw" 1 ["_law_pen_here","_law_bound"] (spD K 2 AI)
abbrev Mz:Prop:=St.Dfn P w K mg base "_law_common" 1 ["_law_one","_law_other"] (spD K 2 Hz)
abbrev Fq:Prop:=St.Dfn P w K mg base "_law_made" 2 ["_law_top","_law_bottom"] (spD K 2 CL)
abbrev G6:Prop:=St.Dfn P w K mg base "_law_plus" 3 ["_law_one","_law_other"] (spD K 2 CO)
abbrev HI:Prop:=St.Dfn P w K mg base "_law_times" 3 ["_law_one","_law_other"] (spD K 2 Ax)
abbrev MQ:Prop:=St.Dfn P w K mg base "_law_less" 4 ["_law_one","_law_other"] (spD K 2 Et)
abbrev Rw:Prop:=St.Dfn P w K mg base "_law_sum" 4 ["_law_some"] (spD K 1 MF)
abbrev LW:Prop:=St.Dfn P w K mg base "_law_whole" 3 ["_law_pen_here","_law_many"] (spD K 2 Ep)
abbrev IG:Prop:=St.Dfn P w K mg base "_law_pieces" 2 ["_law_pen_here"] (spD K 1 BL)
abbrev O7:Prop:=St.Dfn P w K mg base "_law_train" 4 ["_law_pen_here"] (spD K 1 JN)
abbrev Oj:Prop:=St.Dfn P w K mg base "_law_first" 4 ["_law_pen_here","_law_train_here"] (spD K 2 JW)
abbrev OC:Prop:=St.Dfn P w K mg base "_law_share" 3 ["_law_pen_here"] (spD K 1 Hm)
abbrev J8:Prop:=St.Dfn P w K mg base "_law_worths" 2 ["_law_pen_here","_law_many"] (spD K 2 Cj)
abbrev Ja:Prop:=St.Dfn P w K mg base "_law_begun" 1 ["_law_book_here"] (spD K 1 Dc)
abbrev NA:Prop:=St.Dfn P w K mg base "_law_pooled" 4 ["_law_one","_law_other"] (spD K 2 II)
abbrev Pq:Prop:=St.Dfn P w K mg base "_law_cost" 3 ["_law_train_here","_law_loads","_law_deed_here"] (spD K 3 Ks)
abbrev Ou:Prop:=St.Dfn P w K mg base "_law_borne" 5 ["_law_shares","_law_part","_law_owners"] (spD K 3 F0)
abbrev QG:Prop:=St.Dfn P w K mg base "_law_sold" 5 ["_law_shares","_law_deed_here"] (spD K 2 HB)
abbrev Pu:Prop:=St.Dfn P w K mg base "_law_turn" 6 ["_law_train_here","_law_state","_law_deed_here"] (spD K 3 HA)
abbrev Nh:Prop:=St.Dfn P w K mg base "_law_do" 7 ["_law_train_here","_law_state","_law_deed_here"] (spD K 3 BH)
abbrev QA:Prop:=St.Dfn P w K mg base "_law_deed" 4 ["_law_pen_here","_law_train_here","_law_state"] (spD K 3 Eu)
abbrev QD:Prop:=St.Dfn P w K mg base "_law_book" 8 ["_law_pen_here","_law_most"] (spD K 2 Ih)
abbrev NS:Prop:=St.Dfn P w K mg base "_law_states" 8 ["_law_book_here"] (spD K 1 GF)
abbrev NJ:Prop:=St.Dfn P w K mg base "_law_thrown" 9 ["_law_pen_here","_law_most"] (spD K 2 Gb)
abbrev N9:Prop:=St.Dfn P w K mg base "_law_worth" 5 ["_law_train_here","_law_loads","_law_owners","_law_worths_here","_law_partner"] (spD K 5 Ee)
abbrev Lr:Prop:=St.Dfn P w K mg base "_law_bearing" 9 ["_law_book_here","_law_at"] (spD K 2 CI)
abbrev OD(n:Nat):Prop:=St.Dfn P w K mg base "_law_thing" (2+n) ["_law_pen_here","_law_deep"] (spD K 2 (Al n))
abbrev R8(n:Nat):Prop:=St.Dfn P w K mg base "_law_spoilt" (11+n) ["_law_pen_here","_law_thing_here"] (spD K 2 (Cd n))
abbrev Vt(n:Nat):Prop:=St.Dfn P w K mg base "_law_same" (1+n) ["_law_one","_law_other"] (spD K 2 (EE n))
abbrev Kl:Prop:=St.Dfn P w K mg base "_law_otherwise" 2 ["_law_pen_here","_law_due"] (spD K 2 B1)
abbrev NF:Prop:=St.Dfn P w K mg base "_law_all_so" 14 ["_law_book_here","_law_place","_law_due"] (spD K 3 GJ)
abbrev DJ:Prop:=iA P w K mg base "refuse_no_throw" 6 ["book","place"] (spR K mg 2 Ak)
abbrev OU:Prop:=iA P w K mg base "cost_of" 7 ["book","place"] (spR K mg 2 F2)
abbrev OO:Prop:=iA P w K mg base "bearing" 10 ["book","place"] (spR K mg 2 F8)
abbrev Ii:Prop:=iA P w K mg base "bearing_holds" 10 ["book","place","thing"] (spR K mg 3 CN)
end
structure Bts(mg:Str->uD Wp):Prop where
 abs:mg "abs"=uC
 all:mg "all"=uC
 bool:mg "bool"=uC
 enumerate:mg "enumerate"=uC
 int:mg "int"=uC
 isi:mg "isinstance"=uC
 len:mg "len"=uC
 list:mg "list"=uC
 max:mg "max"=uC
 min:mg "min"=uC
 range:mg "range"=uC
 sorted:mg "sorted"=uC
 str:mg "str"=uC
 sum:mg "sum"=uC
 tuple:mg "tuple"=uC
 zip:mg "zip"=uC
end
section
open PyProof.Rows (boot_isinstance boot_int boot_bool boot_tuple boot_str boot_list boot_abs boot_all boot_any boot_sum boot_max boot_min boot_range boot_enumerate boot_zip boot_sorted boot_set boot_divmod)
variable{P:ug}{w:vG}{K:KE}{mg:Str->uD Wp}{base:ux}
theorem RL:AQ ["thing"] ["thing"] (AH GR):=scM
theorem Cf  (S:St.Src K mg "is_whole" GR)(B:Bts mg):Jt P w K mg base:=by
 refine dfM 0 S RL λhr hu=>?_
 exact(AK (AR (GX (Ac Bz rfl B.isi vO (AA (AB 0) (AA (Jw rfl B.int AAA) AD))) (HF (dM (Ac Bz rfl B.isi vO (AA (AB 0) (AA (Jw rfl B.bool AA6) AD))))))))
theorem R9:AQ ["thing","low"] ["thing","low"] (AH Hl):=scM
theorem HZ  (S:St.Src K mg "is_from" Hl)(Cf:Jt P w K mg base):Ol P w K mg base:=by
 refine dfM 1 S R9 λhr hu=>?_
 exact(AK (AR (GX (deM Cf hr (AA (AB 0) AD)) (HF (Es Xc (AB 0) (AB 1))))))
theorem PU:AQ ["thing","low","high"] ["thing","low","high"] (AH FN):=scM
theorem FW  (S:St.Src K mg "is_within" FN)(HZ:Ol P w K mg base):MC P w K mg base:=by
 refine dfM 2 S PU λhr hu=>?_
 exact(AK (AR (GX (deM HZ hr (AA (AB 0) (AA (AB 1) AD))) (HF (Es jN (AB 0) (AB 2))))))
theorem Qh:AQ ["things","told"] ["things","told"] (AH Dv):=scM
theorem OF:Af ["things","told"] (AH Dv) ["told","at","thing"] (ixC [1] 2) (MN Dv 0):=csM
theorem J7:(["told","at","thing"]:Gc Str).Nodup:=by decide+kernel
theorem Sy:AQ ["thing","told"] ["thing","told"] (AH HV):=scM
theorem kn(S_p_are_same:St.Src K mg "are_same" Dv)(S_p_is_same:St.Src K mg "is_same" HV)(B:Bts mg)(Cf:Jt P w K mg base):∀n:Nat,n<=8->Ss P w K mg base n/\LV P w K mg base n
 |0,_=>⟨Lw S_p_are_same (λf fd F=>F.binds λ_ _ _ _ _ _ us hl=>match us,hl with| [_,_],_=>rfl),Lw S_p_is_same (λf fd F=>F.binds λ_ _ _ _ _ _ us hl=>match us,hl with| [_,_],_=>rfl)⟩
 |n+1,hn=>by
  obtain⟨d_p_are_same,d_p_is_same⟩:=kn S_p_are_same S_p_is_same B Cf n (by omega)
  refine⟨?_,?_⟩
  .refine dfM (1+n) S_p_are_same Qh λhr hu=>?_
   exact(AK (AR (GX (Es (Bn hu) (Ac Bq rfl B.len wj (AA (AB 0) AD)) (Ac Bq rfl B.len wj (AA (AB 1) AD))) (HF (Ac (SM rfl) rfl B.all boot_all (AA (Dp [1] 2 ["told","at","thing"] rfl OF (SR rfl B.enumerate (AB 0)) (λs H fp=>⟨FC rfl (AO (Ah 1 J7) (AO (Ah 2 J7) Bg)),Cn,deM d_p_is_same hr (AA (AB 2) (AA (AL AW (AB 0) (AB 1)) AD))⟩)) AD))))))
  .refine dfM (1+n) S_p_is_same Sy λhr hu=>?_
   exact(AG (CF (JD (Ac Bz rfl B.isi vO (AA (AB 1) (AA (Jw rfl B.tuple vU) AD)))) (AK (AR (GX (Ac Bz rfl B.isi vO (AA (AB 0) (AA (Jw rfl B.tuple vU) AD))) (HF (deM d_p_are_same hr (AA (AB 0) (AA (AB 1) AD))))))) Az)
    (AG (CF (JD (Ac Bz rfl B.isi vO (AA (AB 1) (AA (Jw rfl B.list xZ) AD)))) (AK (AR (GX (Ac Bz rfl B.isi vO (AA (AB 0) (AA (Jw rfl B.list xZ) AD))) (HF (deM d_p_are_same hr (AA (AB 0) (AA (AB 1) AD))))))) Az)
    (AG (CF (Av Xa (AB 1) Ln) (AK (AR (Es Xa (AB 0) Ln))) Az)
    (AK (AR (GX (deM Cf hr (AA (AB 0) AD)) (HF (Es (Bn hu) (AB 0) (AB 1)))))))))
theorem Dl:AQ ["one","other"] ["one","other"] (AH CB):=scM
theorem CC  (S:St.Src K mg "greatest_divisor" CB)(B:Bts mg):Gy P w K mg base:=by
 refine dfM 0 S Dl λhr hu=>?_
 exact(AG (KI (i:=0) (j:=1) rfl Dl.nd rfl rfl (by decide) rfl rfl (Ac O0 rfl B.abs boot_abs (AA (AB 0) AD)) (Ac O0 rfl B.abs boot_abs (AA (AB 1) AD)))
      (AG (Uj (VZ 1) uu (Av (MD hu) (AB 1) AF) (AK (KI (i:=0) (j:=1) rfl Dl.nd rfl rfl (by decide) rfl rfl (AB 1) (AX IW (AB 0) (AB 1)))))
      (AK (AR (AB 0)))))
end
section
open PyProof.Rows (boot_isinstance boot_int boot_bool boot_tuple boot_str boot_list boot_abs boot_all boot_any boot_sum boot_max boot_min boot_range boot_enumerate boot_zip boot_sorted boot_set boot_divmod)
variable{P:ug}{w:vG}{K:KE}{mg:Str->uD Wp}{base:ux}
theorem Oh:AQ ["top","bottom","divisor"] ["top","bottom"] (AH Il):=scM
theorem Be  (S:St.Src K mg "lowest" Il)(CC:Gy P w K mg base):G9 P w K mg base:=by
 refine dfM 1 S Oh λhr hu=>?_
 exact(AG (Ai 2 (deM CC hr (AA (AB 0) (AA (AB 1) AD))) Oh.nd)
      (AK (AR (A6 (AA (AX JZ (AB 0) (AB 2)) (AA (AX JZ (AB 1) (AB 2)) AD))))))
theorem YW:AQ ["one","other"] ["one","other"] (AH Ly):=scM
theorem FU  (S:St.Src K mg "plus" Ly)(Be:G9 P w K mg base):Nu P w K mg base:=by
 refine dfM 2 S YW λhr hu=>?_
 exact(AK (AR (deM Be hr (AA (AX AZ (AX Ap (AL AW (AB 0) AF) (AL AW (AB 1) AF)) (AX Ap (AL AW (AB 1) AF) (AL AW (AB 0) AF))) (AA (AX Ap (AL AW (AB 0) AF) (AL AW (AB 1) AF)) AD)))))
theorem Wy:AQ ["one","other"] ["one","other"] (AH L8):=scM
theorem MJ  (S:St.Src K mg "less" L8)(Be:G9 P w K mg base):Uz P w K mg base:=by
 refine dfM 2 S Wy λhr hu=>?_
 exact(AK (AR (deM Be hr (AA (AX Fj (AX Ap (AL AW (AB 0) AF) (AL AW (AB 1) AF)) (AX Ap (AL AW (AB 1) AF) (AL AW (AB 0) AF))) (AA (AX Ap (AL AW (AB 0) AF) (AL AW (AB 1) AF)) AD)))))
theorem Vg:AQ ["one","other"] ["one","other"] (AH J3):=scM
theorem FP  (S:St.Src K mg "times" J3)(Be:G9 P w K mg base):Ny P w K mg base:=by
 refine dfM 2 S Vg λhr hu=>?_
 exact(AK (AR (deM Be hr (AA (AX Ap (AL AW (AB 0) AF) (AL AW (AB 1) AF)) (AA (AX Ap (AL AW (AB 0) AF) (AL AW (AB 1) AF)) AD)))))
theorem QE:AQ ["one","weight","other","more","top"] ["one","weight","other","more"] (AH Jx):=scM
theorem Ka  (S:St.Src K mg "mixed" Jx)(Be:G9 P w K mg base):Sq P w K mg base:=by
 refine dfM 2 S QE λhr hu=>?_
 exact(AG (Ai 4 (AX AZ (AX Ap (AX Ap (AL AW (AB 0) AF) (AL AW (AB 2) AF)) (AB 1)) (AX Ap (AX Ap (AL AW (AB 2) AF) (AL AW (AB 0) AF)) (AB 3))) QE.nd)
      (AK (AR (deM Be hr (AA (AB 4) (AA (AX Ap (AX Ap (AL AW (AB 0) AF) (AL AW (AB 2) AF)) (AX AZ (AB 1) (AB 3))) AD))))))
theorem Ku:AQ ["amounts","together","amount"] ["amounts"] (AH KH):=scM
theorem Km  (S:St.Src K mg "total" KH)(EM:WD K mg "NOTHING" GY)(FU:Nu P w K mg base):SI P w K mg base:=by
 refine dfM 3 S Ku λhr hu=>?_
 exact(AG (Ai 1 (Qp EM rfl) Ku.nd)
      (AG (FA uu rfl (DU (AB 0)) (Ah 2 Ku.nd) (AK (Ai 1 (deM FU hr (AA (AB 1) (AA (AB 2) AD))) Ku.nd)))
      (AK (AR (AB 1)))))
end
section
open PyProof.Rows (boot_isinstance boot_int boot_bool boot_tuple boot_str boot_list boot_abs boot_all boot_any boot_sum boot_max boot_min boot_range boot_enumerate boot_zip boot_sorted boot_set boot_divmod)
variable{P:ug}{w:vG}{K:KE}{mg:Str->uD Wp}{base:ux}
theorem Nz:AQ ["held","load","pieces"] ["held","load","pieces"] (AH ET):=scM
theorem BM  (S:St.Src K mg "has_pieces" ET)(B:Bts mg):F9 P w K mg base:=by
 refine dfM 0 S Nz λhr hu=>?_
 exact(AK (AR (GX (Es LH (AB 1) (Ac Bq rfl B.len wj (AA (AB 0) AD))) (HF (Es Xc (AL AW (AL AW (AB 0) (AB 1)) AF) (AB 2))))))
theorem RK:AQ ["held","load","other"] ["held","load","other"] (AH Ge):=scM
theorem Gg  (S:St.Src K mg "can_pool" Ge)(BM:F9 P w K mg base):Mp P w K mg base:=by
 refine dfM 1 S RK λhr hu=>?_
 exact(AK (AR (GX (deM BM hr (AA (AB 0) (AA (AB 1) (AA AF AD)))) (GX (deM BM hr (AA (AB 0) (AA (AB 2) (AA AF AD)))) (HF (Es (Bn hu) (AL AW (AL AW (AB 0) (AB 1)) AF) (AL AW (AL AW (AB 0) (AB 2)) AF)))))))
theorem Q9:AQ ["held","load","given","kind"] ["held","load","given","kind"] (AH GL):=scM
theorem E7  (S:St.Src K mg "can_swap" GL)(BM:F9 P w K mg base):M9 P w K mg base:=by
 refine dfM 1 S Q9 λhr hu=>?_
 exact(AK (AR (GX (deM BM hr (AA (AB 0) (AA (AB 1) (AA (AB 2) AD)))) (HF (Es (MD hu) (AL AW (AL AW (AB 0) (AB 1)) AF) (AB 3))))))
theorem LM:AQ ["held","done","deed","word","numbers"] ["held","done","deed"] (AH Fy):=scM
theorem Qb:Af ["held","done","deed","word","numbers"] (AH Fy) ["other"] (ixC [] 1) (MN Fy 0):=csM
theorem RH:(["other"]:Gc Str).Nodup:=by decide+kernel
theorem JE  (S:St.Src K mg "can_do" Fy)(BM:F9 P w K mg base)(Gg:Mp P w K mg base)(E7:M9 P w K mg base):QH P w K mg base:=by
 refine dfM 2 S LM λhr hu=>?_
 exact(AG (Ai 3 (AL AW (AB 2) AF) LM.nd)
      (AG (CF (Av (Bn hu) (AB 3) A9) (AK (AR (deM Gg hr (AA (AB 0) (AA (AL AW (AB 2) AF) (AA (AL AW (AB 2) AF) AD)))))) Az)
      (AG (CF (Av (Bn hu) (AB 3) A9) (AK (AR (deM E7 hr (AA (AB 0) (AA (AL AW (AB 2) AF) (AA (AL AW (AB 2) AF) (AA (AL AW (AB 2) AF) AD))))))) Az)
      (AG (CF (Av (Bn hu) (AB 3) A9) (AG (CW [] 1 ["other"] rfl LM.nd rfl rfl Qb (DU (AB 1)) (λs H fp=>⟨Ah 0 RH,Jz (Av (Bn hu) (AL AW (AB 0) AF) A9),AL AW (AB 0) AF⟩))
      (AK (AR (GX (Es SH (AL AW (AB 2) AF) (AB 4)) (HF (deM E7 hr (AA (AB 0) (AA (AL AW (AB 2) AF) (AA (AL AW (AB 2) AF) (AA (AL AW (AB 2) AF) AD)))))))))) Az)
      (AG (CF (Av PD (AB 3) (A6 (AA A9 (AA A9 AD)))) (AK (AR (deM BM hr (AA (AB 0) (AA (AL AW (AB 2) AF) (AA (AL AW (AB 2) AF) AD)))))) Az)
      (AK (AR UL)))))))
theorem Fo:AQ ["held","load","pieces","kind","there"] ["held","load","pieces"] (AH DV):=scM
theorem Bo  (S:St.Src K mg "held_without" DV):Jf P w K mg base:=by
 refine dfM 0 S Fo λhr hu=>?_
 exact(AG (HX (AL AW (AB 0) (AB 1)) (FC rfl (AO (Ah 3 Fo.nd) (AO (Ah 4 Fo.nd) Bg))))
      (AK (AR (AX AZ (AX AZ (IT (AB 0) (AB 1)) (BJ (AA (A6 (AA (AB 3) (AA (AX Fj (AB 4) (AB 2)) AD))) AD))) (JJ (AB 0) (AX AZ (AB 1) AF))))))
theorem BS:AQ ["held","deed","word","kind","pieces","more","load","given","got"] ["held","deed"] (AH De):=scM
theorem BK  (S:St.Src K mg "held_behind" De)(Bo:Jf P w K mg base):Fc P w K mg base:=by
 refine dfM 1 S BS λhr hu=>?_
 exact(AG (Ai 2 (AL AW (AB 1) AF) BS.nd)
      (AG (CF (Av (Bn hu) (AB 2) A9) (AK (AR (AX AZ (AB 0) (BJ (AA (A6 (AA (AL AW (AB 1) AF) (AA (AL AW (AB 1) AF) AD))) AD))))) Az)
      (AG (CF (Av (Bn hu) (AB 2) A9) (AG (HX (AL AW (AB 0) (AL AW (AB 1) AF)) (FC rfl (AO (Ah 3 BS.nd) (AO (Ah 4 BS.nd) Bg))))
      (AG (Ai 5 (AL AW (AL AW (AB 0) (AL AW (AB 1) AF)) AF) BS.nd)
      (AK (AR (AX AZ (deM Bo hr (AA (deM Bo hr (AA (AB 0) (AA (AL AW (AB 1) AF) (AA (AB 4) AD)))) (AA (AL AW (AB 1) AF) (AA (AB 5) AD)))) (BJ (AA (A6 (AA (AB 3) (AA (AX AZ (AB 4) (AB 5)) AD))) AD))))))) Az)
      (AG (CF (Av PD (AB 2) (A6 (AA A9 (AA A9 AD)))) (AG (HX (JJ (AB 1) (NV Gp AF)) (FC rfl (AO (Ah 6 BS.nd) (AO (Ah 7 BS.nd) (AO (Ah 3 BS.nd) (AO (Ah 8 BS.nd) Bg))))))
      (AK (AR (AX AZ (deM Bo hr (AA (AB 0) (AA (AB 6) (AA (AB 7) AD)))) (BJ (AA (A6 (AA (AB 3) (AA (AB 8) AD))) AD)))))) Az)
      (AG (CF (Av PD (AB 2) (A6 (AA A9 (AA A9 AD)))) (AK (AR (deM Bo hr (AA (AB 0) (AA (AL AW (AB 1) AF) (AA (AL AW (AB 1) AF) AD)))))) Az)
      (AK (AR (AB 0))))))))
end
section
open PyProof.Rows (boot_isinstance boot_int boot_bool boot_tuple boot_str boot_list boot_abs boot_all boot_any boot_sum boot_max boot_min boot_range boot_enumerate boot_zip boot_sorted boot_set boot_divmod)
variable{P:ug}{w:vG}{K:KE}{mg:Str->uD Wp}{base:ux}
theorem Lu:AQ ["book"] ["book"] (AH Bu):=scM
theorem K2:Af ["book"] (AH Bu) ["load"] (ixC [] 1) (MN Bu 0):=csM
theorem K4:(["load"]:Gc Str).Nodup:=by decide+kernel
theorem A8  (S:St.Src K mg "held_at_first" Bu):EF P w K mg base:=by
 refine dfM 0 S Lu λhr hu=>?_
 exact(AK (AR (Dp [] 1 ["load"] rfl K2 (DU (AL AW (AB 0) AF)) (λs H fp=>⟨Ah 0 K4,Cn,A6 (AA (AL AW (AB 0) AF) (AA (AL AW (AB 0) AF) AD))⟩))))
theorem IJ:AQ ["book","many","held","deed"] ["book","many"] (AH Hq):=scM
theorem El  (S:St.Src K mg "held_by" Hq)(BK:Fc P w K mg base)(A8:EF P w K mg base):Lc P w K mg base:=by
 refine dfM 2 S IJ λhr hu=>?_
 exact(AG (Ai 2 (deM A8 hr (AA (AB 0) AD)) IJ.nd)
      (AG (FA uu rfl (DU (IT (AL AW (AB 0) AF) (AB 1))) (Ah 3 IJ.nd) (AK (Ai 2 (deM BK hr (AA (AB 2) (AA (AB 3) AD))) IJ.nd)))
      (AK (AR (AB 2)))))
theorem K8:AQ ["deed","word"] ["deed"] (AH FJ):=scM
theorem FI  (S:St.Src K mg "made_from" FJ)(B:Bts mg):Lx P w K mg base:=by
 refine dfM 0 S K8 λhr hu=>?_
 exact(AG (Ai 1 (AL AW (AB 0) AF) K8.nd)
      (AG (CF (Av (Bn hu) (AB 1) A9) (AK (AR (Ac Rb rfl B.sorted boot_sorted (AA (BJ (AA (AL AW (AB 0) AF) (AA (AL AW (AB 0) AF) AD))) AD)))) Az)
      (AG (CF (Av PD (AB 1) (A6 (AA A9 (AA A9 AD)))) (AK (AR (BJ (AA (AL AW (AB 0) (NV Gp AF)) AD)))) Az)
      (AK (AR (BJ AD))))))
theorem CV:AQ ["book","held","deeds","at","deed"] ["book"] (AH Di):=scM
theorem Dw  (S:St.Src K mg "first_wrong" Di)(B:Bts mg)(JE:QH P w K mg base)(BK:Fc P w K mg base)(A8:EF P w K mg base):J2 P w K mg base:=by
 refine dfM 3 S CV λhr hu=>?_
 exact(AG (Ai 1 (deM A8 hr (AA (AB 0) AD)) CV.nd)
      (AG (Ai 2 (AL AW (AB 0) AF) CV.nd)
      (AG (FA uu rfl (SR rfl B.enumerate (AB 2)) (FC rfl (AO (Ah 3 CV.nd) (AO (Ah 4 CV.nd) Bg))) (AG (CF (Sx (JD (deM JE hr (AA (AB 1) (AA (IT (AB 2) (AB 3)) (AA (AB 4) AD)))))) (AK (AR (AB 3))) Az)
      (AK (Ai 1 (deM BK hr (AA (AB 1) (AA (AB 4) AD))) CV.nd))))
      (AK (AR Ln)))))
theorem Hv:AQ ["book","wrong"] ["book"] (AH C3):=scM
theorem AV  (S:St.Src K mg "refuse_undone" C3)(Dw:J2 P w K mg base):Bs P w K mg base:=by
 refine dfM 4 S Hv λhr hu=>?_
 exact(AG (Ai 1 (deM Dw hr (AA (AB 0) AD)) Hv.nd)
      (AK (CF (Av Zp (AB 1) Ln) (AK Uo) Az)))
theorem Qi:AQ ["book","thing"] ["book","thing"] (AH GU):=scM
theorem GZ  (S:St.Src K mg "is_place" GU)(B:Bts mg)(FW:MC P w K mg base):ND P w K mg base:=by
 refine dfM 3 S Qi λhr hu=>?_
 exact(AK (AR (deM FW hr (AA (AB 1) (AA AF (AA (AX Fj (Ac Bq rfl B.len wj (AA (AL AW (AB 0) AF) AD)) AF) AD))))))
end
section
open PyProof.Rows (boot_isinstance boot_int boot_bool boot_tuple boot_str boot_list boot_abs boot_all boot_any boot_sum boot_max boot_min boot_range boot_enumerate boot_zip boot_sorted boot_set boot_divmod)
variable{P:ug}{w:vG}{K:KE}{mg:Str->uD Wp}{base:ux}
theorem NU:AQ ["book","word","thing"] ["book","word","thing"] (AH D0):=scM
theorem B0  (S:St.Src K mg "is_place_of" D0)(GZ:ND P w K mg base):HN P w K mg base:=by
 refine dfM 4 S NU λhr hu=>?_
 exact(AK (AR (GX (deM GZ hr (AA (AB 0) (AA (AB 2) AD))) (HF (Es (Bn hu) (AL AW (AL AW (AL AW (AB 0) AF) (AB 2)) AF) (AB 1))))))
theorem OJ:AQ ["many","one"] ["many","one"] (AH Co):=scM
theorem Mh:Af ["many","one"] (AH Co) ["one","at"] (ixC [1] 1) (MN Co 0):=csM
theorem MV:(["one","at"]:Gc Str).Nodup:=by decide+kernel
theorem EN  (S:St.Src K mg "all_to_one" Co)(B:Bts mg)(UQ:WD K mg "ALL" Xt)(EM:WD K mg "NOTHING" GY):LF P w K mg base:=by
 refine dfM 0 S OJ λhr hu=>?_
 exact(AK (AR (An BD rfl B.tuple vU (AA (Dp [1] 1 ["one","at"] rfl Mh (Fm rfl B.range (AA (AB 0) AD)) (λs H fp=>⟨Ah 1 MV,Cn,pR (Av (Bn hu) (AB 1) (AB 0)) (Qp UQ rfl) (Qp EM rfl)⟩)) AD))))
theorem MO:AQ ["shares","weight","others","more"] ["shares","weight","others","more"] (AH B6):=scM
theorem LX:Af ["shares","weight","others","more"] (AH B6) ["weight","more","share","other"] (ixC [1,3] 2) (MN B6 0):=csM
theorem Hn:(["weight","more","share","other"]:Gc Str).Nodup:=by decide+kernel
theorem Bp  (S:St.Src K mg "mixed_shares" B6)(B:Bts mg)(Ka:Sq P w K mg base):Gm P w K mg base:=by
 refine dfM 3 S MO λhr hu=>?_
 exact(AK (AR (An BD rfl B.tuple vU (AA (Dp [1,3] 2 ["weight","more","share","other"] rfl LX (QB rfl B.zip (AB 0) (AB 2)) (λs H fp=>⟨FC rfl (AO (Ah 2 Hn) (AO (Ah 3 Hn) Bg)),Cn,deM Ka hr (AA (AB 2) (AA (AB 0) (AA (AB 3) (AA (AB 1) AD))))⟩)) AD))))
theorem EW:AQ ["held","shares","deed","sources","load","other"] ["held","shares","deed"] (AH Dx):=scM
theorem Dd  (S:St.Src K mg "made_shares" Dx)(B:Bts mg)(FI:Lx P w K mg base)(Bp:Gm P w K mg base):Ke P w K mg base:=by
 refine dfM 4 S EW λhr hu=>?_
 exact(AG (Ai 3 (deM FI hr (AA (AB 2) AD)) EW.nd)
      (AG (CF (Av (Bn hu) (Ac Bq rfl B.len wj (AA (AB 3) AD)) AF) (AK (AR (AL AW (AB 1) (AL AW (AB 3) AF)))) Az)
      (AG (HX (AB 3) (FC rfl (AO (Ah 4 EW.nd) (AO (Ah 5 EW.nd) Bg))))
      (AK (AR (deM Bp hr (AA (AL AW (AB 1) (AB 4)) (AA (AL AW (AL AW (AB 0) (AB 4)) AF) (AA (AL AW (AB 1) (AB 5)) (AA (AL AW (AL AW (AB 0) (AB 5)) AF) AD))))))))))
theorem MY:AQ ["train","held","worths"] ["train","held","worths"] (AH B5):=scM
theorem LQ:Af ["train","held","worths"] (AH B5) ["worths","kind","pieces"] (ixC [2] 2) (MN B5 0):=csM
theorem Hr:(["worths","kind","pieces"]:Gc Str).Nodup:=by decide+kernel
theorem DQ  (S:St.Src K mg "worth_of_all" B5)(B:Bts mg):Ji P w K mg base:=by
 refine dfM 0 S MY λhr hu=>?_
 exact(AK (AR (AX AZ (Ac (Lf rfl) rfl B.sum boot_sum (AA (Dp [2] 2 ["worths","kind","pieces"] rfl LQ (DU (AB 1)) (λs H fp=>⟨FC rfl (AO (Ah 1 Hr) (AO (Ah 2 Hr) Bg)),Cn,AX Ap (AB 2) (AL AW (AB 0) (AB 1))⟩)) AD)) (AX Ap (AL AW (AB 0) AF) (AL AW (AB 2) (NV Gp AF))))))
theorem EV:AQ ["train","held","deed","load","pieces","worths"] ["train","held","deed"] (AH Df):=scM
theorem BR  (S:St.Src K mg "part_thrown" Df)(Be:G9 P w K mg base)(DQ:Ji P w K mg base):FD P w K mg base:=by
 refine dfM 2 S EV λhr hu=>?_
 exact(AG (HX (JJ (AB 2) AF) (FC rfl (AO (Ah 3 EV.nd) (AO (Ah 4 EV.nd) (AO (Ah 5 EV.nd) Bg)))))
      (AK (AR (deM Be hr (AA (AX Ap (AB 4) (AL AW (AB 5) (AL AW (AL AW (AB 1) (AB 3)) AF))) (AA (deM DQ hr (AA (AB 0) (AA (AB 1) (AA (AB 5) AD)))) AD))))))
end
section
open PyProof.Rows (boot_isinstance boot_int boot_bool boot_tuple boot_str boot_list boot_abs boot_all boot_any boot_sum boot_max boot_min boot_range boot_enumerate boot_zip boot_sorted boot_set boot_divmod)
variable{P:ug}{w:vG}{K:KE}{mg:Str->uD Wp}{base:ux}
theorem FE:AQ ["train","held","owners","deed","shares","top","bottom"] ["train","held","owners","deed","shares"] (AH C6):=scM
theorem C0  (S:St.Src K mg "thrown_shares" C6)(Bp:Gm P w K mg base)(BR:FD P w K mg base):Ic P w K mg base:=by
 refine dfM 4 S FE λhr hu=>?_
 exact(AG (HX (deM BR hr (AA (AB 0) (AA (AB 1) (AA (AB 3) AD)))) (FC rfl (AO (Ah 5 FE.nd) (AO (Ah 6 FE.nd) Bg))))
      (AK (AR (deM Bp hr (AA (AB 4) (AA (AX Fj (AB 6) (AB 5)) (AA (AL AW (AB 2) (AL AW (AB 3) AF)) (AA (AB 5) AD))))))))
theorem CU:AQ ["deed","shares","partner","other","sold","passed","changed"] ["deed","shares"] (AH Dj):=scM
theorem Ds  (S:St.Src K mg "sold_shares" Dj)(B:Bts mg)(FU:Nu P w K mg base)(MJ:Uz P w K mg base)(FP:Ny P w K mg base):KN P w K mg base:=by
 refine dfM 3 S CU λhr hu=>?_
 exact(AG (HX (JJ (AB 0) AF) (FC rfl (AO (Ah 2 CU.nd) (AO (Ah 3 CU.nd) (AO (Ah 4 CU.nd) Bg)))))
      (AG (Ai 5 (deM FP hr (AA (AL AW (AB 1) (AB 2)) (AA (AB 4) AD))) CU.nd)
      (AG (Ai 6 (An Fv rfl B.list xZ (AA (AB 1) AD)) CU.nd)
      (AG (Ct (deM MJ hr (AA (AL AW (AB 1) (AB 2)) (AA (AB 5) AD))) (AB 6) (AB 2))
      (AG (Ct (deM FU hr (AA (AL AW (AB 1) (AB 3)) (AA (AB 5) AD))) (AB 6) (AB 3))
      (AK (AR (An BD rfl B.tuple vU (AA (AB 6) AD)))))))))
theorem Lv:AQ ["train","held","owners","deed","shares"] ["train","held","owners","deed","shares"] (AH C5):=scM
theorem BZ  (S:St.Src K mg "shares_behind" C5)(C0:Ic P w K mg base)(Ds:KN P w K mg base):Fz P w K mg base:=by
 refine dfM 5 S Lv λhr hu=>?_
 exact(AG (CF (Av (Bn hu) (AL AW (AB 3) AF) A9) (AK (AR (deM C0 hr (AA (AB 0) (AA (AB 1) (AA (AB 2) (AA (AB 3) (AA (AB 4) AD)))))))) Az)
      (AG (CF (Av (Bn hu) (AL AW (AB 3) AF) A9) (AK (AR (deM Ds hr (AA (AB 3) (AA (AB 4) AD))))) Az)
      (AK (AR (AB 4)))))
theorem Hy:AQ ["train","held","owners","deed","behind"] ["train","held","owners","deed"] (AH Bt):=scM
theorem K0:Af ["train","held","owners","deed","behind"] (AH Bt) ["train","held","owners","deed","shares"] (ixC [0,1,2,3] 1) (MN Bt 0):=csM
theorem K3:(["train","held","owners","deed","shares"]:Gc Str).Nodup:=by decide+kernel
theorem Cu  (S:St.Src K mg "owners_behind" Bt)(JK:WD K mg "MAKERS" EZ)(EN:LF P w K mg base)(Dd:Ke P w K mg base)(BZ:Fz P w K mg base):JC P w K mg base:=by
 refine dfM 6 S Hy λhr hu=>?_
 exact(AG (CW [0,1,2,3] 1 ["train","held","owners","deed","shares"] rfl Hy.nd rfl rfl K0 (DU (AB 2)) (λs H fp=>⟨Ah 4 K3,Cn,deM BZ hr (AA (AB 0) (AA (AB 1) (AA (AB 2) (AA (AB 3) (AA (AB 4) AD)))))⟩))
      (AG (CF (Av (Bn hu) (AL AW (AB 3) AF) A9) (AK (AR (AX AZ (AB 4) (BJ (AA (deM EN hr (AA (AL AW (AB 0) AF) (AA (AL AW (AB 3) AF) AD))) AD))))) Az)
      (AG (CF (Av PD (AL AW (AB 3) AF) (Qp JK rfl)) (AK (AR (AX AZ (AB 4) (BJ (AA (deM Dd hr (AA (AB 1) (AA (AB 2) (AA (AB 3) AD)))) AD))))) Az)
      (AK (AR (AB 4))))))
theorem Bh:AQ ["book","many","train","first","deeds","held","owners","holders","deed"] ["book","many"] (AH Dm):=scM
theorem OQ:Af ["book","many","train","first","deeds","held","owners","holders","deed"] (AH Dm) ["load"] (ixC [] 1) (MN Dm 0):=csM
theorem OX:(["load"]:Gc Str).Nodup:=by decide+kernel
theorem Ew  (S:St.Src K mg "state_by" Dm)(BK:Fc P w K mg base)(A8:EF P w K mg base)(BZ:Fz P w K mg base)(Cu:JC P w K mg base):Mt P w K mg base:=by
 refine dfM 7 S Bh λhr hu=>?_
 exact(AG (HX (AB 0) (FC rfl (AO (Ah 2 Bh.nd) (AO (Ah 3 Bh.nd) (AO (Ah 4 Bh.nd) Bg)))))
      (AG (Ai 5 (deM A8 hr (AA (AB 0) AD)) Bh.nd)
      (AG (CW [] 1 ["load"] rfl Bh.nd rfl rfl OQ (DU (AB 3)) (λs H fp=>⟨Ah 0 OX,Cn,AL AW (AB 0) AF⟩))
      (AG (Ai 7 (AL AW (AB 2) AF) Bh.nd)
      (AG (FA uu rfl (DU (IT (AB 4) (AB 1))) (Ah 8 Bh.nd) (AG (Ai 7 (deM BZ hr (AA (AB 2) (AA (AB 5) (AA (AB 6) (AA (AB 8) (AA (AB 7) AD)))))) Bh.nd)
      (AG (Ai 6 (deM Cu hr (AA (AB 2) (AA (AB 5) (AA (AB 6) (AA (AB 8) AD))))) Bh.nd)
      (AK (Ai 5 (deM BK hr (AA (AB 5) (AA (AB 8) AD))) Bh.nd)))))
      (AK (AR (A6 (AA (AB 5) (AA (AB 6) (AA (AB 7) AD)))))))))))
theorem Gv:AQ ["book","place"] ["book","place"] (AH BU):=scM
theorem Aw  (S:St.Src K mg "refuse_no_throw" BU)(B0:HN P w K mg base)(Hd:XcD K mg "NoThrow"):DJ P w K mg base:=by
 refine QZ (k:=5) S Gv rfl (λf fd F=>F.binds λ_ _ _ _ _ _ us hl=>match us,hl with| [_,_],_=>rfl) λf cdv A outer s H E hr=>?_
 have hu:=LL hr
 exact(XB (oM (Sx (JD (deM B0 hr (AA (AB 0) (AA A9 (AA (AB 1) AD)))))) (XB (br rfl Hd rfl (AA A9 AD))) Ud))
theorem AS  (S:St.Src K mg "refuse_no_throw" BU)(B0:HN P w K mg base):BW P w K mg base:=by
 refine dfM 5 S Gv λhr hu=>?_
 exact(AK (CF (Sx (JD (deM B0 hr (AA (AB 0) (AA A9 (AA (AB 1) AD)))))) (AK Uo) Az))
end
section
open PyProof.Rows (boot_isinstance boot_int boot_bool boot_tuple boot_str boot_list boot_abs boot_all boot_any boot_sum boot_max boot_min boot_range boot_enumerate boot_zip boot_sorted boot_set boot_divmod)
variable{P:ug}{w:vG}{K:KE}{mg:Str->uD Wp}{base:ux}
theorem C8:AQ ["train","state","worths","partner","held","owners","holders","amounts"] ["train","state","worths","partner"] (AH B7):=scM
theorem LZ:Af ["train","state","worths","partner","held","owners","holders","amounts"] (AH B7) ["worths","partner","shares","kind","pieces"] (ixC [2,3] 3) (MN B7 0):=csM
theorem Em:(["worths","partner","shares","kind","pieces"]:Gc Str).Nodup:=by decide+kernel
theorem CY  (S:St.Src K mg "worth_theirs" B7)(B:Bts mg)(FU:Nu P w K mg base)(FP:Ny P w K mg base)(Km:SI P w K mg base):Jm P w K mg base:=by
 refine dfM 4 S C8 λhr hu=>?_
 exact(AG (HX (AB 1) (FC rfl (AO (Ah 4 C8.nd) (AO (Ah 5 C8.nd) (AO (Ah 6 C8.nd) Bg)))))
      (AG (CW [2,3] 3 ["worths","partner","shares","kind","pieces"] rfl C8.nd rfl rfl LZ (QB rfl B.zip (AB 4) (AB 5)) (λs H fp=>⟨FC rfl (AO (FC rfl (AO (Ah 3 Em) (AO (Ah 4 Em) Bg))) (AO (Ah 2 Em) Bg)),Cn,deM FP hr (AA (A6 (AA (AX Ap (AB 4) (AL AW (AB 0) (AB 3))) (AA AF AD))) (AA (AL AW (AB 2) (AB 1)) AD))⟩))
      (AK (AR (deM FU hr (AA (deM Km hr (AA (AB 7) AD)) (AA (deM FP hr (AA (A6 (AA (AX Ap (AL AW (AB 0) AF) (AL AW (AB 2) (NV Gp AF))) (AA AF AD))) (AA (AL AW (AB 6) (AB 3)) AD))) AD)))))))
theorem Cw:AQ ["book","place","train","worths","ahead","behind","pairs","partner"] ["book","place"] (AH DP):=scM
theorem A7  (S:St.Src K mg "bearing_told" DP)(B:Bts mg)(Ew:Mt P w K mg base)(CY:Jm P w K mg base):DO P w K mg base:=by
 refine dfM 8 S Cw λhr hu=>?_
 exact(AG (KI (i:=2) (j:=3) rfl Cw.nd rfl rfl (by decide) rfl rfl (AL AW (AB 0) AF) (AL AW (AL AW (AL AW (AB 0) AF) (AB 1)) AF))
      (AG (KI (i:=4) (j:=5) rfl Cw.nd rfl rfl (by decide) rfl rfl (deM Ew hr (AA (AB 0) (AA (AB 1) AD))) (deM Ew hr (AA (AB 0) (AA (AX AZ (AB 1) AF) AD))))
      (AG (Ai 6 (BJ AD) Cw.nd)
      (AG (FA uu rfl (Fm rfl B.range (AA (AL AW (AB 2) AF) AD)) (Ah 7 Cw.nd) (AK (BV (IH uq uv F5 (AB 6) (AA (A6 (AA (deM CY hr (AA (AB 2) (AA (AB 4) (AA (AB 3) (AA (AB 7) AD))))) (AA (deM CY hr (AA (AB 2) (AA (AB 5) (AA (AB 3) (AA (AB 7) AD))))) AD))) AD)))))
      (AK (AR (An BD rfl B.tuple vU (AA (AB 6) AD))))))))
theorem NG:AQ ["book","place"] ["book","place"] (AH Ef):=scM
theorem Hi  (S:St.Src K mg "cost_of" Ef)(El:Lc P w K mg base)(AV:Bs P w K mg base)(BR:FD P w K mg base)(AS:BW P w K mg base)(Aw:DJ P w K mg base):OU P w K mg base:=by
 refine QZ (k:=6) S NG rfl (λf fd F=>F.binds λ_ _ _ _ _ _ us hl=>match us,hl with| [_,_],_=>rfl) λf cdv A outer s H E hr=>?_
 have hu:=LL hr
 exact(Kr gf (BV (deM AV hr (AA (AB 0) AD)))
      (Kr (Ti (Md Aw (hr.mono (by decide)) rfl (AA (AB 0) (AA (AB 1) AD)))) (BV (deM AS hr (AA (AB 0) (AA (AB 1) AD))))
      Ud))
theorem HY  (S:St.Src K mg "cost_of" Ef)(El:Lc P w K mg base)(AV:Bs P w K mg base)(BR:FD P w K mg base)(AS:BW P w K mg base):Oo P w K mg base:=by
 refine dfM 6 S NG λhr hu=>?_
 exact(AG (BV (deM AV hr (AA (AB 0) AD)))
      (AG (BV (deM AS hr (AA (AB 0) (AA (AB 1) AD))))
      (AK (AR (deM BR hr (AA (AL AW (AB 0) AF) (AA (deM El hr (AA (AB 0) (AA (AB 1) AD))) (AA (AL AW (AL AW (AB 0) AF) (AB 1)) AD))))))))
theorem NL:AQ ["book","place"] ["book","place"] (AH Ek):=scM
theorem HR  (S:St.Src K mg "bearing" Ek)(AV:Bs P w K mg base)(AS:BW P w K mg base)(A7:DO P w K mg base)(Aw:DJ P w K mg base):OO P w K mg base:=by
 refine QZ (k:=9) S NL rfl (λf fd F=>F.binds λ_ _ _ _ _ _ us hl=>match us,hl with| [_,_],_=>rfl) λf cdv A outer s H E hr=>?_
 have hu:=LL hr
 exact(Kr gf (BV (deM AV hr (AA (AB 0) AD)))
      (Kr (Ti (Md Aw (hr.mono (by decide)) rfl (AA (AB 0) (AA (AB 1) AD)))) (BV (deM AS hr (AA (AB 0) (AA (AB 1) AD))))
      Ud))
theorem Hj  (S:St.Src K mg "bearing" Ek)(AV:Bs P w K mg base)(AS:BW P w K mg base)(A7:DO P w K mg base):OL P w K mg base:=by
 refine dfM 9 S NL λhr hu=>?_
 exact(AG (BV (deM AV hr (AA (AB 0) AD)))
      (AG (BV (deM AS hr (AA (AB 0) (AA (AB 1) AD))))
      (AK (AR (deM A7 hr (AA (AB 0) (AA (AB 1) AD)))))))
theorem IA:AQ ["book","place","thing"] ["book","place","thing"] (AH Bv):=scM
theorem Cy  (S:St.Src K mg "bearing_holds" Bv)(d_p_is_same:LV P w K mg base 8)(AV:Bs P w K mg base)(AS:BW P w K mg base)(A7:DO P w K mg base)(Aw:DJ P w K mg base):Ii P w K mg base:=by
 refine QZ (k:=9) S IA rfl (λf fd F=>F.binds λ_ _ _ _ _ _ us hl=>match us,hl with| [_,_,_],_=>rfl) λf cdv A outer s H E hr=>?_
 have hu:=LL hr
 exact(Kr gf (BV (deM AV hr (AA (AB 0) AD)))
      (Kr (Ti (Md Aw (hr.mono (by decide)) rfl (AA (AB 0) (AA (AB 1) AD)))) (BV (deM AS hr (AA (AB 0) (AA (AB 1) AD))))
      Ud))
theorem Bc  (S:St.Src K mg "bearing_holds" Bv)(d_p_is_same:LV P w K mg base 8)(AV:Bs P w K mg base)(AS:BW P w K mg base)(A7:DO P w K mg base):Fw P w K mg base:=by
 refine dfM 9 S IA λhr hu=>?_
 exact(AG (BV (deM AV hr (AA (AB 0) AD)))
      (AG (BV (deM AS hr (AA (AB 0) (AA (AB 1) AD))))
      (AK (AR (deM d_p_is_same hr (AA (AB 2) (AA (deM A7 hr (AA (AB 0) (AA (AB 1) AD))) AD)))))))
theorem Pb:AQ ["_law_script","_law_k"] ["_law_script","_law_k"] (AH FY):=scM
theorem Fd  (S:St.Src K mg "_law_cell_at" FY)(B:Bts mg):MB P w K mg base:=by
 refine dfM 0 S Pb λhr hu=>?_
 exact(AG (CF (Av LH (AB 1) (Ac Bq rfl B.len wj (AA (AB 0) AD))) (AK (AR (AL AW (AB 0) (AB 1)))) Az)
      (AK (AR AF)))
end
section
open PyProof.Rows (boot_isinstance boot_int boot_bool boot_tuple boot_str boot_list boot_abs boot_all boot_any boot_sum boot_max boot_min boot_range boot_enumerate boot_zip boot_sorted boot_set boot_divmod)
variable{P:ug}{w:vG}{K:KE}{mg:Str->uD Wp}{base:ux}
theorem Vr:AQ ["_law_cell"] ["_law_cell"] (AH KA):=scM
theorem KJ  (S:St.Src K mg "_law_pen" KA)(B:Bts mg):R3 P w K mg base:=by
 refine dfM 0 S Vr λhr hu=>?_
 exact(AK (AR (BJ (AA (AB 0) (AA (An Li rfl B.int AAA (AA (Es Xc (AB 0) (AX RA AF AF)) AD)) (AA AF (AA (AX IW (AB 0) AF) AD)))))))
theorem JM:AQ ["_law_pen_here","_law_bound","_law_found","_law_stir"] ["_law_pen_here","_law_bound"] (AH Iy):=scM
theorem AM  (S:St.Src K mg "_law_draw" Iy):CM P w K mg base:=by
 refine dfM 0 S JM λhr hu=>?_
 exact(AG (CF (DW.dt (KC (Av (Bn hu) (AL AW (AB 0) AF) AF) (IQ (Av NC (AL AW (AB 0) AF) AF)))) (AG (Ai 2 (AX IW (AL AW (AB 0) AF) (AB 1)) JM.nd)
      (AG (Ct (AX JZ (AL AW (AB 0) AF) (AB 1)) (AB 0) AF)
      (AK (AR (AB 2))))) Az)
      (AG (Ct (AX AZ (AL AW (AB 0) AF) AF) (AB 0) AF)
      (AG (Ai 3 (AX IW (AX Ap (AX AZ (AL AW (AB 0) AF) AF) (AX AZ AF (AX Ap AF (AL AW (AB 0) AF)))) AF) JM.nd)
      (AG (Ai 3 (AX IW (AX AZ (AX AZ (AX Ap (AB 3) (AB 3)) (AX Ap AF (AL AW (AB 0) AF))) AF) AF) JM.nd)
      (AK (AR (AX IW (AX JZ (AX IW (AX Ap (AB 3) AF) AF) AF) (AB 1))))))))
theorem L4:AQ ["_law_one","_law_other"] ["_law_one","_law_other"] (AH Gf):=scM
theorem Gk  (S:St.Src K mg "_law_common" Gf):Mz P w K mg base:=by
 refine dfM 0 S L4 λhr hu=>?_
 exact(AG (Uj (VZ 1) uu (Av NC (AB 1) AF) (AK (KI (i:=0) (j:=1) rfl L4.nd rfl rfl (by decide) rfl rfl (AB 1) (AX IW (AB 0) (AB 1)))))
      (AK (AR (AB 0))))
theorem N0:AQ ["_law_top","_law_bottom","_law_by"] ["_law_top","_law_bottom"] (AH Io):=scM
theorem BG  (S:St.Src K mg "_law_made" Io)(B:Bts mg)(Gk:Mz P w K mg base):Fq P w K mg base:=by
 refine dfM 1 S N0 λhr hu=>?_
 exact(AG (Ai 2 (deM Gk hr (AA (Ac O0 rfl B.abs boot_abs (AA (AB 0) AD)) (AA (AB 1) AD))) N0.nd)
      (AK (AR (A6 (AA (AX JZ (AB 0) (AB 2)) (AA (AX JZ (AB 1) (AB 2)) AD))))))
theorem Ts:AQ ["_law_one","_law_other"] ["_law_one","_law_other"] (AH Ig):=scM
theorem Bb  (S:St.Src K mg "_law_plus" Ig)(BG:Fq P w K mg base):G6 P w K mg base:=by
 refine dfM 2 S Ts λhr hu=>?_
 exact(AK (AR (deM BG hr (AA (AX AZ (AX Ap (AL AW (AB 0) AF) (AL AW (AB 1) AF)) (AX Ap (AL AW (AB 1) AF) (AL AW (AB 0) AF))) (AA (AX Ap (AL AW (AB 0) AF) (AL AW (AB 1) AF)) AD)))))
theorem Rc:AQ ["_law_one","_law_other"] ["_law_one","_law_other"] (AH HQ):=scM
theorem BF  (S:St.Src K mg "_law_times" HQ)(BG:Fq P w K mg base):HI P w K mg base:=by
 refine dfM 2 S Rc λhr hu=>?_
 exact(AK (AR (deM BG hr (AA (AX Ap (AL AW (AB 0) AF) (AL AW (AB 1) AF)) (AA (AX Ap (AL AW (AB 0) AF) (AL AW (AB 1) AF)) AD)))))
end
section
open PyProof.Rows (boot_isinstance boot_int boot_bool boot_tuple boot_str boot_list boot_abs boot_all boot_any boot_sum boot_max boot_min boot_range boot_enumerate boot_zip boot_sorted boot_set boot_divmod)
variable{P:ug}{w:vG}{K:KE}{mg:Str->uD Wp}{base:ux}
theorem T5:AQ ["_law_one","_law_other"] ["_law_one","_law_other"] (AH Iz):=scM
theorem E8  (S:St.Src K mg "_law_less" Iz)(Bb:G6 P w K mg base):MQ P w K mg base:=by
 refine dfM 3 S T5 λhr hu=>?_
 exact(AK (AR (deM Bb hr (AA (AB 0) (AA (A6 (AA (AX Fj AF (AL AW (AB 1) AF)) (AA (AL AW (AB 1) AF) AD))) AD)))))
theorem Kz:AQ ["_law_some","_law_found","_law_one"] ["_law_some"] (AH Kj):=scM
theorem KW  (S:St.Src K mg "_law_sum" Kj)(Bb:G6 P w K mg base):Rw P w K mg base:=by
 refine dfM 3 S Kz λhr hu=>?_
 exact(AG (Ai 1 (A6 (AA AF (AA AF AD))) Kz.nd)
      (AG (FA uu rfl (DU (AB 0)) (Ah 2 Kz.nd) (AK (Ai 1 (deM Bb hr (AA (AB 1) (AA (AB 2) AD))) Kz.nd)))
      (AK (AR (AB 1)))))
theorem Mq:AQ ["_law_pen_here","_law_many","_law_weights"] ["_law_pen_here","_law_many"] (AH DL):=scM
theorem Pe:Af ["_law_pen_here","_law_many","_law_weights"] (AH DL) ["_law_pen_here","_law_one"] (ixC [0] 1) (MN DL 0):=csM
theorem Pf:(["_law_pen_here","_law_one"]:Gc Str).Nodup:=by decide+kernel
theorem PR:Af ["_law_pen_here","_law_many","_law_weights"] (AH DL) ["_law_weights","_law_weight"] (ixC [2] 1) (MN DL 1):=csM
theorem Ph:(["_law_weights","_law_weight"]:Gc Str).Nodup:=by decide+kernel
theorem Dz  (S:St.Src K mg "_law_whole" DL)(B:Bts mg)(AM:CM P w K mg base)(BG:Fq P w K mg base):LW P w K mg base:=by
 refine dfM 2 S Mq λhr hu=>?_
 exact(AG (Ai 2 (Dp [0] 1 ["_law_pen_here","_law_one"] rfl Pe (Fm rfl B.range (AA (AB 1) AD)) (λs H fp=>⟨Ah 1 Pf,Cn,AL AW (BJ (AA AF (AA AF (AA (deM AM hr (AA (AB 0) (AA AF AD))) (AA (deM AM hr (AA (AB 0) (AA AF AD))) AD))))) (deM AM hr (AA (AB 0) (AA AF AD)))⟩)) Mq.nd)
      (AG (CF (Av (Bn hu) (Ac (Lf rfl) rfl B.sum boot_sum (AA (AB 2) AD)) AF) (AK (Ct AF (AB 2) (deM AM hr (AA (AB 0) (AA (AB 1) AD))))) Az)
      (AK (AR (An BD rfl B.tuple vU (AA (Dp [2] 1 ["_law_weights","_law_weight"] rfl PR (DU (AB 2)) (λs H fp=>⟨Ah 1 Ph,Cn,deM BG hr (AA (AB 1) (AA (Ac (Lf rfl) rfl B.sum boot_sum (AA (AB 0) AD)) AD))⟩)) AD))))))
theorem L7:AQ ["_law_pen_here","_law_great"] ["_law_pen_here"] (AH GK):=scM
theorem Ba  (S:St.Src K mg "_law_pieces" GK)(AM:CM P w K mg base):IG P w K mg base:=by
 refine dfM 1 S L7 λhr hu=>?_
 exact(AG (Ai 1 (AX AZ (AX RA AF AF) (deM AM hr (AA (AB 0) (AA AF AD)))) L7.nd)
      (AK (AR (AL AW (BJ (AA (AX AZ AF (deM AM hr (AA (AB 0) (AA AF AD)))) (AA (AX AZ AF (deM AM hr (AA (AB 0) (AA AF AD)))) (AA (AX AZ AF (deM AM hr (AA (AB 0) (AA AF AD)))) (AA (AB 1) AD))))) (AX JZ (deM AM hr (AA (AB 0) (AA AF AD))) AF)))))
theorem J5:AQ ["_law_pen_here","_law_partners","_law_kinds","_law_beasts"] ["_law_pen_here"] (AH HH):=scM
theorem Hb  (S:St.Src K mg "_law_train" HH)(AM:CM P w K mg base)(Dz:LW P w K mg base):O7 P w K mg base:=by
 refine dfM 3 S J5 λhr hu=>?_
 exact(AG (KI (i:=1) (j:=2) rfl J5.nd rfl rfl (by decide) rfl rfl (AX AZ AF (deM AM hr (AA (AB 0) (AA AF AD)))) (AX AZ AF (deM AM hr (AA (AB 0) (AA AF AD)))))
      (AG (Ai 3 (AL AW (BJ (AA (AX AZ AF (deM AM hr (AA (AB 0) (AA AF AD)))) (AA (AX AZ AF (deM AM hr (AA (AB 0) (AA AF AD)))) AD))) (deM AM hr (AA (AB 0) (AA AF AD)))) J5.nd)
      (AK (AR (A6 (AA (AB 1) (AA (AB 2) (AA (AB 3) (AA (deM Dz hr (AA (AB 0) (AA (AB 1) AD))) (AA (deM AM hr (AA (AB 0) (AA AF AD))) (AA (deM AM hr (AA (AB 0) (AA AF AD))) AD)))))))))))
theorem KR:AQ ["_law_pen_here","_law_train_here","_law_found","_law_k"] ["_law_pen_here","_law_train_here"] (AH Hk):=scM
theorem Ha  (S:St.Src K mg "_law_first" Hk)(B:Bts mg)(AM:CM P w K mg base)(Dz:LW P w K mg base)(Ba:IG P w K mg base):Oj P w K mg base:=by
 refine dfM 3 S KR λhr hu=>?_
 exact(AG (Ai 2 (BJ AD) KR.nd)
      (AG (FA uu rfl (Fm rfl B.range (AA (AL AW (BJ (AA AF (AA AF (AA (deM AM hr (AA (AB 0) (AA AF AD))) AD)))) (deM AM hr (AA (AB 0) (AA AF AD)))) AD)) (Ah 3 KR.nd) (AK (BV (IH uq uv F5 (AB 2) (AA (A6 (AA (deM AM hr (AA (AB 0) (AA (AL AW (AB 1) AF) AD))) (AA (deM Ba hr (AA (AB 0) AD)) (AA (deM Dz hr (AA (AB 0) (AA (AL AW (AB 1) AF) AD))) AD)))) AD)))))
      (AK (AR (An BD rfl B.tuple vU (AA (AB 2) AD))))))
end
section
open PyProof.Rows (boot_isinstance boot_int boot_bool boot_tuple boot_str boot_list boot_abs boot_all boot_any boot_sum boot_max boot_min boot_range boot_enumerate boot_zip boot_sorted boot_set boot_divmod)
variable{P:ug}{w:vG}{K:KE}{mg:Str->uD Wp}{base:ux}
theorem NH:AQ ["_law_pen_here","_law_bottom"] ["_law_pen_here"] (AH Hf):=scM
theorem Hc  (S:St.Src K mg "_law_share" Hf)(AM:CM P w K mg base)(BG:Fq P w K mg base):OC P w K mg base:=by
 refine dfM 2 S NH λhr hu=>?_
 exact(AG (Ai 1 (AX AZ AF (deM AM hr (AA (AB 0) (AA AF AD)))) NH.nd)
      (AK (AR (deM BG hr (AA (AX AZ AF (deM AM hr (AA (AB 0) (AA (AB 1) AD)))) (AA (AB 1) AD))))))
theorem RC:AQ ["_law_pen_here","_law_many"] ["_law_pen_here","_law_many"] (AH Dt):=scM
theorem Ov:Af ["_law_pen_here","_law_many"] (AH Dt) ["_law_pen_here","_law_one"] (ixC [0] 1) (MN Dt 0):=csM
theorem PJ:(["_law_pen_here","_law_one"]:Gc Str).Nodup:=by decide+kernel
theorem DB  (S:St.Src K mg "_law_worths" Dt)(B:Bts mg)(AM:CM P w K mg base):J8 P w K mg base:=by
 refine dfM 1 S RC λhr hu=>?_
 exact(AK (AR (An BD rfl B.tuple vU (AA (Dp [0] 1 ["_law_pen_here","_law_one"] rfl Ov (Fm rfl B.range (AA (AB 1) AD)) (λs H fp=>⟨Ah 1 PJ,Cn,AX AZ AF (AL AW (BJ (AA (deM AM hr (AA (AB 0) (AA AF AD))) (AA (deM AM hr (AA (AB 0) (AA AF AD))) AD))) (deM AM hr (AA (AB 0) (AA AF AD))))⟩)) AD))))
theorem Sl:AQ ["_law_book_here"] ["_law_book_here"] (AH Eo):=scM
theorem Pp:Af ["_law_book_here"] (AH Eo) ["_law_load"] (ixC [] 1) (MN Eo 0):=csM
theorem PQ:(["_law_load"]:Gc Str).Nodup:=by decide+kernel
theorem CP  (S:St.Src K mg "_law_begun" Eo)(B:Bts mg):Ja P w K mg base:=by
 refine dfM 0 S Sl λhr hu=>?_
 exact(AK (AR (BJ (AA (Dp [] 1 ["_law_load"] rfl Pp (DU (AL AW (AB 0) AF)) (λs H fp=>⟨Ah 0 PQ,Cn,An Fv rfl B.list xZ (AA (AB 0) AD)⟩)) (AA (An BD rfl B.tuple vU (AA (AL AW (AL AW (AB 0) AF) AF) AD)) (AA (BJ AD) AD))))))
theorem FF:AQ ["_law_one","_law_other","_law_found","_law_mine","_law_its","_law_both"] ["_law_one","_law_other"] (AH GN):=scM
theorem GG  (S:St.Src K mg "_law_pooled" GN)(B:Bts mg)(BG:Fq P w K mg base)(Bb:G6 P w K mg base)(BF:HI P w K mg base):NA P w K mg base:=by
 refine dfM 3 S FF λhr hu=>?_
 exact(AG (Ai 2 (BJ AD) FF.nd)
      (AG (FA uu rfl (QB rfl B.zip (AL AW (AB 0) AF) (AL AW (AB 1) AF)) (FC rfl (AO (Ah 3 FF.nd) (AO (Ah 4 FF.nd) Bg))) (AG (Ai 5 (deM Bb hr (AA (deM BF hr (AA (A6 (AA (AL AW (AB 0) AF) (AA AF AD))) (AA (AB 3) AD))) (AA (deM BF hr (AA (A6 (AA (AL AW (AB 1) AF) (AA AF AD))) (AA (AB 4) AD))) AD))) FF.nd)
      (AK (BV (IH uq uv F5 (AB 2) (AA (deM BF hr (AA (AB 5) (AA (deM BG hr (AA AF (AA (AX AZ (AL AW (AB 0) AF) (AL AW (AB 1) AF)) AD))) AD))) AD))))))
      (AK (AR (An BD rfl B.tuple vU (AA (AB 2) AD))))))
theorem Lb:AQ ["_law_train_here","_law_loads","_law_deed_here","_law_worths_here","_law_whole_here"] ["_law_train_here","_law_loads","_law_deed_here"] (AH Ff):=scM
theorem RM:Af ["_law_train_here","_law_loads","_law_deed_here","_law_worths_here","_law_whole_here"] (AH Ff) ["_law_worths_here","_law_kind","_law_pieces_here","_law_owners"] (ixC [3] 3) (MN Ff 0):=csM
theorem JG:(["_law_worths_here","_law_kind","_law_pieces_here","_law_owners"]:Gc Str).Nodup:=by decide+kernel
theorem Ij  (S:St.Src K mg "_law_cost" Ff)(B:Bts mg)(BG:Fq P w K mg base):Pq P w K mg base:=by
 refine dfM 2 S Lb λhr hu=>?_
 exact(AG (Ai 3 (AL AW (AB 2) AF) Lb.nd)
      (AG (Ai 4 (AX AZ (Ac (Lf rfl) rfl B.sum boot_sum (AA (Dp [3] 3 ["_law_worths_here","_law_kind","_law_pieces_here","_law_owners"] rfl RM (DU (AB 1)) (λs H fp=>⟨FC rfl (AO (Ah 1 JG) (AO (Ah 2 JG) (AO (Ah 3 JG) Bg))),Cn,AX Ap (AB 2) (AL AW (AB 0) (AB 1))⟩)) AD)) (AX Ap (AL AW (AB 0) AF) (AL AW (AB 3) (NV Gp AF)))) Lb.nd)
      (AK (AR (deM BG hr (AA (AX Ap (AL AW (AB 2) AF) (AL AW (AB 3) (AL AW (AL AW (AB 1) (AL AW (AB 2) AF)) AF))) (AA (AB 4) AD)))))))
theorem Hw:AQ ["_law_shares","_law_part","_law_owners","_law_found","_law_mine","_law_its"] ["_law_shares","_law_part","_law_owners"] (AH HL):=scM
theorem Fp  (S:St.Src K mg "_law_borne" HL)(B:Bts mg)(Bb:G6 P w K mg base)(BF:HI P w K mg base)(E8:MQ P w K mg base):Ou P w K mg base:=by
 refine dfM 4 S Hw λhr hu=>?_
 exact(AG (Ai 3 (BJ AD) Hw.nd)
      (AG (FA uu rfl (QB rfl B.zip (AB 0) (AB 2)) (FC rfl (AO (Ah 4 Hw.nd) (AO (Ah 5 Hw.nd) Bg))) (AK (BV (IH uq uv F5 (AB 3) (AA (deM Bb hr (AA (deM BF hr (AA (AB 4) (AA (deM E8 hr (AA (A6 (AA AF (AA AF AD))) (AA (AB 1) AD))) AD))) (AA (deM BF hr (AA (AB 5) (AA (AB 1) AD))) AD))) AD)))))
      (AK (AR (An BD rfl B.tuple vU (AA (AB 3) AD))))))
end
section
open PyProof.Rows (boot_isinstance boot_int boot_bool boot_tuple boot_str boot_list boot_abs boot_all boot_any boot_sum boot_max boot_min boot_range boot_enumerate boot_zip boot_sorted boot_set boot_divmod)
variable{P:ug}{w:vG}{K:KE}{mg:Str->uD Wp}{base:ux}
theorem LO:AQ ["_law_shares","_law_deed_here","_law_found","_law_passes"] ["_law_shares","_law_deed_here"] (AH Ie):=scM
theorem HE  (S:St.Src K mg "_law_sold" Ie)(B:Bts mg)(Bb:G6 P w K mg base)(BF:HI P w K mg base)(E8:MQ P w K mg base):QG P w K mg base:=by
 refine dfM 4 S LO λhr hu=>?_
 exact(AG (Ai 2 (An Fv rfl B.list xZ (AA (AB 0) AD)) LO.nd)
      (AG (Ai 3 (deM BF hr (AA (AL AW (AB 2) (AL AW (AB 1) AF)) (AA (AL AW (AB 1) AF) AD))) LO.nd)
      (AG (Ct (deM E8 hr (AA (AL AW (AB 2) (AL AW (AB 1) AF)) (AA (AB 3) AD))) (AB 2) (AL AW (AB 1) AF))
      (AG (Ct (deM Bb hr (AA (AL AW (AB 2) (AL AW (AB 1) AF)) (AA (AB 3) AD))) (AB 2) (AL AW (AB 1) AF))
      (AK (AR (An BD rfl B.tuple vU (AA (AB 2) AD))))))))
theorem Er:AQ ["_law_train_here","_law_state","_law_deed_here","_law_loads","_law_holders","_law_numbers","_law_part","_law_owners","_law_load"] ["_law_train_here","_law_state","_law_deed_here"] (AH JB):=scM
theorem Ir  (S:St.Src K mg "_law_turn" JB)(Ij:Pq P w K mg base)(Fp:Ou P w K mg base)(HE:QG P w K mg base):Pu P w K mg base:=by
 refine dfM 5 S Er λhr hu=>?_
 exact(AG (HX (AB 1) (FC rfl (AO (Ah 3 Er.nd) (AO (Ah 4 Er.nd) (AO (Ah 5 Er.nd) Bg)))))
      (AK (CF (Av (Bn hu) (AL AW (AB 2) AF) A9) (AG (KI (i:=6) (j:=7) rfl Er.nd rfl rfl (by decide) rfl rfl (deM Ij hr (AA (AB 0) (AA (AB 3) (AA (AB 2) AD)))) (AL AW (AL AW (AB 3) (AL AW (AB 2) AF)) AF))
      (AG (Ct (AX Fj (AL AW (AL AW (AB 3) (AL AW (AB 2) AF)) AF) (AL AW (AB 2) AF)) (AL AW (AB 3) (AL AW (AB 2) AF)) AF)
      (AG (FA uu rfl (DU (AB 3)) (Ah 8 Er.nd) (AK (Ct (deM Fp hr (AA (AL AW (AB 8) AF) (AA (AB 6) (AA (AB 7) AD)))) (AB 8) AF)))
      (AK (Ct (deM Fp hr (AA (AB 4) (AA (AB 6) (AA (AB 7) AD)))) (AB 1) AF))))) (AG (FA uu rfl (DU (AB 3)) (Ah 8 Er.nd) (AK (Ct (deM HE hr (AA (AL AW (AB 8) AF) (AA (AB 2) AD))) (AB 8) AF)))
      (AK (Ct (deM HE hr (AA (AB 4) (AA (AB 2) AD))) (AB 1) AF))))))
theorem EO:AQ ["_law_train_here","_law_state","_law_deed_here","_law_loads","_law_holders","_law_numbers","_law_word_here","_law_one","_law_other","_law_load","_law_given","_law_kind","_law_got"] ["_law_train_here","_law_state","_law_deed_here"] (AH JP):=scM
theorem UE:Af ["_law_train_here","_law_state","_law_deed_here","_law_loads","_law_holders","_law_numbers","_law_word_here","_law_one","_law_other","_law_load","_law_given","_law_kind","_law_got"] (AH JP) ["_law_deed_here","_law_one"] (ixC [2] 1) (MN JP 0):=csM
theorem TU:(["_law_deed_here","_law_one"]:Gc Str).Nodup:=by decide+kernel
theorem EY  (S:St.Src K mg "_law_do" JP)(B:Bts mg)(GG:NA P w K mg base)(Ir:Pu P w K mg base):Nh P w K mg base:=by
 refine dfM 6 S EO λhr hu=>?_
 exact(AG (HX (AB 1) (FC rfl (AO (Ah 3 EO.nd) (AO (Ah 4 EO.nd) (AO (Ah 5 EO.nd) Bg)))))
      (AG (Ai 6 (AL AW (AB 2) AF) EO.nd)
      (AK (CF (Av (Bn hu) (AB 6) A9) (AK (BV (IH uq uv F5 (AB 3) (AA (BJ (AA (AL AW (AB 2) AF) (AA (AL AW (AB 2) AF) (AA (An BD rfl B.tuple vU (AA (Dp [2] 1 ["_law_deed_here","_law_one"] rfl UE (Fm rfl B.range (AA (AL AW (AB 0) AF) AD)) (λs H fp=>⟨Ah 1 TU,Cn,A6 (AA (An Li rfl B.int AAA (AA (Es (Bn hu) (AB 1) (AL AW (AB 0) AF)) AD)) (AA AF AD))⟩)) AD)) AD)))) AD)))) (AK (CF (Av (Bn hu) (AB 6) A9) (AG (KI (i:=7) (j:=8) rfl EO.nd rfl rfl (by decide) rfl rfl (AL AW (AB 3) (AL AW (AB 2) AF)) (AL AW (AB 3) (AL AW (AB 2) AF)))
      (AG (BV (IH uq uv F5 (AB 3) (AA (BJ (AA (AL AW (AB 7) AF) (AA (AX AZ (AL AW (AB 7) AF) (AL AW (AB 8) AF)) (AA (deM GG hr (AA (AB 7) (AA (AB 8) AD))) AD)))) AD)))
      (AG (Ct AF (AB 7) AF)
      (AK (Ct AF (AB 8) AF))))) (AK (CF (Av PD (AB 6) (A6 (AA A9 (AA A9 AD)))) (AG (HX (JJ (AB 2) (NV Gp AF)) (FC rfl (AO (Ah 9 EO.nd) (AO (Ah 10 EO.nd) (AO (Ah 11 EO.nd) (AO (Ah 12 EO.nd) Bg))))))
      (AG (Ct (AX Fj (AL AW (AL AW (AB 3) (AB 9)) AF) (AB 10)) (AL AW (AB 3) (AB 9)) AF)
      (AG (BV (IH uq uv F5 (AB 3) (AA (BJ (AA (AB 11) (AA (AB 12) (AA (AL AW (AL AW (AB 3) (AB 9)) AF) AD)))) AD)))
      (AK (BV (IH yv PySem.F.type_list_extend eH (AB 5) (AA (AX Ap (gI (AB 2) AF AF) (An Li rfl B.int AAA (AA (Es (Bn hu) (AB 6) A9) AD))) AD))))))) (AK (CF (Av (Bn hu) (AB 6) A9) (AK (Ct (AX Fj (AL AW (AL AW (AB 3) (AL AW (AB 2) AF)) AF) (AL AW (AB 2) AF)) (AL AW (AB 3) (AL AW (AB 2) AF)) AF)) (AK (BV (deM Ir hr (AA (AB 0) (AA (AB 1) (AA (AB 2) AD))))))))))))))))
theorem CA:AQ ["_law_pen_here","_law_train_here","_law_state","_law_loads","_law_holders","_law_numbers","_law_full","_law_way","_law_load","_law_some","_law_same_here","_law_kind","_law_left","_law_partner"] ["_law_pen_here","_law_train_here","_law_state"] (AH C1):=scM
theorem QV:Af ["_law_pen_here","_law_train_here","_law_state","_law_loads","_law_holders","_law_numbers","_law_full","_law_way","_law_load","_law_some","_law_same_here","_law_kind","_law_left","_law_partner"] (AH C1) ["_law_at","_law_load"] (ixC [] 2) (MN C1 0):=csM
theorem Lq:(["_law_at","_law_load"]:Gc Str).Nodup:=by decide+kernel
theorem QT:Af ["_law_pen_here","_law_train_here","_law_state","_law_loads","_law_holders","_law_numbers","_law_full","_law_way","_law_load","_law_some","_law_same_here","_law_kind","_law_left","_law_partner"] (AH C1) ["_law_loads","_law_load","_law_at"] (ixC [3,8] 1) (MN C1 1):=csM
theorem Qm:(["_law_loads","_law_load","_law_at"]:Gc Str).Nodup:=by decide+kernel
theorem RQ:Af ["_law_pen_here","_law_train_here","_law_state","_law_loads","_law_holders","_law_numbers","_law_full","_law_way","_law_load","_law_some","_law_same_here","_law_kind","_law_left","_law_partner"] (AH C1) ["_law_numbers","_law_number"] (ixC [5] 1) (MN C1 2):=csM
theorem Q1:(["_law_numbers","_law_number"]:Gc Str).Nodup:=by decide+kernel
theorem Ib  (S:St.Src K mg "_law_deed" C1)(B:Bts mg)(AM:CM P w K mg base)(Ba:IG P w K mg base)(Hc:OC P w K mg base)(DB:J8 P w K mg base):QA P w K mg base:=by
 refine dfM 3 S CA λhr hu=>?_
 exact(AG (HX (AB 2) (FC rfl (AO (Ah 3 CA.nd) (AO (Ah 4 CA.nd) (AO (Ah 5 CA.nd) Bg)))))
      (AG (CW [] 2 ["_law_at","_law_load"] rfl CA.nd rfl rfl QV (SR rfl B.enumerate (AB 3)) (λs H fp=>⟨FC rfl (AO (Ah 0 Lq) (AO (Ah 1 Lq) Bg)),Jz (Av NC (AL AW (AB 1) AF) AF),AB 0⟩))
      (AG (Ai 7 (deM AM hr (AA (AB 0) (AA AF AD))) CA.nd)
      (AG (CF (DW.dt (Zt (Av LH (AB 7) AF) (U9 (Av (Bn hu) (AB 6) (BJ AD))))) (AK (AR (A6 (AA A9 (AA (deM AM hr (AA (AB 0) (AA (AL AW (AB 1) AF) AD))) (AA (deM AM hr (AA (AB 0) (AA (AL AW (AB 1) AF) AD))) (AA (deM Ba hr (AA (AB 0) AD)) AD))))))) Az)
      (AG (Ai 8 (AL AW (AB 6) (deM AM hr (AA (AB 0) (AA (Ac Bq rfl B.len wj (AA (AB 6) AD)) AD)))) CA.nd)
      (AG (Ai 9 (AX AZ AF (deM AM hr (AA (AB 0) (AA (Ac (PF rfl) rfl B.min boot_min (AA (AL AW (AL AW (AB 3) (AB 8)) AF) (AA AF AD))) AD)))) CA.nd)
      (AG (CF (Av LH (AB 7) AF) (AG (CW [3,8] 1 ["_law_loads","_law_load","_law_at"] rfl CA.nd rfl rfl QT (DU (AB 6)) (λs H fp=>⟨Ah 2 Qm,Jz (DW.dt (KC (Av (MD hu) (AB 2) (AB 1)) (IQ (Av (Bn hu) (AL AW (AL AW (AB 0) (AB 2)) AF) (AL AW (AL AW (AB 0) (AB 1)) AF))))),AB 2⟩))
      (AK (CF (Av (MD hu) (AB 10) (BJ AD)) (AK (AR (A6 (AA A9 (AA (AB 8) (AA (AL AW (AB 10) (deM AM hr (AA (AB 0) (AA (Ac Bq rfl B.len wj (AA (AB 10) AD)) AD)))) AD)))))) Az))) Az)
      (AG (CF (DW.dt (KC (Av LH (AB 7) AF) (IQ (Av NC (AL AW (AB 1) AF) AF)))) (AG (Ai 11 (AX IW (AX AZ (AX AZ (AL AW (AL AW (AB 3) (AB 8)) AF) AF) (deM AM hr (AA (AB 0) (AA (AX Fj (AL AW (AB 1) AF) AF) AD)))) (AL AW (AB 1) AF)) CA.nd)
      (AG (CW [5] 1 ["_law_numbers","_law_number"] rfl CA.nd rfl rfl RQ (Fm rfl B.range (AA AF AD)) (λs H fp=>⟨Ah 1 Q1,Jz (Av SH (AB 1) (AB 0)),AB 1⟩))
      (AG (CF (DW.dt (KC (Av (Bn hu) (AB 7) AF) (IQ (Av (MD hu) (AB 12) (BJ AD))))) (AK (AR (A6 (AA A9 (AA (AL AW (AB 12) (deM AM hr (AA (AB 0) (AA (Ac Bq rfl B.len wj (AA (AB 12) AD)) AD)))) (AA (AB 8) (AA (AB 9) (AA (AB 11) (AA (deM Ba hr (AA (AB 0) AD)) AD))))))))) Az)
      (AK (AR (A6 (AA A9 (AA (AB 8) (AA (AB 9) (AA (AB 11) (AA (deM Ba hr (AA (AB 0) AD)) AD))))))))))) Az)
      (AG (CF (Av (Bn hu) (AB 7) AF) (AK (AR (A6 (AA A9 (AA (AB 8) (AA (AB 9) AD)))))) Az)
      (AG (CF (DW.dt (KC (Av (Bn hu) (AB 7) AF) (IQ (Av NC (AL AW (AB 1) AF) AF)))) (AG (Ai 13 (deM AM hr (AA (AB 0) (AA (AL AW (AB 1) AF) AD))) CA.nd)
      (AK (AR (A6 (AA A9 (AA (AB 13) (AA (AX IW (AX AZ (AX AZ (AB 13) AF) (deM AM hr (AA (AB 0) (AA (AX Fj (AL AW (AB 1) AF) AF) AD)))) (AL AW (AB 1) AF)) (AA (deM Hc hr (AA (AB 0) AD)) AD)))))))) Az)
      (AK (AR (A6 (AA A9 (AA (AB 8) (AA (AB 9) (AA (deM DB hr (AA (AB 0) (AA (AX AZ (AL AW (AB 1) AF) AF) AD))) AD)))))))))))))))))
theorem Fx:AQ ["_law_pen_here","_law_most","_law_train_here","_law_first_here","_law_state","_law_deeds","_law_k","_law_deed_here"] ["_law_pen_here","_law_most"] (AH F3):=scM
theorem RO:Af ["_law_pen_here","_law_most","_law_train_here","_law_first_here","_law_state","_law_deeds","_law_k","_law_deed_here"] (AH F3) ["_law_one"] (ixC [] 1) (MN F3 0):=csM
theorem Qw:(["_law_one"]:Gc Str).Nodup:=by decide+kernel
theorem IZ  (S:St.Src K mg "_law_book" F3)(B:Bts mg)(AM:CM P w K mg base)(Hb:O7 P w K mg base)(Ha:Oj P w K mg base)(CP:Ja P w K mg base)(EY:Nh P w K mg base)(Ib:QA P w K mg base):QD P w K mg base:=by
 refine dfM 7 S Fx λhr hu=>?_
 exact(AG (Ai 2 (deM Hb hr (AA (AB 0) AD)) Fx.nd)
      (AG (Ai 3 (deM Ha hr (AA (AB 0) (AA (AB 2) AD))) Fx.nd)
      (AG (KI (i:=4) (j:=5) rfl Fx.nd rfl rfl (by decide) rfl rfl (deM CP hr (AA (A6 (AA (AB 2) (AA (AB 3) (AA (A6 AD) AD)))) AD)) (BJ AD))
      (AG (FA uu rfl (Fm rfl B.range (AA (deM AM hr (AA (AB 0) (AA (AX AZ (AB 1) AF) AD))) AD)) (Ah 6 Fx.nd) (AG (Ai 7 (deM Ib hr (AA (AB 0) (AA (AB 2) (AA (AB 4) AD)))) Fx.nd)
      (AK (CF (DW.dt (Zt (Av (MD hu) (AL AW (AB 7) AF) A9) (U9 (Av LH (Ac Bq rfl B.len wj (AA (Dp [] 1 ["_law_one"] rfl RO (DU (AB 5)) (λs H fp=>⟨Ah 0 Qw,Jz (Av (Bn hu) (AL AW (AB 0) AF) A9),AB 0⟩)) AD)) AF)))) (AG (BV (deM EY hr (AA (AB 2) (AA (AB 4) (AA (AB 7) AD)))))
      (AK (BV (IH uq uv F5 (AB 5) (AA (AB 7) AD))))) Az))))
      (AK (AR (A6 (AA (AB 2) (AA (AB 3) (AA (An BD rfl B.tuple vU (AA (AB 5) AD)) AD))))))))))
theorem G5:AQ ["_law_book_here","_law_state","_law_found","_law_deed_here"] ["_law_book_here"] (AH Cg):=scM
theorem Ob:Af ["_law_book_here","_law_state","_law_found","_law_deed_here"] (AH Cg) ["_law_load"] (ixC [] 1) (MN Cg 0):=csM
theorem O8:(["_law_load"]:Gc Str).Nodup:=by decide+kernel
theorem N6:Af ["_law_book_here","_law_state","_law_found","_law_deed_here"] (AH Cg) ["_law_load"] (ixC [] 1) (MN Cg 1):=csM
theorem N3:(["_law_load"]:Gc Str).Nodup:=by decide+kernel
theorem GV  (S:St.Src K mg "_law_states" Cg)(B:Bts mg)(CP:Ja P w K mg base)(EY:Nh P w K mg base):NS P w K mg base:=by
 refine dfM 7 S G5 λhr hu=>?_
 exact(AG (Ai 1 (deM CP hr (AA (AB 0) AD)) G5.nd)
      (AG (Ai 2 (BJ (AA (A6 (AA (Dp [] 1 ["_law_load"] rfl Ob (DU (AL AW (AB 1) AF)) (λs H fp=>⟨Ah 0 O8,Cn,An BD rfl B.tuple vU (AA (AB 0) AD)⟩)) (AA (An BD rfl B.tuple vU (AA (AL AW (AB 1) AF) AD)) AD))) AD)) G5.nd)
      (AG (FA uu rfl (DU (AL AW (AB 0) AF)) (Ah 3 G5.nd) (AG (BV (deM EY hr (AA (AL AW (AB 0) AF) (AA (AB 1) (AA (AB 3) AD)))))
      (AK (BV (IH uq uv F5 (AB 2) (AA (A6 (AA (Dp [] 1 ["_law_load"] rfl N6 (DU (AL AW (AB 1) AF)) (λs H fp=>⟨Ah 0 N3,Cn,An BD rfl B.tuple vU (AA (AB 0) AD)⟩)) (AA (An BD rfl B.tuple vU (AA (AL AW (AB 1) AF) AD)) AD))) AD))))))
      (AK (AR (AB 2))))))
end
section
open PyProof.Rows (boot_isinstance boot_int boot_bool boot_tuple boot_str boot_list boot_abs boot_all boot_any boot_sum boot_max boot_min boot_range boot_enumerate boot_zip boot_sorted boot_set boot_divmod)
variable{P:ug}{w:vG}{K:KE}{mg:Str->uD Wp}{base:ux}
theorem BN:AQ ["_law_pen_here","_law_most","_law_train_here","_law_first_here","_law_deeds","_law_state","_law_deed_here","_law_turn_here","_law_full","_law_load","_law_some"] ["_law_pen_here","_law_most"] (AH Cb):=scM
theorem Oz:Af ["_law_pen_here","_law_most","_law_train_here","_law_first_here","_law_deeds","_law_state","_law_deed_here","_law_turn_here","_law_full","_law_load","_law_some"] (AH Cb) ["_law_deed_here"] (ixC [] 1) (MN Cb 0):=csM
theorem OM:(["_law_deed_here"]:Gc Str).Nodup:=by decide+kernel
theorem Oi:Af ["_law_pen_here","_law_most","_law_train_here","_law_first_here","_law_deeds","_law_state","_law_deed_here","_law_turn_here","_law_full","_law_load","_law_some"] (AH Cb) ["_law_at","_law_load"] (ixC [] 2) (MN Cb 1):=csM
theorem Kf:(["_law_at","_law_load"]:Gc Str).Nodup:=by decide+kernel
theorem Ga  (S:St.Src K mg "_law_thrown" Cb)(B:Bts mg)(AM:CM P w K mg base)(Ba:IG P w K mg base)(DB:J8 P w K mg base)(CP:Ja P w K mg base)(EY:Nh P w K mg base)(IZ:QD P w K mg base):NJ P w K mg base:=by
 refine dfM 8 S BN λhr hu=>?_
 exact(AG (HX (deM IZ hr (AA (AB 0) (AA (AB 1) AD))) (FC rfl (AO (Ah 2 BN.nd) (AO (Ah 3 BN.nd) (AO (Ah 4 BN.nd) Bg)))))
      (AG (Ai 5 (deM CP hr (AA (A6 (AA (AB 2) (AA (AB 3) (AA (AB 4) AD)))) AD)) BN.nd)
      (AG (FA uu rfl (DU (AB 4)) (Ah 6 BN.nd) (AK (BV (deM EY hr (AA (AB 2) (AA (AB 5) (AA (AB 6) AD)))))))
      (AG (Ai 4 (An Fv rfl B.list xZ (AA (AB 4) AD)) BN.nd)
      (AG (FA uu rfl (Fm rfl B.range (AA (AX Fj AF (Ac Bq rfl B.len wj (AA (Dp [] 1 ["_law_deed_here"] rfl Oz (DU (AB 4)) (λs H fp=>⟨Ah 0 OM,Jz (Av (Bn hu) (AL AW (AB 0) AF) A9),AB 0⟩)) AD))) AD)) (Ah 7 BN.nd) (AG (CW [] 2 ["_law_at","_law_load"] rfl BN.nd rfl rfl Oi (SR rfl B.enumerate (AL AW (AB 5) AF)) (λs H fp=>⟨FC rfl (AO (Ah 0 Kf) (AO (Ah 1 Kf) Bg)),Jz (Av NC (AL AW (AB 1) AF) AF),AB 0⟩))
      (AG (Ai 6 (A6 (AA A9 (AA (deM AM hr (AA (AB 0) (AA (AL AW (AB 2) AF) AD))) (AA (deM AM hr (AA (AB 0) (AA (AL AW (AB 2) AF) AD))) (AA (deM Ba hr (AA (AB 0) AD)) AD))))) BN.nd)
      (AG (CF (Av (MD hu) (AB 8) (BJ AD)) (AG (Ai 9 (AL AW (AB 8) (deM AM hr (AA (AB 0) (AA (Ac Bq rfl B.len wj (AA (AB 8) AD)) AD)))) BN.nd)
      (AG (Ai 10 (AL AW (BJ (AA (AX AZ AF (deM AM hr (AA (AB 0) (AA (Ac (PF rfl) rfl B.min boot_min (AA (AL AW (AL AW (AL AW (AB 5) AF) (AB 9)) AF) (AA AF AD))) AD)))) (AA (AL AW (AL AW (AL AW (AB 5) AF) (AB 9)) AF) AD))) (deM AM hr (AA (AB 0) (AA AF AD)))) BN.nd)
      (AK (Ai 6 (A6 (AA A9 (AA (AB 9) (AA (AB 10) (AA (deM DB hr (AA (AB 0) (AA (AX AZ (AL AW (AB 2) AF) AF) AD))) AD))))) BN.nd)))) Az)
      (AG (BV (deM EY hr (AA (AB 2) (AA (AB 5) (AA (AB 6) AD)))))
      (AK (BV (IH uq uv F5 (AB 4) (AA (AB 6) AD)))))))))
      (AK (AR (A6 (AA (AB 2) (AA (AB 3) (AA (An BD rfl B.tuple vU (AA (AB 4) AD)) AD)))))))))))
theorem NM:AQ ["_law_train_here","_law_loads","_law_owners","_law_worths_here","_law_partner","_law_some"] ["_law_train_here","_law_loads","_law_owners","_law_worths_here","_law_partner"] (AH Ed):=scM
theorem PV:Af ["_law_train_here","_law_loads","_law_owners","_law_worths_here","_law_partner","_law_some"] (AH Ed) ["_law_worths_here","_law_partner","_law_kind","_law_pieces_here","_law_shares"] (ixC [3,4] 3) (MN Ed 0):=csM
theorem IP:(["_law_worths_here","_law_partner","_law_kind","_law_pieces_here","_law_shares"]:Gc Str).Nodup:=by decide+kernel
theorem Ft  (S:St.Src K mg "_law_worth" Ed)(BF:HI P w K mg base)(KW:Rw P w K mg base):N9 P w K mg base:=by
 refine dfM 4 S NM λhr hu=>?_
 exact(AG (CW [3,4] 3 ["_law_worths_here","_law_partner","_law_kind","_law_pieces_here","_law_shares"] rfl NM.nd rfl rfl PV (DU (AB 1)) (λs H fp=>⟨FC rfl (AO (Ah 2 IP) (AO (Ah 3 IP) (AO (Ah 4 IP) Bg))),Cn,deM BF hr (AA (A6 (AA (AX Ap (AB 3) (AL AW (AB 0) (AB 2))) (AA AF AD))) (AA (AL AW (AB 4) (AB 1)) AD))⟩))
      (AK (AR (deM KW hr (AA (AX AZ (AB 5) (BJ (AA (deM BF hr (AA (A6 (AA (AX Ap (AL AW (AB 0) AF) (AL AW (AB 3) (NV Gp AF))) (AA AF AD))) (AA (AL AW (AB 2) (AB 4)) AD))) AD))) AD)))))
theorem ER:AQ ["_law_book_here","_law_at","_law_states_here","_law_worths_here","_law_found","_law_partner","_law_ahead"] ["_law_book_here","_law_at"] (AH FG):=scM
theorem Fb  (S:St.Src K mg "_law_bearing" FG)(B:Bts mg)(GV:NS P w K mg base)(Ft:N9 P w K mg base):Lr P w K mg base:=by
 refine dfM 8 S ER λhr hu=>?_
 exact(AG (KI (i:=2) (j:=3) rfl ER.nd rfl rfl (by decide) rfl rfl (deM GV hr (AA (AB 0) AD)) (AL AW (AL AW (AL AW (AB 0) AF) (AB 1)) AF))
      (AG (Ai 4 (BJ AD) ER.nd)
      (AG (FA uu rfl (Fm rfl B.range (AA (AL AW (AL AW (AB 0) AF) AF) AD)) (Ah 5 ER.nd) (AG (Ai 6 (deM Ft hr (AA (AL AW (AB 0) AF) (AA (AL AW (AL AW (AB 2) (AB 1)) AF) (AA (AL AW (AL AW (AB 2) (AB 1)) AF) (AA (AB 3) (AA (AB 5) AD)))))) ER.nd)
      (AK (BV (IH uq uv F5 (AB 4) (AA (A6 (AA (AB 6) (AA (deM Ft hr (AA (AL AW (AB 0) AF) (AA (AL AW (AL AW (AB 2) (AX AZ (AB 1) AF)) AF) (AA (AL AW (AL AW (AB 2) (AX AZ (AB 1) AF)) AF) (AA (AB 3) (AA (AB 5) AD)))))) AD))) AD))))))
      (AK (AR (An BD rfl B.tuple vU (AA (AB 4) AD)))))))
theorem J9:AQ ["_law_pen_here","_law_deep","_law_way","_law_parts"] ["_law_pen_here","_law_deep"] (AH Ej):=scM
theorem Pj:Af ["_law_pen_here","_law_deep","_law_way","_law_parts"] (AH Ej) ["_law_pen_here","_law_deep","_law_k"] (ixC [0,1] 1) (MN Ej 0):=csM
theorem Pg:(["_law_pen_here","_law_deep","_law_k"]:Gc Str).Nodup:=by decide+kernel
theorem Bw  (S:St.Src K mg "_law_thing" Ej)(B:Bts mg)(AM:CM P w K mg base):∀n:Nat,n<=8->St.Dfn P w K mg base "_law_thing" (2+n) ["_law_pen_here","_law_deep"] (spD K 2 (Al n))
 |0,_=>Lw S (λf fd F=>F.binds λ_ _ _ _ _ _ us hl=>match us,hl with| [_,_],_=>rfl)
 |n+1,hn=>by
  have Bw:=Bw S B AM n (by omega)
  refine dfM (2+n) S J9 λhr hu=>?_
  exact(AG (Ai 2 (deM AM hr (AA (AB 0) (AA AF AD))) J9.nd)
   (AG (CF (DW.dt (Zt (Av LH (AB 2) AF) (U9 (Av (Bn hu) (AB 1) AF)))) (AK (AR (AL AW (BJ (AA Ln (AA UL (AA UL (AA AF (AA AF (AA (NV Gp AF) (AA AF (AA (AX RA AF AF) (AA A9 (AA A9 (AA (A6 AD) (AA (BJ AD) AD))))))))))))) (deM AM hr (AA (AB 0) (AA AF AD)))))) Az)
   (AG (CW [0,1] 1 ["_law_pen_here","_law_deep","_law_k"] rfl J9.nd rfl rfl Pj (Fm rfl B.range (AA (deM AM hr (AA (AB 0) (AA AF AD))) AD)) (λs H fp=>⟨Ah 2 Pg,Cn,deM Bw hr (AA (AB 0) (AA (AX Fj (AB 1) AF) AD))⟩))
   (AG (CF (Av (Bn hu) (AB 2) AF) (AK (AR (AB 3))) Az)
   (AG (CF (Av (Bn hu) (AB 2) AF) (AK (AR (kE (aC A9 (AB 3) gB) (List.cons_ne_nil _ _) (by decide)))) Az)
   (AK (AR (An BD rfl B.tuple vU (AA (AB 3) AD)))))))))
theorem JH:AQ ["_law_pen_here","_law_thing_here","_law_at","_law_way"] ["_law_pen_here","_law_thing_here"] (AH GH):=scM
theorem DA  (S:St.Src K mg "_law_spoilt" GH)(B:Bts mg)(AM:CM P w K mg base)(Bw:OD P w K mg base 8):∀n:Nat,n<=8->St.Dfn P w K mg base "_law_spoilt" (11+n) ["_law_pen_here","_law_thing_here"] (spD K 2 (Cd n))
 |0,_=>Lw S (λf fd F=>F.binds λ_ _ _ _ _ _ us hl=>match us,hl with| [_,_],_=>rfl)
 |n+1,hn=>by
  have DA:=DA S B AM Bw n (by omega)
  refine dfM (11+n) S JH λhr hu=>?_
  exact(AG (CF (DW.dt (KC (JD (Ac Bz rfl B.isi vO (AA (AB 1) (AA (Jw rfl B.tuple vU) AD)))) (KC (Av (MD hu) (AB 1) (A6 AD)) (IQ (Av NC (deM AM hr (AA (AB 0) (AA AF AD))) AF))))) (AG (Ai 2 (deM AM hr (AA (AB 0) (AA (Ac Bq rfl B.len wj (AA (AB 1) AD)) AD))) JH.nd)
   (AK (AR (AX AZ (AX AZ (IT (AB 1) (AB 2)) (A6 (AA (deM DA hr (AA (AB 0) (AA (AL AW (AB 1) (AB 2)) AD))) AD))) (JJ (AB 1) (AX AZ (AB 2) AF)))))) Az)
   (AG (Ai 3 (deM AM hr (AA (AB 0) (AA AF AD))) JH.nd)
   (AG (CF (DW.dt (KC (JD (Ac Bz rfl B.isi vO (AA (AB 1) (AA (Jw rfl B.tuple vU) AD)))) (IQ (Av LH (AB 3) AF)))) (AK (AR (AL AW (BJ (AA (AX AZ (AB 1) (JJ (AB 1) (NV Gp AF))) (AA (IT (AB 1) (NV Gp AF)) (AA (An Fv rfl B.list xZ (AA (AB 1) AD)) (AA (cj (AB 1)) AD))))) (AB 3)))) Az)
   (AG (CF (DW.dt (KC (JD (Ac Bz rfl B.isi vO (AA (AB 1) (AA (Jw rfl B.int AAA) AD)))) (IQ (Av LH (AB 3) AF)))) (AK (AR (AL AW (BJ (AA (AX AZ (AB 1) AF) (AA (AX Fj (AB 1) AF) (AA (Es NC (AB 1) AF) (AA (An Wb rfl B.str boot_str (AA (AB 1) AD)) AD))))) (AB 3)))) Az)
   (AG (CF (DW.dt (KC (JD (Ac Bz rfl B.isi vO (AA (AB 1) (AA (Jw rfl B.str boot_str) AD)))) (IQ (Av LH (AB 3) AF)))) (AK (AR (AL AW (BJ (AA (AX AZ (AB 1) A9) (AA (bM (AB 1)) (AA (IT (AB 1) (NV Gp AF)) (AA (AX AZ A9 (AB 1)) AD))))) (AB 3)))) Az)
   (AK (AR (deM Bw hr (AA (AB 0) (AA AF AD))))))))))
theorem UC:AQ ["_law_one","_law_other"] ["_law_one","_law_other"] (AH F1):=scM
theorem Ql:Af ["_law_one","_law_other"] (AH F1) ["_law_a","_law_b"] (ixC [] 2) (MN F1 0):=csM
theorem L0:(["_law_a","_law_b"]:Gc Str).Nodup:=by decide+kernel
theorem E5  (S:St.Src K mg "_law_same" F1)(B:Bts mg):∀n:Nat,n<=8->St.Dfn P w K mg base "_law_same" (1+n) ["_law_one","_law_other"] (spD K 2 (EE n))
 |0,_=>Lw S (λf fd F=>F.binds λ_ _ _ _ _ _ us hl=>match us,hl with| [_,_],_=>rfl)
 |n+1,hn=>by
  have E5:=E5 S B n (by omega)
  refine dfM (1+n) S UC λhr hu=>?_
  exact(AG (CF (DW.dt (KC (JD (Ac Bz rfl B.isi vO (AA (AB 0) (AA (Jw rfl B.tuple vU) AD)))) (IQ (JD (Ac Bz rfl B.isi vO (AA (AB 1) (AA (Jw rfl B.tuple vU) AD))))))) (AK (AR (GX (Es (WH hu) (Ac Bq rfl B.len wj (AA (AB 0) AD)) (Ac Bq rfl B.len wj (AA (AB 1) AD))) (HF (Ac (SM rfl) rfl B.all boot_all (AA (Dp [] 2 ["_law_a","_law_b"] rfl Ql (QB rfl B.zip (AB 0) (AB 1)) (λs H fp=>⟨FC rfl (AO (Ah 0 L0) (AO (Ah 1 L0) Bg)),Cn,deM E5 hr (AA (AB 0) (AA (AB 1) AD))⟩)) AD)))))) Az)
   (AK (AR (GX (Es (WH hu) (Ac Bz rfl B.isi vO (AA (AB 0) (AA (Jw rfl B.bool AA6) AD))) (Ac Bz rfl B.isi vO (AA (AB 1) (AA (Jw rfl B.bool AA6) AD)))) (HF (Es (WH hu) (AB 0) (AB 1)))))))
end
section
open PyProof.Rows (boot_isinstance boot_int boot_bool boot_tuple boot_str boot_list boot_abs boot_all boot_any boot_sum boot_max boot_min boot_range boot_enumerate boot_zip boot_sorted boot_set boot_divmod)
variable{P:ug}{w:vG}{K:KE}{mg:Str->uD Wp}{base:ux}
theorem CT:AQ ["_law_pen_here","_law_due","_law_at","_law_way","_law_ahead","_law_now","_law_pairs"] ["_law_pen_here","_law_due"] (AH Dg):=scM
theorem Dr  (S:St.Src K mg "_law_otherwise" Dg)(B:Bts mg)(AM:CM P w K mg base):Kl P w K mg base:=by
 refine dfM 1 S CT λhr hu=>?_
 exact(AG (KI (i:=2) (j:=3) rfl CT.nd rfl rfl (by decide) rfl rfl (deM AM hr (AA (AB 0) (AA (Ac Bq rfl B.len wj (AA (AB 1) AD)) AD))) (deM AM hr (AA (AB 0) (AA AF AD))))
      (AG (HX (AL AW (AB 1) (AB 2)) (FC rfl (AO (Ah 4 CT.nd) (AO (Ah 5 CT.nd) Bg))))
      (AG (Ai 6 (BJ (AA (A6 (AA (AB 4) (AA (A6 (AA (AX AZ (AL AW (AB 5) AF) AF) (AA (AL AW (AB 5) AF) AD))) AD))) (AA (A6 (AA (A6 (AA (AX Ap AF (AL AW (AB 4) AF)) (AA (AX Ap AF (AL AW (AB 4) AF)) AD))) (AA (AB 5) AD))) (AA (A6 (AA (AB 5) (AA (AB 4) AD))) (AA (A6 (AA (AB 4) AD)) (AA (BJ (AA (AB 4) (AA (AB 5) AD))) AD)))))) CT.nd)
      (AG (Ai 6 (AX AZ (AB 6) (BJ (AA (A6 (AA (AB 4) (AA (An Fv rfl B.list xZ (AA (AB 5) AD)) AD))) (AA (A6 (AA (AB 4) (AA (AB 5) (AA (AB 5) AD)))) AD)))) CT.nd)
      (AG (CF (Av (Bn hu) (AB 3) AF) (AK (AR (AL AW (BJ (AA (AX AZ (IT (AB 1) (AB 2)) (JJ (AB 1) (AX AZ (AB 2) AF))) (AA (AX AZ (AB 1) (IT (AB 1) AF)) (AA (An Fv rfl B.list xZ (AA (AB 1) AD)) (AA (cj (AB 1)) AD))))) (deM AM hr (AA (AB 0) (AA AF AD)))))) Az)
      (AK (AR (AX AZ (AX AZ (IT (AB 1) (AB 2)) (A6 (AA (AL AW (AB 6) (AB 3)) AD))) (JJ (AB 1) (AX AZ (AB 2) AF))))))))))
theorem MK:AQ ["_law_book_here","_law_place","_law_due","_law_words"] ["_law_book_here","_law_place","_law_due"] (AH B3):=scM
theorem PB:Ko ["_law_book_here","_law_place","_law_due","_law_words"] (AH B3) ["_law_book_here","_law_place"] [0,1] (mz B3 0):=lsM
theorem ON:Ko ["_law_book_here","_law_place","_law_due","_law_words"] (AH B3) ["_law_book_here","_law_place"] [0,1] (mz B3 1):=lsM
theorem Ot:Ko ["_law_book_here","_law_place","_law_due","_law_words"] (AH B3) ["_law_book_here","_law_place"] [0,1] (mz B3 2):=lsM
theorem Gh  (S:St.Src K mg "_law_all_so" B3)(bm:BmB mg base)(S_law_word:St.Src K mg "_law_word" Ia)(HY:Oo P w K mg base)(Hj:OL P w K mg base)(Bc:Fw P w K mg base)(FL:XmD K mg ["NoThrow"] "NoThrow")(Hi:OU P w K mg base)(HR:OO P w K mg base)(Cy:Ii P w K mg base):NF P w K mg base:=by
 refine dfL 13 S MK λci hr hu=>?_
 exact(AG (Ai 3 (BJ (AA (WM (k:=7) S_law_word LJ PB ci bm (hr.mono (by decide)) rfl (λf c' clos A outer s H hr=>(deM HY hr (AA (AB 0) (AA (AB 1) AD)))) (λf c' clos A outer s H hr=>(Md Hi (hr.mono (by decide)) rfl (AA (AB 0) (AA (AB 1) AD)))) (λ_ _ _ _ _ _=>(UM FL rfl (λ_=>AK (AR A9)) Xs)) (λ_ _ _ _ _ _=>A9)) AD)) MK.nd)
      (AG (BV (IH uq uv F5 (AB 3) (AA (WM (k:=10) S_law_word LJ ON ci bm (hr.mono (by decide)) rfl (λf c' clos A outer s H hr=>(deM Hj hr (AA (AB 0) (AA (AB 1) AD)))) (λf c' clos A outer s H hr=>(Md HR (hr.mono (by decide)) rfl (AA (AB 0) (AA (AB 1) AD)))) (λ_ _ _ _ _ _=>(UM FL rfl (λ_=>AK (AR A9)) Xs)) (λ_ _ _ _ _ _=>A9)) AD)))
      (AG (BV (IH uq uv F5 (AB 3) (AA (WM (k:=10) S_law_word LJ Ot ci bm (hr.mono (by decide)) rfl (λf c' clos A outer s H hr=>(deM Bc hr (AA (AB 0) (AA (AB 1) (AA Ln AD))))) (λf c' clos A outer s H hr=>(Md Cy (hr.mono (by decide)) rfl (AA (AB 0) (AA (AB 1) (AA Ln AD))))) (λ_ _ _ _ _ _=>(UM FL rfl (λ_=>AK (AR A9)) Xs)) (λ_ _ _ _ _ _=>A9)) AD)))
      (AK (AR (Es (Bn hu) (AB 3) (AX Ap (BJ (AA (AB 2) AD)) AF)))))))
theorem EB:AQ ["_law_script","_law_k","_law_pen_here","_law_book_here","_law_places","_law_rows","_law_at","_law_due","_law_things","_law_thing_here","_law_found","_law_place","_law_good"] ["_law_script"] (AH Gn):=scM
theorem V3:Af ["_law_script","_law_k","_law_pen_here","_law_book_here","_law_places","_law_rows","_law_at","_law_due","_law_things","_law_thing_here","_law_found","_law_place","_law_good"] (AH Gn) ["_law_at","_law_deed_here"] (ixC [] 2) (MN Gn 0):=csM
theorem QP:(["_law_at","_law_deed_here"]:Gc Str).Nodup:=by decide+kernel
theorem Vz:Af ["_law_script","_law_k","_law_pen_here","_law_book_here","_law_places","_law_rows","_law_at","_law_due","_law_things","_law_thing_here","_law_found","_law_place","_law_good"] (AH Gn) ["_law_book_here","_law_at"] (ixC [3] 1) (MN Gn 1):=csM
theorem VW:(["_law_book_here","_law_at"]:Gc Str).Nodup:=by decide+kernel
theorem Vv:Af ["_law_script","_law_k","_law_pen_here","_law_book_here","_law_places","_law_rows","_law_at","_law_due","_law_things","_law_thing_here","_law_found","_law_place","_law_good"] (AH Gn) ["_law_pen_here","_law_due","_law_turn_here"] (ixC [2,7] 1) (MN Gn 2):=csM
theorem V1:(["_law_pen_here","_law_due","_law_turn_here"]:Gc Str).Nodup:=by decide+kernel
end
theorem nr{α:Sort _}{a b:α}(h:a=b):a=b:=h
@[simp high] theorem Bx{α β:Type}(a:α)(f:α->Option β):(some a).bind f=f a:=Eq.mp (congrArg (λz=>z=f a) rfl) (Eq.refl (f a))
@[simp high] theorem pI{α β:Type}(a:α)(f:α->β):(some a).map f=some (f a):=Eq.mp (congrArg (λz=>z=some (f a)) rfl) (Eq.refl (some (f a)))
section
variable{E:En}{S:Sto}{op:OpN}{f g c:Ev}{d:D}{i:Nat}{w:Wv}{a b e h r':D}{r:Gc D}{fs:Gc Ev}
@[simp] theorem tS{o:Option D}{E:En}:at? (o::E) 0=o:=nr rfl
@[simp] theorem tq{o:Option D}{E:En}{i:Nat}:at? (o::E) (i+1)=at? E i:=nr rfl
@[simp] theorem qo:eC d E S=some (d,S):=nr rfl
@[simp] theorem qM:eV i E S=(at? E i).map λd=>(d,S):=nr rfl
@[simp] theorem gg:evs [] E S=some ([],S):=nr rfl
@[simp] theorem EU:evs (f::fs) E S=(f E S).bind λr=>(evs fs E r.2).map λq=>(r.1::q.1,q.2):=nr rfl
@[simp] theorem Xb{cf:Bool}:RT cf op fs E S=(evs fs E S).bind λr=>(op (r.1.map (dr r.2))).bind λw=>fin cf w r.2:=nr rfl
@[simp] theorem sV{cf:Bool}:fin cf (.val d) S=some (d,S):=by cases cf<;>rfl
@[simp] theorem sP:fin false (.own r) S=some (.lst r,S):=nr rfl
@[simp] theorem rg:fin true (.own r) S=some (.ref S.length,S++[.lst r]):=nr rfl
@[simp] theorem pk:dr S .non=.val .non:=nr rfl
@[simp] theorem rW{b:Bool}:dr S (.bl b)=.val (.bl b):=nr rfl
@[simp] theorem qc{i:Int}:dr S (.int i)=.val (.int i):=nr rfl
@[simp] theorem qR{x:Str}:dr S (.str x)=.val (.str x):=nr rfl
@[simp] theorem rE{x:String}:dr S (.ty x)=.val (.ty x):=nr rfl
@[simp] theorem qD:dr S (.tup r)=.val (.tup r):=nr rfl
@[simp] theorem qf:dr S (.lst r)=.val (.lst r):=nr rfl
@[simp] theorem qu{ns:List Int}:dr S (.scr ns)=.val (.scr ns):=nr rfl
@[simp] theorem qt{ns:List (Key×D)}:dr S (.dct ns)=.val (.dct ns):=nr rfl
theorem BE{n:Nat}(h:S[n]?=Fk (.lst r)):dr S (.ref n)=.own r:=by
 show(match S[n]? with|some (.lst ds)=>Wv.own ds|_=>.val (.ref n))=_
 rw[h]
theorem AY{n:Nat}(h:S[n]?=Fk (.lst r)):Gj S n=Fk r:=by
 unfold Gj
 rw[h]
@[simp] theorem qX:fz (.val d)=d:=nr rfl
@[simp] theorem qL:fz (.own r)=.lst r:=nr rfl
noncomputable def nK(g:Ev)(E:En)(r:D×Sto):uD (D×Sto):=match r.1 with| .bl true=>g E r.2| .bl false=>Fk (.bl false,r.2)|_=>uC
noncomputable def orK(g:Ev)(E:En)(r:D×Sto):uD (D×Sto):=match r.1 with| .bl false=>g E r.2| .bl true=>Fk (.bl true,r.2)|_=>uC
noncomputable def pf(r:D×Sto):uD (D×Sto):=match r.1 with| .bl b=>Fk (.bl (!b),r.2)|_=>uC
noncomputable def ifK(f g:Ev)(E:En)(r:D×Sto):uD (D×Sto):=match r.1 with| .bl true=>f E r.2| .bl false=>g E r.2|_=>uC
@[simp] theorem qk:nK g E (.bl true,S)=g E S:=nr rfl
@[simp] theorem qY:nK g E (.bl false,S)=some (.bl false,S):=nr rfl
@[simp] theorem rO:orK g E (.bl false,S)=g E S:=nr rfl
@[simp] theorem sZ:orK g E (.bl true,S)=some (.bl true,S):=nr rfl
@[simp] theorem qz{b:Bool}:pf (.bl b,S)=some (.bl (!b),S):=nr rfl
@[simp] theorem rB:ifK f g E (.bl true,S)=f E S:=nr rfl
@[simp] theorem rX:ifK f g E (.bl false,S)=g E S:=nr rfl
@[simp] theorem lY:Hs f g E S=(f E S).bind (nK g E):=nr rfl
@[simp] theorem T9:eOr f g E S=(f E S).bind (orK g E):=nr rfl
@[simp] theorem mM:Tg f E S=(f E S).bind pf:=nr rfl
@[simp] theorem oD:eIf c f g E S=(c E S).bind (ifK f g E):=nr rfl
@[simp] theorem lC:Cm fs E S=(evs fs E S).bind λr=>if r.1.length<=sizeLine then some (.tup r.1,r.2)else none:=nr rfl
@[simp] theorem lZ{cf:Bool}:bZ cf fs E S=(evs fs E S).bind λr=>if r.1.length<=sizeLine then fin cf (.own r.1) r.2 else none:=nr rfl
@[simp] theorem iO{F:Fn}:AJ F fs E S=(evs fs E S).bind λr=>F r.1 r.2:=nr rfl
noncomputable def qW(op:Mo)(fs:Gc Ev)(E:En)(r:D×Sto):uD (D×Sto):=match r.1 with
 | .ref n=>(Gj r.2 n).bind λ_=>(evs fs E r.2).bind λp=>(Gj p.2 n).bind λds=>(op p.2 ds p.1).map λq=>(q.1,p.2.set n (.lst q.2))
 |_=>uC
@[simp] theorem mX{op:Mo}{n:Nat}:qW op fs E (.ref n,S)=(Gj S n).bind λ_=>(evs fs E S).bind λp=>(Gj p.2 n).bind λds=>(op p.2 ds p.1).map λq=>(q.1,p.2.set n (.lst q.2)):=nr rfl
@[simp] theorem mh{op:Mo}:Le op f fs E S=(f E S).bind (qW op fs E):=nr rfl
@[simp] theorem mR:L9 S r [d]=if r.length<sizeLine then some (.non,r++[d])else none:=nr rfl
variable{x y:Ex}
noncomputable def jh(y:Ex)(r:Fl×En×Sto):uD (Fl×En×Sto):=match r.1 with| .nx=>y r.2.1 r.2.2| .ret w=>Fk (.ret w,r.2)
noncomputable def nY(x y:Ex)(E:En)(r:D×Sto):uD (Fl×En×Sto):=match r.1 with| .bl true=>x E r.2| .bl false=>y E r.2|_=>uC
@[simp] theorem OV:jh y (.nx,E,S)=y E S:=nr rfl
@[simp] theorem lA{w:D}:jh y (.ret w,E,S)=some (.ret w,E,S):=nr rfl
@[simp] theorem qQ:nY x y E (.bl true,S)=x E S:=nr rfl
@[simp] theorem qH:nY x y E (.bl false,S)=y E S:=nr rfl
@[simp] theorem IF:Aa x y E S=(x E S).bind (jh y):=nr rfl
@[simp] theorem lQ:D5 E S=some (.nx,E,S):=nr rfl
@[simp] theorem O4:xIf c x y E S=(c E S).bind (nY x y E):=nr rfl
@[simp] theorem mr:BI f E S=(f E S).map λr=>(.ret r.1,E,r.2):=nr rfl
@[simp] theorem aM:BQ i f E S=(f E S).map λr=>(.nx,E.set i (some r.1),r.2):=nr rfl
@[simp] theorem Ws:Bm f E S=(f E S).map λr=>(.nx,E,r.2):=nr rfl
noncomputable def pv(d b:D)(E:En)(i:D×Sto):uD (Fl×En×Sto):=match b,i.1 with
 | .ref n,.int j=>(Gj i.2 n).bind λds=>(ixN ds.length j).map λm=>(.nx,E,i.2.set n (.lst (ds.set m d)))
 |_,_=>uC
@[simp] theorem lO{n:Nat}{j:Int}:pv d (.ref n) E (.int j,S)=(Gj S n).bind λds=>(ixN ds.length j).map λm=>(.nx,E,S.set n (.lst (ds.set m d))):=nr rfl
@[simp] theorem mq{k o:Ev}:P2 k f o E S=(k E S).bind λr=>(f E r.2).bind λb=>(o E b.2).bind (pv r.1 b.1 E):=nr rfl
@[simp] theorem mn{t:Tf}:Qs t f E S=(f E S).bind λr=>(t r.1 E r.2).map λE'=>(.nx,E',r.2):=nr rfl
@[simp] theorem lh{i j:Nat}:TM i j f g E S=(f E S).bind λr=>(g E r.2).map λq=>(.nx,(E.set i (some r.1)).set j (some q.1),q.2):=by
  unfold TM
  rw[EU]
  cases f E S with
  |none=>rfl
  |some r=>
   rw[Bx,Bx,EU]
   cases g E r.2 with
   |none=>rfl
   |some q=>rfl
@[simp] theorem fN:tNm i d E S=some (E.set i (some d)):=nr rfl
@[simp] theorem oJ{ts:List Tf}{ds:List D}:tTp ts (.tup ds) E S=tMs ts ds E S:=nr rfl
@[simp] theorem oY{ts:List Tf}{ds:List D}:tTp ts (.lst ds) E S=tMs ts ds E S:=nr rfl
@[simp] theorem m8{ts:List Tf}{n:Nat}:tTp ts (.ref n) E S=(Gj S n).bind λds=>tMs ts ds E S:=nr rfl
@[simp] theorem oS:tMs [] [] E S=some E:=nr rfl
@[simp] theorem mI{t:Tf}{ts:List Tf}{ds:List D}:tMs (t::ts) (d::ds) E S=(t d E S).bind λE1=>tMs ts ds E1 S:=nr rfl
@[simp] theorem jw{N:Nat}{ds:List D}:Ar (A3 N x) ds S=(x (ds.map some++List.replicate (N-ds.length) none) S).map λr=>(flD r.1,r.2.2):=by rw[KP];rfl
@[simp] theorem qP:flD .nx=.non:=nr rfl
@[simp] theorem nQ:flD (.ret d)=d:=nr rfl
@[simp] theorem oH{i j:Int}:CJ (.val (.int i)) (.val (.int j))=some (.val (.int (i+j))):=nr rfl
@[simp] theorem nk{xs ys:List D}:CJ (.val (.tup xs)) (.val (.tup ys))=if xs.length+ys.length<=sizeLine then some (.val (.tup (xs++ys)))else none:=nr rfl
@[simp] theorem m9{xs ys:List D}:CJ (.val (.lst xs)) (.val (.lst ys))=if xs.length+ys.length<=sizeLine then some (.own (xs++ys))else none:=nr rfl
@[simp] theorem mS{i j:Int}:CD (.val (.int i)) (.val (.int j))=if DZ i j=true then some (.val (.int (i*j)))else none:=nr rfl
@[simp] theorem lu{k:Int}:CD (.val (.tup r)) (.val (.int k))=if(!r.isEmpty && decide (k<=0) && decide (-(2^63)<=k))=true then some (.val (.tup []))else if(!r.isEmpty && decide (1<=k) && decide (r.length*k.toNat<=sizeLine))=true then some (.val (.tup (List.replicate k.toNat r).flatten))else none:=nr rfl
@[simp] theorem lK{k:Int}:CD (.val (.lst r)) (.val (.int k))=if(decide (k<2^63) && decide (-(2^63)<=k) && decide (r.length*k.toNat<=sizeLine))=true then some (.own (List.replicate k.toNat r).flatten)else none:=nr rfl
@[simp] theorem pT:asS (.own r)=some r:=nr rfl
@[simp] theorem pK:asS (.val (.lst r))=some r:=nr rfl
@[simp] theorem nV:asS (.val (.tup r))=some r:=nr rfl
@[simp] theorem pW{ns:List Int}:asS (.val (.scr ns))=some (ns.map .int):=nr rfl
@[simp] theorem gJ{j:Int}:wIx w (.val (.int j))=(asS w).bind λds=>(atI ds j).map .val:=nr rfl
theorem CH{α:Type}{xs:Gc α}{n:Nat}{x:α}(h:xs[n]?=Fk x):atI xs (n:Int)=Fk x:=eD h
theorem cu{α:Type}{xs:Gc α}{i:Int}(h0:0<=i)(h1:i<xs.length):atI xs i=Fk (xs[i.toNat]'(by lia)):=by
 have:atI xs ((i.toNat:Nat):Int)=Fk (xs[i.toNat]'(by lia)):=CH (W1 (by lia))
 rwa [vP h0]at this
@[simp] theorem sL:atI (a::r) 0=some a:=CH (n:=0) rfl
@[simp] theorem sY:atI (a::b::r) 1=some b:=CH (n:=1) rfl
@[simp] theorem sk:atI (a::b::e::r) 2=some e:=CH (n:=2) rfl
@[simp] theorem rR:atI (a::b::e::h::r) 3=some h:=CH (n:=3) rfl
@[simp] theorem sg{k:D}:atI (a::b::e::h::k::r) 4=some k:=CH (n:=4) rfl
theorem Qa{n k:Nat}(h:k<n):ixN n (k:Int)=Fk k:=by
 unfold ixN
 simp
 lia
theorem Ua{n:Nat}{i:Int}(h0:0<=i)(h1:i<n):ixN n i=Fk i.toNat:=by
 have:=Qa (n:=n) (k:=i.toNat) (by lia)
 rwa [vP h0]at this
@[simp] theorem sx{n:Nat}:ixN (n+1) 0=some 0:=Ua (by decide) (by lia)
@[simp] theorem sW{n:Nat}:ixN (n+2) 1=some 1:=Ua (by decide) (by lia)
@[simp] theorem se{n:Nat}:ixN (n+3) 2=some 2:=Ua (by decide) (by lia)
@[simp] theorem kg{i j:Int}:deq (.int i) (.int j)=(i==j):=nr rfl
@[simp] theorem ff{i j:Int}:ED (.int i) (.int j)=true:=nr rfl
@[simp] theorem nh{w':Wv}:wEq w w'=if ED (fz w) (fz w')=true then some (.val (.bl (deq (fz w) (fz w'))))else none:=nr rfl
@[simp] theorem pB{w':Wv}:wNe w w'=if ED (fz w) (fz w')=true then some (.val (.bl (!deq (fz w) (fz w'))))else none:=nr rfl
@[simp] theorem nP{i j:Int}:wLt (.val (.int i)) (.val (.int j))=some (.val (.bl (decide (i<j)))):=nr rfl
@[simp] theorem oy{i j:Int}:wLe (.val (.int i)) (.val (.int j))=some (.val (.bl (decide (i<=j)))):=nr rfl
@[simp] theorem pX{i j:Int}:wGt (.val (.int i)) (.val (.int j))=some (.val (.bl (decide (j<i)))):=nr rfl
@[simp] theorem oX{i j:Int}:wGe (.val (.int i)) (.val (.int j))=some (.val (.bl (decide (j<=i)))):=nr rfl
@[simp] theorem lN{i j:Int}:OG (.val (.int i)) (.val (.int j))=some (.val (.int (i-j))):=nr rfl
@[simp] theorem lX{i:Int}:Nk (.val (.int i))=some (.val (.int (-i))):=nr rfl
@[simp] theorem mF{i j:Int}:TN (.val (.int i)) (.val (.int j))=(if 0<j then some (.val (.int (i % j)))else none):=by
  show yP Wv.val (if 0<j then Fk (D.int (i % j))else uC)=_
  split<;>rfl
@[simp] theorem ib{i j:Int}:Qk (.val (.int i)) (.val (.int j))=(if(decide (0<j) && decide (j.natAbs<IC))=true then some (.val (.int (i / j)))else none):=by
  show yP Wv.val (if(decide (0<j) && decide (j.natAbs<IC))=true then Fk (D.int (i / j))else uC)=_
  split<;>rfl
@[simp] theorem kr{i j:Int}:YM (.val (.int i)) (.val (.int j))=if(decide (0<=j) && decide (j<=1000) && decide (i.natAbs<2^64))=true then some (.val (.int (i^j.toNat)))else none:=by
  show yP Wv.val (if(decide (0<=j) && decide (j<=1000) && decide (i.natAbs<2^64))=true then Fk (D.int (i^j.toNat))else uC)=_
  split<;>rfl
@[simp] theorem lR{i:Int}:iC (.val (.int i))=some (.val (.int (i.natAbs:Int))):=by
  show Fk (Wv.val (D.int (if i<0 then-i else i)))=_
  congr 3
  split<;>lia
@[simp] theorem bY:Jq (.val (.lst r))=some (.val (.int r.length)):=nr rfl
@[simp] theorem mw:Jq (.val (.tup r))=some (.val (.int r.length)):=nr rfl
@[simp] theorem lF{ns:List Int}:Jq (.val (.scr ns))=some (.val (.int ns.length)):=by
  show Fk (Wv.val (D.int ((ns.map D.int).length:Nat)))=_
  rw[vL]
@[simp] theorem hO:CS w=(asS w).map λds=>.val (.tup ds):=nr rfl
@[simp] theorem kU:L5 w=(asS w).map λds=>.own ds:=nr rfl
@[simp] theorem qC{b:Bool}:aX (.val (.bl b))=some (.val (.int (if b then 1 else 0))):=nr rfl
@[simp] theorem l7{i j:Int}:mT (.val (.int i)) (.val (.int j))=some (.val (.int (if j>i then j else i))):=nr rfl
@[simp] theorem kq{i j:Int}:Z0 (.val (.int i)) (.val (.int j))=some (.val (.int (if j<i then j else i))):=nr rfl
@[simp] theorem Kw{T:String}:K5 w (.val (.ty T))=if Qu T=true then(kdW w).map λk=>.val (.bl (k.isA T))else none:=nr rfl
@[simp] theorem pH:Qu "int"=true:=by decide
@[simp] theorem lU:Qu "bool"=true:=by decide
@[simp] theorem kF:Qu "tuple"=true:=by decide
@[simp] theorem oj:Qu "str"=true:=by decide
@[simp] theorem mZ:Qu "list"=true:=by decide
@[simp] theorem l8:kD (.val (.lst r))=(bls r).map λbs=>.val (.bl (bs.all id)):=nr rfl
theorem AN{n:Nat}(h:n<=1000):n<=sizeLine:=uO h (by decide)
@[simp] theorem sz1:(1:Nat)<=sizeLine:=AN (by decide)
@[simp] theorem sz2:(2:Nat)<=sizeLine:=AN (by decide)
@[simp] theorem sz3:(3:Nat)<=sizeLine:=AN (by decide)
@[simp] theorem sz4:(4:Nat)<=sizeLine:=AN (by decide)
@[simp] theorem sz5:(5:Nat)<=sizeLine:=AN (by decide)
@[simp] theorem sz6:(6:Nat)<=sizeLine:=AN (by decide)
@[simp] theorem HK:Cr E S=some (.bl true,S):=nr rfl
@[simp] theorem lI{s:Sr}{t:Tf}{b:Ex}:MH s t b E S=(s E S).bind λr=>Ni r.1.2 t b r.1.1 E r.2:=nr rfl
@[simp] theorem Au:gOk [] S:=λ_ h=>(nomatch h)
theorem Qt{gs:Gd}{t:Tf}{b:Ex}(h:gOk gs S):Ni gs t b [] E S=Fk (.nx,E,S):=by
 unfold Ni
 rw[vD h]
theorem XF {gs : Gd} {t : Tf} {b : Ex} {ds : Gc D} (h : gOk gs S) : Ni gs t b (d :: ds) E S = (t d E S).bind fun E1 => (b E1 S).bind fun r => match r.1 with
    | .nx => Ni gs t b ds r.2.1 r.2.2
    | .ret w => Fk (.ret w, r.2) := by
  rw [Ni, vD h]
  all_goals rfl
theorem Mb{gs:Gd}{t:Tf}{b:Ex}{ds:Gc D}(h:gOk gs S):Ni gs t b (d::ds) E S=(t d E S).bind λE1=>(b E1 S).bind (jh (Ni gs t b ds)):=by
 rw[XF h]
 rfl
@[simp] theorem lD:Js f E S=(f E S).bind λr=>(sqD r.2 r.1).map λp=>(p,r.2):=nr rfl
@[simp] theorem nC:sqD S (.tup r)=some (r,[]):=nr rfl
@[simp] theorem nj:sqD S (.lst r)=some (r,[]):=nr rfl
theorem Hh{n:Nat}(h:S[n]?=Fk (.lst r)):sqD S (.ref n)=Fk (r,[(n,r)]):=by
 show(Gj S n).map (λds=>(ds,[(n,ds)]))=_
 rw[AY h]
 rfl
@[simp] theorem lH:YZ f E S=(f E S).bind λr=>(sqD r.2 r.1).map λp=>((Rl 0 p.1,p.2),r.2):=nr rfl
@[simp] theorem mH:Yh f g E S=(f E S).bind λr=>(g E r.2).bind λq=>(sqD q.2 r.1).bind λa=>(sqD q.2 q.1).map λb=>((Nt a.1 b.1,a.2++b.2),q.2):=by
  unfold Yh
  rw[EU]
  cases f E S with
  |none=>rfl
  |some r=>
   rw[Bx,Bx,EU]
   cases g E r.2 with
   |none=>rfl
   |some q=>rfl
noncomputable def Jn(j:Int):vE:=decide (-(2^62)<=j) && decide (j<2^62)
theorem DY{j:Int}(h: -1000000<=j)(g:j<=1000000):Jn j=true:=by
 unfold Jn
 rw[uT]
 exact⟨wg (by lia),wg (by lia)⟩
noncomputable def qN(S:Sto):D->uD ((Gc D×Gd)×Sto)
 | .int j=>if Jn j=true then Fk ((J6 0 j.toNat,[]),S)else uC
 |_=>uC
@[simp] theorem mD{j:Int}:qN S (.int j)=if Jn j=true then some ((J6 0 j.toNat,[]),S)else none:=nr rfl
@[simp] theorem mJ:PM [f] E S=(f E S).bind λr=>qN r.2 r.1:=by
  unfold PM
  rw[EU]
  cases f E S with
  |none=>rfl
  |some r=>
   obtain⟨d,S1⟩:=r
   rw[Bx,gg,pI,Bx,Bx]
   cases d<;>rfl
@[simp] theorem kA{cf:Bool}{cap:List Nat}{m:Nat}{s:Sr}{t:Tf}:QO cf cap m s t c f E S=(s E S).bind λr=>(C7 r.1.2 t c f r.1.1 [] (Pa cap m E) r.2).bind λq=>fin cf (.own q.1) q.2:=nr rfl
@[simp] theorem mY{cap:List Nat}{m:Nat}:Pa cap m E=cap.map (at? E)++List.replicate m none:=nr rfl
theorem Wl{α:Type}(p:α->vE):∀xs:Gc α,bls (xs.map λx=>.bl (p x))=Fk (xs.map p)
 | []=>rfl
 |x::xs=>by
  have ih:=Wl p xs
  unfold bls at ih⊢
  rw[ui,zX,ih]
  rfl
@[simp] theorem Vc{i:Int}:NY (.int i::r)=(NY r).map λns=>i::ns:=by
  unfold NY
  rw[zX]
  show(do let r1<-Fk i;let rs<-List.mapM intD r;pure (r1::rs))=_
  cases List.mapM intD r<;>rfl
theorem Iw:∀(ns:Gc Int),NY (ns.map D.int)=Fk ns
 | []=>rfl
 |n::ns=>by rw[ui,Vc,Iw ns];rfl
@[simp] theorem l9:aH (.own r)=(NY r).map λns=>.val (.int ns.sum):=nr rfl
@[simp] theorem ky:aH (.val (.lst r))=(NY r).map λns=>.val (.int ns.sum):=nr rfl
@[simp] theorem qj:ZV false w (.val .non)=some (.val (.bl (isN w))):=nr rfl
@[simp] theorem qF:ZV true w (.val .non)=some (.val (.bl (!isN w))):=nr rfl
@[simp] theorem rT{i:Int}{w:Wv}:Kq true false [w,.val (.int i)]=wSl (some i) none w:=nr rfl
@[simp] theorem sM{i:Int}{w:Wv}:Kq false true [w,.val (.int i)]=wSl none (some i) w:=nr rfl
@[simp] theorem sA{i j:Int}{w:Wv}:Kq true true [w,.val (.int i),.val (.int j)]=wSl (some i) (some j) w:=nr rfl
@[simp] theorem pG{lo hi:Option Int}:wSl lo hi (.val (.tup r))=some (.val (.tup (IY r lo hi))):=nr rfl
end
structure Ce(A:Gc Nat)(S S':Sto):Prop where
 len:S.length<=S'.length
 keep:∀n,n<S.length->n∉A->S'[n]?=S[n]?
theorem Ce.refl{A:Gc Nat}{S:Sto}:Ce A S S:=⟨uN _,λ_ _ _=>rfl⟩
theorem Ce.trans{A:Gc Nat}{S S' S2:Sto}(h:Ce A S S')(g:Ce A S' S2):Ce A S S2:=⟨uO h.len g.len,λn hn ha=>(g.keep n (uG hn h.len) ha).trans (h.keep n hn ha)⟩
theorem Ce.mono{A B:Gc Nat}{S S':Sto}(h:Ce A S S')(s:∀n∈A,n∈B):Ce B S S':=⟨h.len,λn hn hb=>h.keep n hn λz=>hb (s n z)⟩
theorem Ce.get{A:Gc Nat}{S S':Sto}(h:Ce A S S'){n:Nat}{c:Cl}(e:S[n]?=Fk c)(ha:n∉A):S'[n]?=Fk c:=by
 rw[h.keep n (uL.mp e).1 ha];exact e
theorem Ce.app{A:Gc Nat}{S T:Sto}:Ce A S (S++T):=⟨by simp,λn hn _=>uH hn⟩
theorem Ce.set{A:Gc Nat}{S:Sto}{n:Nat}{c:Cl}(h:n∈A):Ce A S (S.set n c):=⟨by simp,λm hm ha=>uK (λz=>ha (by rw[<-z];exact h))⟩
theorem Ce.new{A:Gc Nat}{S S' S2:Sto}(h:Ce A S S')(g:Ce (A++B) S' S2)(hb:∀n∈B,S.length<=n):Ce A S S2:=⟨uO h.len g.len,λn hn ha=>(g.keep n (uG hn h.len) (λz=>by
 rcases ub.mp z with z|z
 .exact ha z
 .have:=hb n z;lia)).trans (h.keep n hn ha)⟩
theorem Ad{S:Sto}{n:Nat}{c:Cl}(h:S[n]?=Fk c):n<S.length:=(uL.mp h).1
section
variable{E:En}{S:Sto}{f g h k l m:Ev}{cf:vE}{F:Fn}
@[simp high] theorem l0{op:Op1}:RT cf (o1 op) [f] E S=(f E S).bind λr=>(op (dr r.2 r.1)).bind λw=>fin cf w r.2:=by
  rw[Xb,EU];cases f E S<;>rfl
@[simp high] theorem bF{op:Op2}:RT cf (o2 op) [f,g] E S=(f E S).bind λr=>(g E r.2).bind λq=>(op (dr q.2 r.1) (dr q.2 q.1)).bind λw=>fin cf w q.2:=by
  rw[Xb,EU]
  cases f E S with
  |none=>rfl
  |some r=>rw[Bx,Bx,EU];cases g E r.2<;>rfl
theorem qv:evs [f] E S=(f E S).bind λr=>Fk ([r.1],r.2):=by rw[EU];cases f E S<;>rfl
theorem qh:evs [f,g] E S=(f E S).bind λr=>(g E r.2).bind λq=>Fk ([r.1,q.1],q.2):=by
 rw[EU];cases f E S with
 |none=>rfl
 |some r=>rw[Bx,Bx,qv];cases g E r.2<;>rfl
theorem qy:evs [f,g,h] E S=(f E S).bind λr=>(g E r.2).bind λq=>(h E q.2).bind λu=>Fk ([r.1,q.1,u.1],u.2):=by
 rw[EU];cases f E S with
 |none=>rfl
 |some r=>rw[Bx,Bx,qh];cases g E r.2 with
  |none=>rfl
  |some q=>rw[Bx,Bx];cases h E q.2<;>rfl
theorem so:evs [f,g,h,k] E S=(f E S).bind λr=>(g E r.2).bind λq=>(h E q.2).bind λu=>(k E u.2).bind λv=>Fk ([r.1,q.1,u.1,v.1],v.2):=by
 rw[EU];cases f E S with
 |none=>rfl
 |some r=>rw[Bx,Bx,qy];cases g E r.2 with
  |none=>rfl
  |some q=>rw[Bx,Bx];cases h E q.2 with
   |none=>rfl
   |some u=>rw[Bx,Bx];cases k E u.2<;>rfl
@[simp high] theorem rZ:evs [f] E S=(f E S).bind λr=>some ([r.1],r.2):=qv
@[simp high] theorem tH:evs [f,g] E S=(f E S).bind λr=>(g E r.2).bind λq=>some ([r.1,q.1],q.2):=qh
@[simp high] theorem rH:evs [f,g,h] E S=(f E S).bind λr=>(g E r.2).bind λq=>(h E q.2).bind λu=>some ([r.1,q.1,u.1],u.2):=qy
@[simp high] theorem r9:evs [f,g,h,k] E S=(f E S).bind λr=>(g E r.2).bind λq=>(h E q.2).bind λu=>(k E u.2).bind λv=>some ([r.1,q.1,u.1,v.1],v.2):=so
@[simp high] theorem tU{d:D}:eV 0 (some d::E) S=some (d,S):=nr rfl
@[simp high] theorem tO{d:D}{o0:Option D}:eV 1 (o0::some d::E) S=some (d,S):=nr rfl
@[simp high] theorem tQ{d:D}{o0 o1:Option D}:eV 2 (o0::o1::some d::E) S=some (d,S):=nr rfl
@[simp high] theorem tP{d:D}{o0 o1 o2:Option D}:eV 3 (o0::o1::o2::some d::E) S=some (d,S):=nr rfl
@[simp high] theorem uA{d:D}{o0 o1 o2 o3:Option D}:eV 4 (o0::o1::o2::o3::some d::E) S=some (d,S):=nr rfl
@[simp high] theorem tW{d:D}{o0 o1 o2 o3 o4:Option D}:eV 5 (o0::o1::o2::o3::o4::some d::E) S=some (d,S):=nr rfl
@[simp high] theorem tT{d:D}{o0 o1 o2 o3 o4 o5:Option D}:eV 6 (o0::o1::o2::o3::o4::o5::some d::E) S=some (d,S):=nr rfl
@[simp high] theorem tM{d:D}{o0 o1 o2 o3 o4 o5 o6:Option D}:eV 7 (o0::o1::o2::o3::o4::o5::o6::some d::E) S=some (d,S):=nr rfl
@[simp high] theorem tu{d:D}{o0 o1 o2 o3 o4 o5 o6 o7:Option D}:eV 8 (o0::o1::o2::o3::o4::o5::o6::o7::some d::E) S=some (d,S):=nr rfl
@[simp high] theorem tK{d:D}{o0 o1 o2 o3 o4 o5 o6 o7 o8:Option D}:eV 9 (o0::o1::o2::o3::o4::o5::o6::o7::o8::some d::E) S=some (d,S):=nr rfl
@[simp high] theorem sD{d:D}{o0 o1 o2 o3 o4 o5 o6 o7 o8 o9:Option D}:eV 10 (o0::o1::o2::o3::o4::o5::o6::o7::o8::o9::some d::E) S=some (d,S):=nr rfl
@[simp high] theorem sG{d:D}{o0 o1 o2 o3 o4 o5 o6 o7 o8 o9 o10:Option D}:eV 11 (o0::o1::o2::o3::o4::o5::o6::o7::o8::o9::o10::some d::E) S=some (d,S):=nr rfl
@[simp high] theorem sS{d:D}{o0 o1 o2 o3 o4 o5 o6 o7 o8 o9 o10 o11:Option D}:eV 12 (o0::o1::o2::o3::o4::o5::o6::o7::o8::o9::o10::o11::some d::E) S=some (d,S):=nr rfl
@[simp high] theorem sj{d:D}{o0 o1 o2 o3 o4 o5 o6 o7 o8 o9 o10 o11 o12:Option D}:eV 13 (o0::o1::o2::o3::o4::o5::o6::o7::o8::o9::o10::o11::o12::some d::E) S=some (d,S):=nr rfl
@[simp 20000] theorem qi{op:Op2}{d:D}:RT cf (o2 op) [f,eC d] E S=(f E S).bind λr=>(op (dr r.2 r.1) (dr r.2 d)).bind λw=>fin cf w r.2:=by
  rw[bF];cases f E S<;>rfl
@[simp high] theorem ku{i:Nat}{y:Ex}:Aa (BQ i f) y E S=(f E S).bind λr=>y (E.set i (some r.1)) r.2:=by
  rw[IF,aM];cases f E S<;>rfl
@[simp high] theorem kz{y:Ex}:Aa (Bm f) y E S=(f E S).bind λr=>y E r.2:=by
  rw[IF,Ws];cases f E S<;>rfl
end
section
theorem mulL{i j:Int}(h: -18446744073709551616<i)(g:i<18446744073709551616):DZ i j=true:=by
 unfold DZ
 rw[vf]
 exact .inl (wg (by lia))
theorem mulR{i j:Int}(h: -18446744073709551616<j)(g:j<18446744073709551616):DZ i j=true:=by
 unfold DZ
 rw[vf,vf]
 exact .inr (.inl (wg (by lia)))
theorem EK{n k:Nat}(h:n<2^k)(hk:k<=8000):n<IC:=uG h (um (by decide) hk)
theorem GP{n:Int}(h0:0<n)(h1:n<1152921504606846976):n.natAbs<IC:=EK (k:=60) (show n.natAbs<2^60 by lia) (by decide)
variable{S:Sto}
noncomputable def TL(a b:Int):Int:=((zE a.natAbs b.natAbs:Nat):Int)
theorem OT{c:Ev}{b:Ex}{k:Nat}{E:En}:KG c b (k+1) E S=(c E S).bind λr=>match r.1 with
 | .bl true=>(b E r.2).bind λp=>match p.1 with
   | .nx=>KG c b k p.2.1 p.2.2
   | .ret w=>Fk (.ret w,p.2)
 | .bl false=>Fk (.nx,E,r.2)
 |_=>none:=rfl
theorem VL{c:Ev}{b:Ex}{k:Nat}{E E2:En}{S1 S2:Sto}(e1:c E S=Fk (.bl true,S1))(e2:b E S1=Fk (.nx,E2,S2)):KG c b (k+1) E S=KG c b k E2 S2:=by
 rw[OT,e1]
 show(b E S1).bind _=_
 rw[e2]
 rfl
theorem VJ{c:Ev}{b:Ex}{k:Nat}{E:En}{S1:Sto}(e1:c E S=Fk (.bl false,S1)):KG c b (k+1) E S=Fk (.nx,E,S1):=by
 rw[OT,e1]
 rfl
theorem VS:∀(k:Nat) (x y:Nat),y<k->KG (eOp (o2 wNe) [eV 1,eC (.int 0)]) (TM 0 1 (eV 1) (eOp (o2 TN) [eV 0,eV 1])) k [Fk (.int x),Fk (.int y)] S=Fk (.nx,[Fk (.int (zE x y:Nat)),Fk (.int 0)],S)
 |0,x,y,h=>absurd h (AAb _)
 |k+1,x,y,h=>by
  by_cases hy:y=0
  .subst hy
   rw[VJ (S1:=S) (by simp)]
   simp
  .have hy2:(((y:Nat):Int)==0)=false:=by simpa using hy
   have ih:=VS k y (x % y) (by have:=Nat.mod_lt x (yQ hy);lia)
   rw[show((x % y:Nat):Int)=(x:Int) % (y:Int) by lia]at ih
   have hy4:0<y:=yQ hy
   rw[VL (S1:=S) (S2:=S) (E2:=[Fk (.int y),Fk (.int ((x:Int) % (y:Int)))]) (by simp[hy2]) (by simp[hy4]),ih]
   rw[AAS x y,Nat.gcd_rec y x,AAS]
theorem iG(a b:Int):Cs [.int a,.int b] S=Fk (.int (TL a b),S):=by
 have:=VS (S:=S) (b.natAbs+2) a.natAbs b.natAbs (by lia)
 simp[Cs,Gx,TH,VZ,this,TL]
theorem OE:∀(k:Nat) (x y:Nat),y<k->KG (eOp (o2 wGt) [eV 1,eC (.int 0)]) (TM 0 1 (eV 1) (eOp (o2 TN) [eV 0,eV 1])) k [Fk (.int x),Fk (.int y)] S=Fk (.nx,[Fk (.int (zE x y:Nat)),Fk (.int 0)],S)
 |0,x,y,h=>absurd h (AAb _)
 |k+1,x,y,h=>by
  by_cases hy:y=0
  .subst hy
   rw[VJ (S1:=S) (by simp)]
   simp
  .have ih:=OE k y (x % y) (by have:=Nat.mod_lt x (yQ hy);lia)
   rw[show((x % y:Nat):Int)=(x:Int) % (y:Int) by lia]at ih
   have hy4:0<y:=yQ hy
   rw[VL (S1:=S) (S2:=S) (E2:=[Fk (.int y),Fk (.int ((x:Int) % (y:Int)))]) (by simp[hy4]) (by simp[hy4]),ih]
   rw[AAS x y,Nat.gcd_rec y x,AAS]
theorem Wk(a b:Int)(ha:0<=a)(hb:0<=b):Hz [.int a,.int b] S=Fk (.int (TL a b),S):=by
 have:=OE (S:=S) (b.natAbs+2) a.natAbs b.natAbs (by lia)
 have e1:((a.natAbs:Nat):Int)=a:=by lia
 have e2:((b.natAbs:Nat):Int)=b:=by lia
 rw[e1,e2]at this
 simp[Hz,My,TH,VZ,this,TL]
noncomputable def lowP(t b:Int):Int×Int:=(t / TL t b,b / TL t b)
theorem Ub{t b:Int}(h:0<b):0<TL t b:=by
 unfold TL
 have:0<zE t.natAbs b.natAbs:=Nat.gcd_pos_of_pos_right _ (by lia)
 lia
theorem Xx{t b:Int}(h:0<b):(TL t b).natAbs<=b.natAbs:=by
 unfold TL
 have:zE t.natAbs b.natAbs<=b.natAbs:=Nat.gcd_le_right _ (by lia)
 lia
noncomputable def amD(p:Int×Int):D:=.tup [.int p.1,.int p.2]
theorem MG{t b:Int}(h:0<b)(hb:b.natAbs<IC):EA [.int t,.int b] S=Fk (amD (lowP t b),S):=by
 have h1:=Ub (t:=t) h
 have h2:(TL t b).natAbs<IC:=vT (Xx h) hb
 simp[EA,QJ,iG,h1,h2,amD,lowP]
theorem bf{t b:Int}:TL (t.natAbs:Int) b=TL t b:=by
 unfold TL
 rw[wY]
theorem TX{t b:Int}(h:0<b)(hb:b.natAbs<IC):CL [.int t,.int b] S=Fk (amD (lowP t b),S):=by
 have h1:=Ub (t:=t) h
 have h2:(TL t b).natAbs<IC:=vT (Xx h) hb
 have h3:=Wk (S:=S) (t.natAbs:Int) b (by lia) (by lia)
 rw[bf]at h3
 simp[CL,QN,h3,h1,h2,amD,lowP]
noncomputable def aD(q:Rat):D:=.tup [.int q.num,.int q.den]
def Sz(k:Nat)(q:Rat):Prop:=q.num.natAbs<2^k/\q.den<2^k
theorem FT(q:Rat):(q.num:Rat) / (q.den:Rat)=q:=by
 rw[<-Rat.mkRat_eq_div,Rat.mkRat_self]
theorem LB(q:Rat):(q.den:Rat)≠0:=by
 have:=q.den_nz
 exact_mod_cast this
theorem Oc(t:Int)(n:Nat)(h:0<n):((t:Rat) / (n:Rat)).num=t / (zE t.natAbs n:Nat)/\((t:Rat) / (n:Rat)).den=n / zE t.natAbs n:=by
 have e:(t:Rat) / (n:Rat)=mkRat t n:=by rw[Rat.mkRat_eq_div]
 rw[e,Rat.mkRat_def,dif_neg (by lia),Rat.normalize_eq]
 exact⟨rfl,rfl⟩
theorem LR{t b:Int}(h:0<b):amD (lowP t b)=aD ((t:Rat) / (b:Rat)):=by
 obtain⟨n,rfl⟩:∃n:Nat,b=n:=⟨b.natAbs,by lia⟩
 obtain⟨h1,h2⟩:=Oc t n (by lia)
 unfold amD aD lowP TL
 rw[show(((n:Nat):Int):Rat)=((n:Nat):Rat)from rfl,h1,h2]
 simp
theorem P5{t b:Int}{k:Nat}(h:0<b)(ht:t.natAbs<2^k)(hb:b.natAbs<2^k):Sz k ((t:Rat) / (b:Rat)):=by
 obtain⟨n,rfl⟩:∃n:Nat,b=n:=⟨b.natAbs,by lia⟩
 obtain⟨h1,h2⟩:=Oc t n (by lia)
 unfold Sz
 rw[show(((n:Nat):Int):Rat)=((n:Nat):Rat)from rfl,h1,h2]
 exact⟨vT (Int.natAbs_ediv_le_natAbs _ _) ht,vT (Nat.div_le_self _ _) (by simpa using hb)⟩
theorem Cv{a b j k:Nat}(ha:a<2^j)(hb:b<2^k):a*b<2^(j+k):=by
 rw[Nat.pow_add]
 exact Nat.mul_lt_mul'' ha hb
theorem JL{i j:Int}{k m:Nat}(hi:i.natAbs<2^k)(hj:j.natAbs<2^m)(h:k<=60000)(g:m<=60000):DZ i j=true:=by
 unfold DZ
 rw[vf,vf,uT]
 exact .inr (.inr ⟨wg (uG hi (um (by decide) h)),wg (uG hj (um (by decide) g))⟩)
theorem den_pos(q:Rat):0<(q.den:Int):=by have:=q.den_pos;lia
theorem eJ{x:Int}{n m:Nat}(h:x.natAbs<2^n)(g:n<=m):x.natAbs<2^m:=uG h (um (by decide) g)
section
variable{p q:Rat}{j k:Nat}
theorem Ey(hp:Sz j p)(hq:Sz k q):(p.num*q.den+q.num*p.den).natAbs<2^(j+k+1)/\((p.den:Int)*q.den).natAbs<2^(j+k)/\(p.num*q.den-q.num*p.den).natAbs<2^(j+k+1):=by
 have a1:=Cv hp.1 hq.2
 have a2:=Cv hq.1 hp.2
 have a3:=Cv hp.2 hq.2
 rw[AAM k j]at a2
 have e:2^(j+k+1)=2^(j+k)+2^(j+k):=by rw[AAT];lia
 refine⟨?_,?_,?_⟩
 .refine vT (Int.natAbs_add_le _ _) ?_
  rw[xX,xX,wY,wY,e]
  lia
 .rw[xX,wY,wY];exact a3
 .refine vT (Int.natAbs_sub_le _ _) ?_
  rw[xX,xX,wY,wY,e]
  lia
theorem Qe:(((p.num*q.den+q.num*p.den:Int):Rat) / (((p.den:Int)*q.den:Int):Rat))=p+q:=by
 have h1:=FT p;have h2:=FT q
 have d1:=LB p;have d2:=LB q
 push_cast
 grind
theorem VN:(((p.num*q.den-q.num*p.den:Int):Rat) / (((p.den:Int)*q.den:Int):Rat))=p-q:=by
 have h1:=FT p;have h2:=FT q
 have d1:=LB p;have d2:=LB q
 push_cast
 grind
theorem Ow:(((p.num*q.num:Int):Rat) / (((p.den:Int)*q.den:Int):Rat))=p*q:=by
 have h1:=FT p;have h2:=FT q
 have d1:=LB p;have d2:=LB q
 push_cast
 grind
theorem jQ(hp:Sz j p)(hq:Sz k q):Sz (j+k+1) (p+q):=by
 rw[<-Qe]
 have:=Ey hp hq
 exact P5 (vj (den_pos _) (den_pos _)) this.1 (eJ this.2.1 (by lia))
theorem iP(hp:Sz j p)(hq:Sz k q):Sz (j+k+1) (p-q):=by
 rw[<-VN]
 have:=Ey hp hq
 exact P5 (vj (den_pos _) (den_pos _)) this.2.2 (eJ this.2.1 (by lia))
theorem QM(hp:Sz j p)(hq:Sz k q):Sz (j+k) (p*q):=by
 rw[<-Ow]
 have:=Ey hp hq
 exact P5 (vj (den_pos _) (den_pos _)) (by rw[xX];exact Cv hp.1 hq.1) this.2.1
end
section
variable{p q:Rat}{j k:Nat}
theorem P7(hp:Sz j p)(hq:Sz k q)(hj:j+k<=7990):DZ p.num q.den=true/\DZ q.num p.den=true/\DZ p.den q.den=true/\DZ p.num q.num=true:=by
 refine⟨JL hp.1 (by simpa using hq.2) (by lia) (by lia),JL hq.1 (by simpa using hp.2) (by lia) (by lia),JL (by simpa using hp.2) (by simpa using hq.2) (by lia) (by lia),JL hp.1 hq.1 (by lia) (by lia)⟩
theorem fO(hp:Sz j p)(hq:Sz k q)(hj:j+k<=7990):Gz [aD p,aD q] S=Fk ((aD (p+q)),S):=by
 obtain⟨m1,m2,m3,m4⟩:=P7 hp hq (by lia)
 have b:=Ey hp hq
 have l:=MG (S:=S) (t:=p.num*q.den+q.num*p.den) (b:=p.den*q.den) (vj (den_pos _) (den_pos _)) (EK b.2.1 (by lia))
 rw[LR (vj (den_pos _) (den_pos _)),Qe]at l
 simp only[aD]at l⊢
 simp[Gz,Uk,m1,m2,m3,l]
theorem pC(hp:Sz j p)(hq:Sz k q)(hj:j+k<=7990):Lm [aD p,aD q] S=Fk ((aD (p-q)),S):=by
 obtain⟨m1,m2,m3,m4⟩:=P7 hp hq (by lia)
 have b:=Ey hp hq
 have l:=MG (S:=S) (t:=p.num*q.den-q.num*p.den) (b:=p.den*q.den) (vj (den_pos _) (den_pos _)) (EK b.2.1 (by lia))
 rw[LR (vj (den_pos _) (den_pos _)),VN]at l
 simp only[aD]at l⊢
 simp[Lm,VB,m1,m2,m3,l]
theorem Xe(hp:Sz j p)(hq:Sz k q)(hj:j+k<=7990):ES [aD p,aD q] S=Fk ((aD (p*q)),S):=by
 obtain⟨m1,m2,m3,m4⟩:=P7 hp hq (by lia)
 have b:=Ey hp hq
 have l:=MG (S:=S) (t:=p.num*q.num) (b:=p.den*q.den) (vj (den_pos _) (den_pos _)) (EK b.2.1 (by lia))
 rw[LR (vj (den_pos _) (den_pos _)),Ow]at l
 simp only[aD]at l⊢
 simp[ES,RW,m3,m4,l]
theorem TB(hp:Sz j p)(hq:Sz k q)(hj:j+k<=7990):CO [aD p,aD q] S=Fk ((aD (p+q)),S):=by
 obtain⟨m1,m2,m3,m4⟩:=P7 hp hq (by lia)
 have b:=Ey hp hq
 have l:=TX (S:=S) (t:=p.num*q.den+q.num*p.den) (b:=p.den*q.den) (vj (den_pos _) (den_pos _)) (EK b.2.1 (by lia))
 rw[LR (vj (den_pos _) (den_pos _)),Qe]at l
 simp only[aD]at l⊢
 simp[CO,P6,m1,m2,m3,l]
theorem KO(hp:Sz j p)(hq:Sz k q)(hj:j+k<=7990):Ax [aD p,aD q] S=Fk ((aD (p*q)),S):=by
 obtain⟨m1,m2,m3,m4⟩:=P7 hp hq (by lia)
 have b:=Ey hp hq
 have l:=TX (S:=S) (t:=p.num*q.num) (b:=p.den*q.den) (vj (den_pos _) (den_pos _)) (EK b.2.1 (by lia))
 rw[LR (vj (den_pos _) (den_pos _)),Ow]at l
 simp only[aD]at l⊢
 simp[Ax,OW,m3,m4,l]
theorem jy:aD (-q)=.tup [.int (0-q.num),.int q.den]:=by
 unfold aD
 rw[show(-q).num=0-q.num by simp,show(-q).den=q.den by simp]
theorem jS(hq:Sz k q):Sz k (-q):=by
 unfold Sz
 rw[show(-q).num= -q.num by simp,show(-q).den=q.den by simp,Int.natAbs_neg]
 exact hq
theorem cm(hp:Sz j p)(hq:Sz k q)(hj:j+k<=7990):Et [aD p,aD q] S=Fk ((aD (p-q)),S):=by
 have l:=TB (S:=S) hp (jS hq) hj
 rw[jy]at l
 rw[Rat.sub_eq_add_neg]
 simp only[aD]at l⊢
 simp at l
 simp[Et,P9,l]
end
theorem Wt{t b:Int}(h:0<b)(hb:b.natAbs<IC):EA [.int t,.int b] S=Fk ((aD (t / b)),S):=by
 rw[MG h hb,LR h]
theorem aq{t b:Int}(h:0<b)(hb:b.natAbs<IC):CL [.int t,.int b] S=Fk ((aD (t / b)),S):=by
 rw[TX h hb,LR h]
theorem Kx{a b:Int}{k:Nat}(ha:a.natAbs<2^k)(hb:b.natAbs<2^k):(a+b).natAbs<2^(k+1):=by
 have e:2^(k+1)=2^k+2^k:=by rw[AAT];lia
 have:=Int.natAbs_add_le a b
 lia
theorem Lg{a b:Int}{j k:Nat}(ha:a.natAbs<2^j)(hb:b.natAbs<2^k):(a*b).natAbs<2^(j+k):=by
 rw[xX];exact Cv ha hb
theorem Wr{p q:Rat}{w m:Int}(h:0<w+m):((p.num*q.den*w+q.num*p.den*m:Int):Rat) / (((p.den:Int)*q.den*(w+m):Int):Rat)=(p*w+q*m) / (w+m):=by
 have h1:=FT p;have h2:=FT q
 have d1:=LB p;have d2:=LB q
 have d3:((w:Rat)+(m:Rat))≠0:=by
  intro e
  have:((w+m:Int):Rat)=0:=by push_cast;exact e
  have:=xY.mp this
  lia
 push_cast
 grind
section
variable{p q:Rat}{w m:Int}{j k n:Nat}
theorem aZ(hp:Sz j p)(hq:Sz k q)(hw:w.natAbs<2^n)(hm:m.natAbs<2^n):(p.num*q.den*w+q.num*p.den*m).natAbs<2^(j+k+n+1)/\((p.den:Int)*q.den*(w+m)).natAbs<2^(j+k+(n+1)):=by
 have d1:((p.den:Int)).natAbs<2^j:=by simpa using hp.2
 have d2:((q.den:Int)).natAbs<2^k:=by simpa using hq.2
 refine⟨Kx (Lg (Lg hp.1 d2) hw) ?_,Lg (Lg d1 d2) (Kx hw hm)⟩
 have:=Lg (Lg hq.1 d1) hm
 rwa [AAM k j]at this
theorem jz(hp:Sz j p)(hq:Sz k q)(hw:w.natAbs<2^n)(hm:m.natAbs<2^n)(h:0<w+m)(hj:j+k+n+1<=7990):J1 [aD p,.int w,aD q,.int m] S=Fk ((aD ((p*w+q*m) / (w+m))),S):=by
 obtain⟨m1,m2,m3,m4⟩:=P7 hp hq (by lia)
 have d1:((p.den:Int)).natAbs<2^j:=by simpa using hp.2
 have d2:((q.den:Int)).natAbs<2^k:=by simpa using hq.2
 have b:=aZ hp hq hw hm
 have m5:DZ (p.num*q.den) w=true:=JL (Lg hp.1 d2) hw (by lia) (by lia)
 have m6:DZ (q.num*p.den) m=true:=JL (Lg hq.1 d1) hm (by lia) (by lia)
 have m7:DZ ((p.den:Int)*q.den) (w+m)=true:=JL (Lg d1 d2) (Kx hw hm) (by lia) (by lia)
 have l:=Wt (S:=S) (t:=p.num*q.den*w+q.num*p.den*m) (b:=p.den*q.den*(w+m)) (vj (vj (den_pos _) (den_pos _)) h) (EK b.2 (by lia))
 rw[Wr h]at l
 simp only[aD]at l⊢
 simp[J1,RV,m1,m2,m3,m5,m6,m7,l]
end
end
section
variable{S:Sto}{p:Nat}
theorem dW{r:Gc D}(h:p<S.length):dr (S.set p (.lst r)) (.ref p)=.own r:=BE (uS h)
def Pen(ds:Gc D):Prop:=∃a b c d:Int,ds=[.int a,.int b,.int c,.int d]/\0<=d/\d<1000000007
def CQ(p:Nat)(S:Sto):Prop:=∃ds,S[p]?=Fk (.lst ds)/\Pen ds
structure Pn(p:Nat)(S S':Sto):Prop where
 same:Ce [p] S S'
 pen:CQ p S'
theorem Pn.trans{S S' S2:Sto}(h:Pn p S S')(g:Pn p S' S2):Pn p S S2:=⟨h.same.trans g.same,g.pen⟩
theorem Pn.get{S S':Sto}(h:Pn p S S'){n:Nat}{c:Cl}(e:S[n]?=Fk c)(ha:n≠p):S'[n]?=Fk c:=h.same.get e (by simpa using ha)
theorem Pn.refl(h:CQ p S):Pn p S S:=⟨.refl,h⟩
theorem CQ.lt(h:CQ p S):p<S.length:=by obtain⟨ds,e,_⟩:=h;exact Ad e
theorem CQ.app(h:CQ p S)(T:Sto):CQ p (S++T):=by obtain⟨ds,e,hp⟩:=h;exact⟨ds,by rw[uH (Ad e)];exact e,hp⟩
theorem Aj(h:CQ p S){n:Int}(h0:0<n)(h1:n<1152921504606846976):∃r S',AI [.ref p,.int n] S=Fk (.int r,S')/\0<=r/\r<n/\Pn p S S':=by
 obtain⟨ds,hp,a,b,c,d,rfl,hd0,hd1⟩:=h
 have hl:=Ad hp
 have hs:=GP h0 h1
 have hr:=BE hp
 have hc:=AY hp
 by_cases hb:b=1/\0<a
 .obtain⟨rfl,ha⟩:=hb
  refine⟨a % n,S.set p (.lst [.int (a / n),.int 1,.int c,.int d]),?_,xM _ (by lia),xi _ h0,.set (by simp),_,uS hl,_,_,_,_,rfl,hd0,hd1⟩
  simp[AI,Kv,ha,h0,hs,hr,hc]
 .have m1:DZ (d+17) (69621+2*(c+1))=true:=mulL (by lia) (by lia)
  have m2:DZ 2 (c+1)=true:=mulL (by decide) (by decide)
  generalize ht:(d+17)*(69621+2*(c+1)) % 2147483647=t at*
  have t0:0<=t:=by rw[<-ht];exact xM _ (by decide)
  have t1:t<2147483647:=by rw[<-ht];exact xi _ (by decide)
  have m3:DZ t t=true:=mulL (by lia) (by lia)
  have m4:DZ 40503 (c+1)=true:=mulL (by decide) (by decide)
  generalize hu:(t*t+40503*(c+1)+5) % 2147483629=u at*
  have u0:0<=u:=by rw[<-hu];exact xM _ (by decide)
  have u1:u<2147483629:=by rw[<-hu];exact xi _ (by decide)
  have m5:DZ u 48271=true:=mulL (by lia) (by lia)
  have d32:(32:Int).natAbs<IC:=GP (by decide) (by decide)
  have d32':(32:Nat)<IC:=d32
  refine⟨u*48271 % 2147483647 / 32 % n,S.set p (.lst [.int a,.int b,.int (c+1),.int d]),?_,xM _ (by lia),xi _ h0,.set (by simp),_,uS hl,_,_,_,_,rfl,hd0,hd1⟩
  by_cases hb1:b=1
  .subst hb1
   have ha:¬0<a:=λz=>hb ⟨rfl,z⟩
   simp[AI,Kv,ha,h0,hs,hr,hc,dW,hl,m1,m2,m3,m4,m5,ht,hu,d32']
  .have hb2:(b==1)=false:=by simpa using hb1
   simp[AI,Kv,hb2,h0,hs,hr,hc,dW,hl,m1,m2,m3,m4,m5,ht,hu,d32']
theorem iN(c:Int):∃p S',Ju [.int c] S=Fk (.ref p,S')/\CQ p S'/\Ce [] S S'/\S.length<=p:=by
 refine⟨S.length,S++[.lst [.int c,.int (if(10:Int)^18<=c then 1 else 0),.int 0,.int (c % 1000000007)]],?_,⟨_,ua,_,_,_,_,rfl,xM _ (by decide),xi _ (by decide)⟩,.app,uN _⟩
 simp[Ju,SG]
theorem FX{gs:Gd}{t:Tf}{c f:Ev}{acc:Gc D}{E:En}(h:gOk gs S):C7 gs t c f [] acc E S=Fk (acc,S):=by
 unfold C7
 rw[vD h]
theorem Pz {gs : Gd} {t : Tf} {c f : Ev} {d : D} {ds acc : Gc D} {E : En} (h : gOk gs S) (hz : acc.length < sizeLine) : C7 gs t c f (d :: ds) acc E S = (t d E S).bind fun E1 => (c E1 S).bind fun r => match r.1 with
      | .bl true => (f E1 r.2).bind fun p => C7 gs t c f ds (acc ++ [p.1]) E1 p.2
      | .bl false => C7 gs t c f ds acc E1 r.2
      | _ => none := by
  rw [C7, vD h, vD hz]
  all_goals rfl
theorem JO{gs:Gd}{t:Tf}{c f:Ev}{d:D}{ds acc:Gc D}{E E1:En}{S1:Sto}(h:gOk gs S)(hz:acc.length<sizeLine)(e1:t d E S=Fk E1)(e2:c E1 S=Fk (.bl true,S1)):C7 gs t c f (d::ds) acc E S=(f E1 S1).bind λp=>C7 gs t c f ds (acc++[p.1]) E1 p.2:=by
 rw[Pz h hz,e1]
 show(c E1 S).bind _=_
 rw[e2]
 rfl
theorem LP{gs:Gd}{t:Tf}{c f:Ev}{d:D}{ds acc:Gc D}{E E1:En}{S1:Sto}(h:gOk gs S)(hz:acc.length<sizeLine)(e1:t d E S=Fk E1)(e2:c E1 S=Fk (.bl false,S1)):C7 gs t c f (d::ds) acc E S=C7 gs t c f ds acc E1 S1:=by
 rw[Pz h hz,e1]
 show(c E1 S).bind _=_
 rw[e2]
 rfl
theorem Lj{gs:Gd}{t:Tf}{f:Ev}{C:En}{m:Nat}{I:Sto->Prop}{R:D->D->Prop}(hg:∀S,I S->gOk gs S):∀{ds acc:Gc D} {os:En} {S:Sto},os.length=m->I S->acc.length+ds.length<=sizeLine->(∀d∈ds,∀os S,os.length=m->I S->∃us y S',us.length=m/\t d (C++os) S=Fk (C++us)/\f (C++us) S=Fk (y,S')/\I S'/\R d y)->∃ys S',C7 gs t Cr f ds acc (C++os) S=Fk (acc++ys,S')/\I S'/\ys.length=ds.length/\Paired R ds ys
 | [],acc,os,S,ho,hI,hz,h=>⟨[],S,by rw[FX (hg S hI)];simp,hI,rfl,.nil⟩
 |d::ds,acc,os,S,ho,hI,hz,h=>by
  obtain⟨us,y,S1,hu,e1,e2,I1,r1⟩:=h d uP os S ho hI
  obtain⟨ys,S2,e3,I2,l2,r2⟩:=Lj hg (ds:=ds) (acc:=acc++[y]) (os:=us) (S:=S1) hu I1 (by simp at hz ⊢; lia) λd' hd=>h d' (uJ _ hd)
  refine⟨y::ys,S2,?_,I2,by simp[l2],.cons r1 r2⟩
  rw[JO (hg S hI) (by simp at hz;lia) e1 HK,e2,Bx,e3]
  simp
theorem comp_map{gs:Gd}{t:Tf}{f:Ev}{C:En}{m:Nat}{g:D->D}{S:Sto}(hg:gOk gs S):∀{ds acc:Gc D} {os:En},os.length=m->acc.length+ds.length<=sizeLine->(∀d∈ds,∀os,os.length=m->∃us,us.length=m/\t d (C++os) S=Fk (C++us)/\f (C++us) S=Fk (g d,S))->C7 gs t Cr f ds acc (C++os) S=Fk (acc++ds.map g,S)
 | [],acc,os,ho,hz,h=>by rw[FX hg];simp
 |d::ds,acc,os,ho,hz,h=>by
  obtain⟨us,hu,e1,e2⟩:=h d uP os ho
  rw[JO hg (by simp at hz;lia) e1 HK,e2,Bx]
  rw[comp_map hg hu (by simp at hz ⊢; lia) λd' hd=>h d' (uJ _ hd)]
  simp
theorem EI{gs:Gd}{t:Tf}{b:Ex}{I:Gc D->En->Sto->Prop}(hg:∀ds E S,I ds E S->gOk gs S):∀{ds:Gc D} {E:En} {S:Sto},I ds E S->(∀d ds E S,I (d::ds) E S->∃E1 E2 S2,t d E S=Fk E1/\b E1 S=Fk (.nx,E2,S2)/\I ds E2 S2)->∃E' S',Ni gs t b ds E S=Fk (.nx,E',S')/\I [] E' S'
 | [],E,S,hI,h=>⟨E,S,Qt (hg _ _ _ hI),hI⟩
 |d::ds,E,S,hI,h=>by
  obtain⟨E1,E2,S2,e1,e2,I2⟩:=h d ds E S hI
  obtain⟨E',S',e3,I3⟩:=EI hg I2 h
  exact⟨E',S',by rw[Mb (hg _ _ _ hI),e1];simp[e2,e3],I3⟩
theorem pick{xs:Gc D}{r:Int}(h0:0<=r)(h1:r<xs.length):∃x,atI xs r=Fk x/\x∈xs:=⟨_,cu h0 h1,v3 _⟩
theorem Kt{α β:Type}{P:β->Prop}:∀{xs:Gc α} {ys:Gc β},Paired (λ_ y=>P y) xs ys->∀y∈ys,P y
 |_,_,.nil,y,h=>by cases h
 |_,_,.cons r t,y,h=>by
  rcases uI.mp h with h|h
  .rw[h];exact r
  .exact Kt t y h
theorem D9{lo:Int}{n:Nat}:(J6 lo n).length=n:=by simp[J6]
end
def Ok(G B:Nat)(r:Rat):Prop:=∃z:Nat,r*(G:Rat)=(z:Rat)/\z<=B
theorem QC{n:Nat}(h:0<n):(n:Rat)≠0:=by
 have:n≠0:=by lia
 exact_mod_cast this
theorem Ok.sz{G B k:Nat}{r:Rat}(h:Ok G B r)(hG:0<G)(g:G<2^k)(b:B<2^k):Sz k r:=by
 obtain⟨z,e,hz⟩:=h
 have e2:r=((z:Int):Rat) / ((G:Int):Rat):=by
  have:=QC hG
  rw[show(((z:Nat):Int):Rat)=(z:Rat)from rfl,show(((G:Nat):Int):Rat)=(G:Rat)from rfl,<-e]
  grind
 rw[e2]
 exact P5 (by lia) (by simpa using vT hz b) (by simpa using g)
theorem Ok.up{G B t B':Nat}{r:Rat}(h:Ok G B r)(hB:B*t<=B'):Ok (G*t) B' r:=by
 obtain⟨z,e,hz⟩:=h
 refine⟨z*t,?_,uO (vA t hz) hB⟩
 push_cast
 rw[<-e]
 grind
theorem Ok.zero{G B:Nat}:Ok G B 0:=⟨0,by simp,wR _⟩
theorem Ok.one{G B:Nat}(h:G<=B):Ok G B 1:=⟨G,by simp,h⟩
theorem Ok.mix{G B a b t:Nat}{r o:Rat}(hr:Ok G B r)(ho:Ok G B o)(ht:a+b=t)(h0:0<t):Ok (G*t) (B*t) ((r*(a:Rat)+o*(b:Rat)) / (t:Rat)):=by
 obtain⟨z,e1,h1⟩:=hr
 obtain⟨y,e2,h2⟩:=ho
 refine⟨z*a+y*b,?_,?_⟩
 .have:=QC h0
  push_cast
  rw[<-e1,<-e2]
  grind
 .rw[<-ht,Nat.mul_add]
  exact Nat.add_le_add (vA a h1) (vA b h2)
structure Tr where
 p:Nat
 k:Nat
 b:Nat
 ho:Gc Rat
 h:Int
 l:Int
structure Ld where
 k:Nat
 n:Int
 ow:Gc Rat
structure Stt where
 AE:Gc Ld
 hold:Gc Rat
 nums:Gc Int
inductive Ab where
 |Iq (p k:Nat) (n:Int)
 |K7 (a b:Nat)
 |swap (l:Nat) (g:Int) (k:Nat) (n:Int)
 |IV (t:Int) (l:Nat) (g:Int) (k:Nat) (n:Int)
 |Jo (l:Nat) (n:Int)
 |thr (l:Nat) (n:Int) (ws:Gc Int)
 |Mj (p q:Nat) (s:Rat)
noncomputable def shD(rs:Gc Rat):D:=.tup (rs.map aD)
noncomputable def Tr.d(t:Tr):D:=.tup [.int t.p,.int t.k,.int t.b,shD t.ho,.int t.h,.int t.l]
noncomputable def Ld.d(l:Ld):D:=.tup [.int l.k,.int l.n,shD l.ow]
noncomputable def Ab.d:Ab->D
 | .Iq p k n=>.tup [.str "bring",.int p,.int k,.int n]
 | .K7 a b=>.tup [.str "pool",.int a,.int b]
 | .swap l g k n=>.tup [.str "swap",.int l,.int g,.int k,.int n]
 | .IV t l g k n=>.tup [.str "trade",.int t,.int l,.int g,.int k,.int n]
 | .Jo l n=>.tup [.str "spoil",.int l,.int n]
 | .thr l n ws=>.tup [.str "throw",.int l,.int n,.tup (ws.map .int)]
 | .Mj p q s=>.tup [.str "sell",.int p,.int q,aD s]
noncomputable def Jp(x:Rat)(os ss:Gc Rat):Gc Rat:=zF (λs o=>s*(1-x)+o*x) ss os
noncomputable def IM(p q:Nat)(s:Rat)(ss:Gc Rat):Gc Rat:=(ss.set p (ss.getD p 0-ss.getD p 0*s)).set q (ss.getD q 0+ss.getD p 0*s)
noncomputable def DK(n m:Int)(ss os:Gc Rat):Gc Rat:=zF (λs o=>(s*n+o*m) / (n+m:Int)) ss os
noncomputable def EH(t:Tr)(ls:Gc Ld)(ws:Gc Int):Int:=(ls.map λl=>l.n*ws.getD l.k 0).sum+t.b*ws.getD t.k 0
noncomputable def KQ(t:Tr)(ls:Gc Ld)(l:Nat)(n:Int)(ws:Gc Int):Rat:=((n*ws.getD ((ls[l]?.map (·.k)).getD 0) 0:Int):Rat) / (EH t ls ws:Rat)
noncomputable def AU(ls:Gc Ld)(l:Nat):Ld:=ls.getD l ⟨0,0,[]⟩
noncomputable def less(ls:Gc Ld)(l:Nat)(n:Int):Gc Ld:=ls.set l {AU ls l with n:=(AU ls l).n-n}
noncomputable def WE(p i:Nat):Gc Rat:=(uU p).map λj=>if j=i then 1 else 0
noncomputable def step(t:Tr)(s:Stt):Ab->Stt
 | .Iq p k n=>{s with AE:=s.AE++[⟨k,n,WE t.p p⟩]}
 | .K7 a b=>{s with AE:=less (less s.AE a (AU s.AE a).n) b (AU s.AE b).n++[⟨(AU s.AE a).k,(AU s.AE a).n+(AU s.AE b).n,DK (AU s.AE a).n (AU s.AE b).n (AU s.AE a).ow (AU s.AE b).ow⟩]}
 | .swap l g k n=>{s with AE:=less s.AE l g++[⟨k,n,(AU s.AE l).ow⟩]}
 | .IV u l g k n=>{s with AE:=less s.AE l g++[⟨k,n,(AU s.AE l).ow⟩],nums:=s.nums++[u]}
 | .Jo l n=>{s with AE:=less s.AE l n}
 | .thr l n ws=>{s with AE:=(less s.AE l n).map λx=>{x with ow:=Jp (KQ t s.AE l n ws) (AU s.AE l).ow x.ow},hold:=Jp (KQ t s.AE l n ws) (AU s.AE l).ow s.hold}
 | .Mj p q x=>{s with AE:=s.AE.map λy=>{y with ow:=IM p q x y.ow},hold:=IM p q x s.hold}
def Kg(t:Tr):Prop:=1<=t.p/\t.p<=4/\1<=t.k/\t.k<=5/\1<=t.b/\t.b<=20
def Can(t:Tr)(s:Stt):Ab->Prop
 | .Iq p k n=>p<t.p/\k<t.k/\1<=n/\n<2^131
 | .K7 a b=>a≠b/\a<s.AE.length/\b<s.AE.length/\0<(AU s.AE a).n/\0<(AU s.AE b).n/\(AU s.AE a).k=(AU s.AE b).k
 | .swap l g k n=>l<s.AE.length/\1<=g/\g<=(AU s.AE l).n/\k<t.k/\k≠(AU s.AE l).k/\1<=n/\n<2^131
 | .IV u l g k n=>l<s.AE.length/\1<=g/\g<=(AU s.AE l).n/\k<t.k/\k≠(AU s.AE l).k/\1<=n/\n<2^131/\u∉s.nums/\0<=u/\u<=9
 | .Jo l n=>l<s.AE.length/\1<=n/\n<=(AU s.AE l).n
 | .thr l n ws=>l<s.AE.length/\1<=n/\n<=(AU s.AE l).n/\ws.length=t.k+1/\∀w∈ws,1<=w/\w<=99
 | .Mj p q x=>p≠q/\p<t.p/\q<t.p/\0<x.num/\x.num<=x.den/\x.den<=12
structure GC(t:Tr)(k:Nat)(s:Stt):Prop where
 len:s.AE.length<=4+k
 kind:∀l∈s.AE,l.k<t.k
 pcs:∀l∈s.AE,0<=l.n/\l.n<2^(131+k)
 own:∀l∈s.AE,l.ow.length=t.p
 hold:s.hold.length=t.p
 nm:s.nums.length<=k
 gb:∃G B:Nat,0<G/\G<=B/\B<2^(30+170*k)/\(∀l∈s.AE,∀r∈l.ow,Ok G B r)/\∀r∈s.hold,Ok G B r
theorem GC.sz{t:Tr}{k:Nat}{s:Stt}(h:GC t k s):(∀l∈s.AE,∀r∈l.ow,Sz (30+170*k) r)/\∀r∈s.hold,Sz (30+170*k) r:=by
 obtain⟨G,B,g0,gb,b,h1,h2⟩:=h.gb
 exact⟨λl hl r hr=>(h1 l hl r hr).sz g0 (vT gb b) b,λr hr=>(h2 r hr).sz g0 (vT gb b) b⟩
theorem A5{ls:Gc Ld}{l:Nat}(h:l<ls.length):AU ls l∈ls:=by
 unfold AU
 rw[uM,W1 h]
 exact v3 h
theorem G4{ls:Gc Ld}{l:Nat}(h:l<ls.length):ls[l]?=Fk (AU ls l):=by
 unfold AU
 rw[uM,W1 h]
 rfl
theorem Qo{ls:Gc Ld}{l:Nat}{n:Int}{x:Ld}(h:x∈less ls l n)(hl:l<ls.length):x∈ls\/x={AU ls l with n:=(AU ls l).n-n}:=by
 unfold less at h
 rcases xI h with h|h
 .exact .inl h
 .exact .inr h
theorem Ca{ls:Gc Ld}{l:Nat}{n:Int}:(less ls l n).length=ls.length:=by simp[less]
section
variable{S:Sto}{p:Nat}
theorem Tq{P:Int->Prop}:∀{ys:Gc D},(∀y∈ys,∃i:Int,y=.int i/\P i)->∃ns:Gc Int,ys=ns.map D.int/\∀n∈ns,P n
 | [],_=>⟨[],rfl,λn h=>by cases h⟩
 |y::ys,h=>by
  obtain⟨i,rfl,hi⟩:=h y uP
  obtain⟨ns,rfl,hn⟩:=Tq (P:=P) (ys:=ys) λz hz=>h z (uJ _ hz)
  exact⟨i::ns,rfl,λn hn'=>by
   rcases uI.mp hn' with e|e
   .rw[e];exact hi
   .exact hn n e⟩
theorem Su{ns:Gc Int}(h:∀n∈ns,0<=n/\n<=8):0<=ns.sum/\ns.sum<=8*ns.length/\∀n∈ns,n<=ns.sum:=by
 induction ns with
 |nil=>simp
 |cons a l ih=>
  have h1:=h a uP
  obtain⟨i1,i2,i3⟩:=ih λn hn=>h n (uJ _ hn)
  rw[wZ,vJ]
  refine⟨by lia,by push_cast;lia,λn hn=>?_⟩
  rcases uI.mp hn with e|e
  .lia
  .have:=i3 n e;lia
theorem Vm (h : CQ p S) {n : Nat} (hn : n ≤ 20) : ∃ (ns : Gc Int) (S' : Sto), C7 [] (tNm 1) Cr (eOp (o2 wIx) [(Fh [(eC (.int 0)), (eC (.int 1)), (AJ AI [(eV 0), (eC (.int 4))]), (AJ AI [(eV 0), (eC (.int 9))])]), (AJ AI [(eV 0), (eC (.int 4))])]) (J6 0 n) [] [Fk (.ref p), uC] S = Fk (ns.map D.int, S') /\ Pn p S S' /\ ns.length = n /\ ∀ i ∈ ns, 0 ≤ i /\ i ≤ 8 := by
  obtain ⟨ys, S', e, hI, l, r⟩ := Lj (gs := []) (t := tNm 1) (f := eOp (o2 wIx) [(Fh [(eC (.int 0)), (eC (.int 1)), (AJ AI [(eV 0), (eC (.int 4))]), (AJ AI [(eV 0), (eC (.int 9))])]), (AJ AI [(eV 0), (eC (.int 4))])]) (C := [Fk (.ref p)]) (m := 1) (I := Pn p S) (R := fun _ y => ∃ i : Int, y = .int i /\ 0 ≤ i /\ i ≤ 8)
    (fun _ _ => Au) (ds := J6 0 n) (acc := []) (os := [uC]) rfl (Pn.refl h) (by rw [D9]; simp; exact AN (by lia)) fun d _ os S0 ho I0 => by
      obtain ⟨o, rfl⟩ := Ut ho
      obtain ⟨r1, S1, e1, a1, b1, p1⟩ := Aj I0.pen (n := 4) (by decide) (by decide)
      obtain ⟨r2, S2, e2, a2, b2, p2⟩ := Aj p1.pen (n := 9) (by decide) (by decide)
      obtain ⟨r3, S3, e3, a3, b3, p3⟩ := Aj p2.pen (n := 4) (by decide) (by decide)
      obtain ⟨x, ex, hx⟩ := pick (xs := [.int 0, .int 1, .int r1, .int r2]) (r := r3) a3 (by simpa using b3)
      refine ⟨[Fk d], x, S3, rfl, by simp, by simp [e1, e2, e3, ex], ((I0.trans p1).trans p2).trans p3, ?_⟩
      simp only [uI, uX, vV] at hx
      rcases hx with rfl | rfl | rfl | rfl
      · exact ⟨0, rfl, by decide, by decide⟩
      · exact ⟨1, rfl, by decide, by decide⟩
      · exact ⟨r1, rfl, by lia, by lia⟩
      · exact ⟨r2, rfl, by lia, by lia⟩
  obtain ⟨ns, rfl, hns⟩ := Tq (Kt r)
  exact ⟨ns, S', by simpa using e, hI, by simpa [D9] using l, hns⟩
noncomputable def LA(ns:Gc Int):Gc Rat:=ns.map λ(n:Int)=>(n:Rat) / (ns.sum:Rat)
theorem OY{ns:Gc Int}(h:∀n∈ns,0<=n/\n<=8)(hs:0<ns.sum):∀r∈LA ns,Ok ns.sum.toNat ns.sum.toNat r:=by
 intro r hr
 obtain⟨n,hn,rfl⟩:=uk.mp hr
 have h1:=h n hn
 have h2:=(Su h).2.2 n hn
 refine⟨n.toNat,?_,by lia⟩
 have e1:((ns.sum.toNat:Nat):Rat)=(ns.sum:Rat):=by
  have:((ns.sum.toNat:Nat):Int)=ns.sum:=by lia
  exact congrArg (λz:Int=>(z:Rat)) this
 have e2:((n.toNat:Nat):Rat)=(n:Rat):=by
  have:((n.toNat:Nat):Int)=n:=by lia
  exact congrArg (λz:Int=>(z:Rat)) this
 rw[e1,e2]
 have:(ns.sum:Rat)≠0:=by
  intro z
  have:=xY.mp z
  lia
 grind
theorem Wx{s:Rat}:∀{ns:Gc Int},(ns.map λ(n:Int)=>(n:Rat) / s).sum=(ns.sum:Rat) / s
 | []=>by simp;grind
 |n::ns=>by
  rw[ui,wZ,wZ,Wx (ns:=ns)]
  push_cast
  grind
theorem S9{ns:Gc Int}(hs:0<ns.sum):(LA ns).sum=1:=by
 unfold LA
 rw[Wx]
 have:(ns.sum:Rat)≠0:=by
  intro z
  have:=xY.mp z
  lia
 grind
theorem U4{ns:Gc Int}{q:Nat}(hq:S[q]?=Fk (.lst (ns.map D.int)))(hl:ns.length<=20)(hn:∀n∈ns,0<=n/\n<=8)(hs:0<ns.sum):C7 [(q,ns.map D.int)] (tNm 1) Cr (AJ CL [eV 1,eOp (o1 aH) [eV 0]]) (ns.map D.int) [] [Fk (.ref q),uC] S=Fk ((LA ns).map aD,S):=by
 obtain⟨s1,s2,s3⟩:=Su hn
 have:=comp_map (gs:=[(q,ns.map D.int)]) (t:=tNm 1) (f:=AJ CL [eV 1,eOp (o1 aH) [eV 0]]) (C:=[Fk (.ref q)]) (m:=1) (g:=λd=>match d with| .int n=>aD ((n:Rat) / (ns.sum:Rat))|d=>d) (S:=S) (λg hg=>by rw[uo.mp hg];exact AY hq) (ds:=ns.map D.int) (acc:=[]) (os:=[uC]) rfl (by simp;exact AN (by lia)) λd hd os ho=>by
  obtain⟨o,rfl⟩:=Ut ho
  obtain⟨i,hi,rfl⟩:=uk.mp hd
  have m:=aq (S:=S) (t:=i) hs (GP (by lia) (by lia))
  exact⟨[Fk (.int i)],rfl,by simp,by simp[BE hq,Iw,m]⟩
 have e2:(ns.map D.int).map (λd=>match d with| .int n=>aD ((n:Rat) / (ns.sum:Rat))|d=>d)=(LA ns).map aD:=by
  unfold LA
  rw[vZ,vZ]
  rfl
 rw[e2]at this
 simpa using this
theorem VU(h:CQ p S){n:Nat}(h1:1<=n)(h2:n<=4):∃rs S',Ep [.ref p,.int n] S=Fk (shD rs,S')/\Pn p S S'/\(rs.length=n/\rs.sum=1)/\∃G:Nat,0<G/\G<=32/\∀r∈rs,Ok G G r:=by
 obtain⟨ns,S1,e1,p1,l1,i1⟩:=Vm (n:=n) h (by lia)
 obtain⟨s1,s2,s3⟩:=Su i1
 have hq:(S1++[Cl.lst (ns.map D.int)])[S1.length]?=Fk (.lst (ns.map D.int)):=ua
 have pp:CQ p (S1++[Cl.lst (ns.map D.int)]):=p1.pen.app _
 have hlt:=p1.pen.lt
 have r1:Jn (n:Int)=true:=DY (by lia) (by lia)
 by_cases hz:ns.sum=0
 .obtain⟨r,S2,e2,a2,b2,p2⟩:=Aj pp (n:=n) (by lia) (by lia)
  have hq2:S2[S1.length]?=Fk (.lst (ns.map D.int)):=p2.get hq (by lia)
  have hn':∀x∈ns.set r.toNat 1,0<=x/\x<=8:=λx hx=>by
   rcases xI hx with hx|rfl
   .exact i1 x hx
   .exact⟨by decide,by decide⟩
  have hs':0<(ns.set r.toNat 1).sum:=by
   have:=(Su hn').2.2 1 (List.mem_set (by lia) 1)
   lia
  have hq3:(S2.set S1.length (.lst ((ns.set r.toNat 1).map D.int)))[S1.length]?=Fk (.lst ((ns.set r.toNat 1).map D.int)):=uS (Ad hq2)
  have e3:=U4 hq3 (by simp;lia) hn' hs'
  have ix:ixN ns.length r=Fk r.toNat:=Ua a2 (by lia)
  refine⟨LA (ns.set r.toNat 1),S2.set S1.length (.lst ((ns.set r.toNat 1).map D.int)),?_,⟨?_,?_⟩,⟨by simp[LA,l1],S9 hs'⟩,_,(show 0<(ns.set r.toNat 1).sum.toNat by lia),?_,OY hn' hs'⟩
  .have sq3:=Hh hq3
   rw[yC]at e3 sq3 hq3
   simp[Ep,La,r1,e1,BE hq,Iw,hz,e2,AY hq2,ix,sq3,e3,shD]
  .have g:Ce [p] S (S1++[Cl.lst (ns.map D.int)]):=p1.same.trans .app
   refine⟨uO (g.trans p2.same).len (by simp),λm hm hmp=>?_⟩
   rw[uK (by have:=p1.same.len;lia)]
   exact(g.trans p2.same).keep m hm hmp
  .obtain⟨ds,ed,hd⟩:=p2.pen
   exact⟨ds,by rw[uK (by lia)];exact ed,hd⟩
  .have:=(Su hn').2.1
   rw[wt]at this
   lia
 .have hz':(ns.sum==0)=false:=by simpa using hz
  have e3:=U4 hq (by lia) i1 (by lia)
  refine⟨LA ns,S1++[Cl.lst (ns.map D.int)],?_,⟨p1.same.trans .app,pp⟩,⟨by simp[LA,l1],S9 (by lia)⟩,_,(show 0<ns.sum.toNat by lia),by lia,OY i1 (by lia)⟩
  have sq3:=Hh hq
  simp[Ep,La,r1,e1,BE hq,Iw,hz',sq3,e3,shD]
end
section
variable{S:Sto}{p:Nat}
theorem gy:(2:Nat)<IC:=GP (n:=2) (by decide) (by decide)
theorem Kh(h:CQ p S):∃n S',BL [.ref p] S=Fk (.int n,S')/\Pn p S S'/\1<=n/\n<2^131:=by
 obtain⟨r1,S1,e1,a1,b1,p1⟩:=Aj h (n:=99) (by decide) (by decide)
 obtain⟨r2,S2,e2,a2,b2,p2⟩:=Aj p1.pen (n:=4) (by decide) (by decide)
 obtain⟨r3,S3,e3,a3,b3,p3⟩:=Aj p2.pen (n:=40) (by decide) (by decide)
 obtain⟨r4,S4,e4,a4,b4,p4⟩:=Aj p3.pen (n:=999) (by decide) (by decide)
 obtain⟨r5,S5,e5,a5,b5,p5⟩:=Aj p4.pen (n:=7) (by decide) (by decide)
 have pp:=(((p1.trans p2).trans p3).trans p4).trans p5
 have d2:=gy
 have go:∀g:Int,1<=g->g<2^131->∃n:Int,atI [D.int (1+r2),.int (1+r3),.int (1+r4),.int g] (r5 / 2)=Fk (.int n)/\1<=n/\n<2^131:=λg g1 g2=>by
  obtain⟨x,ex,hx⟩:=pick (xs:=[D.int (1+r2),.int (1+r3),.int (1+r4),.int g]) (r:=r5 / 2) (by lia) (by simp;lia)
  simp only[uI,uX,vV]at hx
  rcases hx with rfl|rfl|rfl|rfl
  .exact⟨_,ex,by lia,by lia⟩
  .exact⟨_,ex,by lia,by lia⟩
  .exact⟨_,ex,by lia,by lia⟩
  .exact⟨_,ex,g1,g2⟩
 first
  |(obtain⟨n,en,n1,n2⟩:=go (10^39+r1) (by lia) (by lia)
    exact⟨n,S5,by simp[BL,Ki,e1,e2,e3,e4,e5,d2]at en ⊢; simp[en],pp,n1,n2⟩)
  |(obtain⟨n,en,n1,n2⟩:=go (10^30+r1) (by lia) (by lia)
    exact⟨n,S5,by simp[BL,Ki,e1,e2,e3,e4,e5,d2]at en ⊢; simp[en],pp,n1,n2⟩)
theorem HJ{r:Int}(h:0<=r):∃m:Nat,r=m:=⟨r.toNat,by lia⟩
theorem Zg(h:CQ p S):∃t S',JN [.ref p] S=Fk (Tr.d t,S')/\Pn p S S'/\Kg t/\(t.ho.length=t.p/\t.ho.sum=1)/\∃G:Nat,0<G/\G<=32/\∀r∈t.ho,Ok G G r:=by
 obtain⟨r1,S1,e1,a1,b1,p1⟩:=Aj h (n:=4) (by decide) (by decide)
 obtain⟨r2,S2,e2,a2,b2,p2⟩:=Aj p1.pen (n:=5) (by decide) (by decide)
 obtain⟨r3,S3,e3,a3,b3,p3⟩:=Aj p2.pen (n:=3) (by decide) (by decide)
 obtain⟨r4,S4,e4,a4,b4,p4⟩:=Aj p3.pen (n:=20) (by decide) (by decide)
 obtain⟨r5,S5,e5,a5,b5,p5⟩:=Aj p4.pen (n:=2) (by decide) (by decide)
 obtain⟨m1,rfl⟩:=HJ a1
 obtain⟨m2,rfl⟩:=HJ a2
 obtain⟨b,eb,hb1,hb2⟩:∃b:Nat,atI [D.int (1+r3),.int (1+r4)] r5=Fk (.int b)/\1<=b/\b<=20:=by
  obtain⟨x,ex,hx⟩:=pick (xs:=[D.int (1+r3),.int (1+r4)]) (r:=r5) a5 (by simpa using b5)
  obtain⟨m3,rfl⟩:=HJ a3
  obtain⟨m4,rfl⟩:=HJ a4
  simp only[uI,uX,vV]at hx
  rcases hx with rfl|rfl
  .exact⟨1+m3,by rw[ex];simp,by lia,by lia⟩
  .exact⟨1+m4,by rw[ex];simp,by lia,by lia⟩
 obtain⟨rs,S6,e6,p6,l6,G,g0,g1,g2⟩:=VU p5.pen (n:=1+m1) (by lia) (by lia)
 obtain⟨r7,S7,e7,a7,b7,p7⟩:=Aj p6.pen (n:=10) (by decide) (by decide)
 obtain⟨r8,S8,e8,a8,b8,p8⟩:=Aj p7.pen (n:=10) (by decide) (by decide)
 rw[show((1+m1:Nat):Int)=1+(m1:Int) by lia]at e6
 refine⟨⟨1+m1,1+m2,b,rs,r7,r8⟩,S8,?_,((((((p1.trans p2).trans p3).trans p4).trans p5).trans p6).trans p7).trans p8,⟨by simp,by simp;lia,by simp,by simp;lia,hb1,hb2⟩,l6,G,g0,g1,g2⟩
 simp[JN,Oe,e1,e2,e3,e4,e5,eb,e6,e7,e8,Tr.d]
theorem aQ(h:CQ p S):∃x S',Hm [.ref p] S=Fk (aD x,S')/\Pn p S S'/\0<x.num/\x.num<=x.den/\x.den<=12:=by
 obtain⟨r1,S1,e1,a1,b1,p1⟩:=Aj h (n:=12) (by decide) (by decide)
 obtain⟨r2,S2,e2,a2,b2,p2⟩:=Aj p1.pen (n:=1+r1) (by lia) (by lia)
 have m:=aq (S:=S2) (t:=1+r2) (b:=1+r1) (by lia) (GP (by lia) (by lia))
 obtain⟨m1,rfl⟩:=HJ a1
 obtain⟨m2,rfl⟩:=HJ a2
 have rp:=Oc (1+(m2:Int)) (1+m1) (by lia)
 have eb:(((1+(m1:Int):Int)):Rat)=(((1+m1:Nat)):Rat):=by
  have:(1+(m1:Int))=((1+m1:Nat):Int):=by lia
  rw[this];rfl
 have en:(1+(m2:Int)).natAbs=1+m2:=by lia
 have gp:0<zE (1+m2) (1+m1):=Nat.gcd_pos_of_pos_left _ (by lia)
 obtain⟨q,hq⟩:=Nat.gcd_dvd_left (1+m2) (1+m1)
 obtain⟨q',hq'⟩:=Nat.gcd_dvd_right (1+m2) (1+m1)
 refine⟨((1+(m2:Int):Int):Rat) / ((1+(m1:Int):Int):Rat),S2,?_,p1.trans p2,?_,?_,?_⟩
 .simp[Hm,O3,e1,e2,m]
 .rw[eb,rp.1,en]
  generalize zE (1+m2) (1+m1)=g at*
  have:(1+(m2:Int))=((g*q:Nat):Int):=by lia
  rw[this,AAZ,zt _ (by lia)]
  have:q≠0:=λz=>by subst z;lia
  lia
 .rw[eb,rp.1,rp.2,en]
  generalize zE (1+m2) (1+m1)=g at*
  have t1:(1+(m2:Int))=((g*q:Nat):Int):=by lia
  rw[t1,AAZ,zt _ (by lia),hq',Nat.mul_div_cancel_left _ gp]
  have:q<=q':=by
   have:g*q<=g*q':=by lia
   exact Nat.le_of_mul_le_mul_left this gp
  lia
 .rw[eb,rp.2]
  exact uO (Nat.div_le_self _ _) (by lia)
theorem SF (h : CQ p S) {n : Nat} (hn : n ≤ 6) : ∃ (ws : Gc Int) (S' : Sto), Cj [.ref p, .int n] S = Fk (.tup (ws.map .int), S') /\ Pn p S S' /\ ws.length = n /\ ∀ w ∈ ws, 1 ≤ w /\ w ≤ 99 := by
  obtain ⟨ys, S', e, hI, l, r⟩ := Lj (gs := []) (t := tNm 1) (f := (eOp (o2 CJ) [(eC (.int 1)), (eOp (o2 wIx) [(Fh [(AJ AI [(eV 0), (eC (.int 3))]), (AJ AI [(eV 0), (eC (.int 99))])]), (AJ AI [(eV 0), (eC (.int 2))])])])) (C := [Fk (.ref p)]) (m := 1) (I := Pn p S) (R := fun _ y => ∃ i : Int, y = .int i /\ 1 ≤ i /\ i ≤ 99)
    (fun _ _ => Au) (ds := J6 0 n) (acc := []) (os := [uC]) rfl (Pn.refl h) (by rw [D9]; simp; exact AN (by lia)) fun d _ os S0 ho I0 => by
      obtain ⟨o, rfl⟩ := Ut ho
      obtain ⟨r1, S1, e1, a1, b1, p1⟩ := Aj I0.pen (n := 3) (by decide) (by decide)
      obtain ⟨r2, S2, e2, a2, b2, p2⟩ := Aj p1.pen (n := 99) (by decide) (by decide)
      obtain ⟨r3, S3, e3, a3, b3, p3⟩ := Aj p2.pen (n := 2) (by decide) (by decide)
      obtain ⟨x, ex, hx⟩ := pick (xs := [.int r1, .int r2]) (r := r3) a3 (by simpa using b3)
      simp only [uI, uX, vV] at hx
      rcases hx with rfl | rfl
      · exact ⟨[Fk d], .int (1 + r1), S3, rfl, by simp, by simp [e1, e2, e3, ex], ((I0.trans p1).trans p2).trans p3, _, rfl, by lia, by lia⟩
      · exact ⟨[Fk d], .int (1 + r2), S3, rfl, by simp, by simp [e1, e2, e3, ex], ((I0.trans p1).trans p2).trans p3, _, rfl, by lia, by lia⟩
  obtain ⟨ns, rfl, hns⟩ := Tq (Kt r)
  have r1 : Jn (n : Int) = true := DY (by lia) (by lia)
  have e' : C7 [] (tNm 1) Cr (eOp (o2 CJ) [(eC (.int 1)), (eOp (o2 wIx) [(Fh [(AJ AI [(eV 0), (eC (.int 3))]), (AJ AI [(eV 0), (eC (.int 99))])]), (AJ AI [(eV 0), (eC (.int 2))])])]) (J6 0 n) [] [Fk (.ref p), uC] S = Fk (ns.map D.int, S') := by simpa using e
  exact ⟨ns, S', by simp [Cj, Mx, r1, e'], hI, by simpa [D9] using l, hns⟩
def JQ(t:Tr)(ls:Gc Ld):Prop:=(∀l∈ls,l.k<t.k/\1<=l.n/\l.n<2^131/\l.ow.length=t.p/\l.ow.sum=1)/\∃G:Nat,0<G/\G<=32^ls.length/\∀l∈ls,∀r∈l.ow,Ok G G r
theorem JQ.snoc{t:Tr}{ls:Gc Ld}{l:Ld}(h:JQ t ls)(h1:l.k<t.k/\1<=l.n/\l.n<2^131/\l.ow.length=t.p/\l.ow.sum=1){g:Nat}(g0:0<g)(g1:g<=32)(g2:∀r∈l.ow,Ok g g r):JQ t (ls++[l]):=by
 obtain⟨ha,G,G0,G1,G2⟩:=h
 refine⟨λx hx=>?_,G*g,x8 G0 g0,?_,λx hx r hr=>?_⟩
 .rcases ub.mp hx with hx|hx
  .exact ha x hx
  .rw[uo.mp hx];exact h1
 .rw[vd,AAg,AAT]
  exact zY G1 g1
 .rcases ub.mp hx with hx|hx
  .exact(G2 x hx r hr).up (uN _)
  .rw[uo.mp hx]at hr
   have:=(g2 r hr).up (t:=G) (B':=G*g) (by rw[xO];exact uN _)
   rwa [xO g G]at this
end
section
variable{S:Sto}{p:Nat}
theorem JQ.nil{t:Tr}:JQ t []:=⟨λl hl=>(nomatch hl),1,by decide,by simp,λl hl=>(nomatch hl)⟩
theorem bc(h:CQ p S){t:Tr}(ht:Kg t):∃(ls:Gc Ld) (S':Sto),JW [.ref p,t.d] S=Fk (.tup (ls.map Ld.d),S')/\Pn p S S'/\JQ t ls/\ls.length<=4:=by
 obtain⟨t1,t2,t3,t4,t5,t6⟩:=ht
 have hlt:=h.lt
 have hq:(S++[Cl.lst []])[S.length]?=Fk (.lst []):=ua
 obtain⟨r1,S1,e1,a1,b1,p1⟩:=Aj (h.app [Cl.lst []]) (n:=5) (by decide) (by decide)
 obtain⟨r2,S2,e2,a2,b2,p2⟩:=Aj p1.pen (n:=3) (by decide) (by decide)
 obtain⟨n,en,hn⟩:∃n:Nat,atI [D.int 0,.int 1,.int r1] r2=Fk (.int n)/\n<=4:=by
  obtain⟨x,ex,hx⟩:=pick (xs:=[D.int 0,.int 1,.int r1]) (r:=r2) a2 (by simpa using b2)
  simp only[uI,uX,vV]at hx
  rcases hx with rfl|rfl|rfl
  .exact⟨0,ex,by decide⟩
  .exact⟨1,ex,by decide⟩
  .exact⟨r1.toNat,by rw[ex,vP a1],by lia⟩
 have q2:S2[S.length]?=Fk (.lst []):=(p1.trans p2).get hq (by lia)
 have rn:Jn (n:Int)=true:=DY (by lia) (by lia)
 obtain⟨E',S',ef,ls,o,rfl,f1,f2,f3,f4,f5⟩:=EI (gs:=[]) (t:=tNm 3) (b:=Bm (Le L9 (eV 2) [Cm [AJ AI [eV 0,eOp (o2 wIx) [eV 1,eC (.int 1)]],AJ BL [eV 0],AJ Ep [eV 0,eOp (o2 wIx) [eV 1,eC (.int 0)]]]]))
  (I:=λds E S'=>∃(ls:Gc Ld) (o:uD D),E=[Fk (.ref p),Fk t.d,Fk (.ref S.length),o]/\S'[S.length]?=Fk (.lst (ls.map Ld.d))/\CQ p S'/\Ce [p] S S'/\JQ t ls/\ls.length+ds.length<=4)
  (λ_ _ _ _=>Au) (ds:=J6 0 n) (E:=[Fk (.ref p),Fk t.d,Fk (.ref S.length),uC]) (S:=S2)
  ⟨[],uC,rfl,q2,p2.pen,Ce.app.trans (p1.trans p2).same,JQ.nil,by simp[D9];exact hn⟩ (by
    rintro d ds E S0 ⟨ls,o,rfl,i1,i2,i3,i4,i5⟩
    obtain⟨x1,T1,g1,c1,d1,k1⟩:=Aj i2 (n:=t.k) (by lia) (by lia)
    obtain⟨x2,T2,g2,k2,c2,d2⟩:=Kh k1.pen
    obtain⟨rs,T3,g3,k3,l3,G,G0,G1,G2⟩:=VU k2.pen (n:=t.p) t1 t2
    obtain⟨m1,rfl⟩:=HJ c1
    have kk:=(k1.trans k2).trans k3
    have j1:T3[S.length]?=Fk (.lst (ls.map Ld.d)):=kk.get i1 (by lia)
    have hz:ls.length<sizeLine:=uG (show ls.length<5 by lia) (AN (by decide))
    refine⟨[Fk (.ref p),Fk t.d,Fk (.ref S.length),Fk d],[Fk (.ref p),Fk t.d,Fk (.ref S.length),Fk d],T3.set S.length (.lst ((ls++[Ld.mk m1 x2 rs]).map Ld.d)),by simp,?_,ls++[Ld.mk m1 x2 rs],Fk d,rfl,uS (Ad j1),?_,?_,i4.snoc (l:=Ld.mk m1 x2 rs) ⟨show m1<t.k by lia,c2,d2,l3⟩ G0 G1 G2,by simp at i5 ⊢; lia⟩
    .have e3:atI [D.int t.p,.int t.k,.int t.b,shD t.ho,.int t.h,.int t.l] 1=Fk (.int t.k):=by simp
     simp[Tr.d,g1,g2,g3,AY i1,AY j1,hz,Ld.d]
    .obtain⟨ds',ed,hd⟩:=kk.pen
     exact⟨ds',by rw[uK (by lia)];exact ed,hd⟩
    .refine⟨uO (i3.trans kk.same).len (by simp),λm hm hmp=>?_⟩
     rw[uK (by lia)]
     exact(i3.trans kk.same).keep m hm hmp)
 refine⟨ls,S',?_,⟨f3,f2⟩,f4,by simpa using f5⟩
 simp[JW,O9,e1,e2,en,rn,ef,BE f1]
noncomputable def Cq(x:Ld):Cl:=.lst [.int x.k,.int x.n,shD x.ow]
structure SAt(S:Sto)(s l m:Nat)(as:Gc Nat)(st:Stt):Prop where
 root:S[s]?=Fk (.lst [.ref l,shD st.hold,.ref m])
 lo:S[l]?=Fk (.lst (as.map .ref))
 nu:S[m]?=Fk (.lst (st.nums.map .int))
 ld:∀(i a:Nat) (x:Ld),as[i]?=Fk a->st.AE[i]?=Fk x->S[a]?=Fk (Cq x)
 len:as.length=st.AE.length
 nd:(s::l::m::as).Nodup
theorem cn:∀{ls:Gc Ld} {acc:Gc D} {o:uD D} {S:Sto},acc.length+ls.length<=100->C7 [] (tNm 0) Cr (gu (o1 L5) [eV 0]) (ls.map Ld.d) acc [o] S=Fk (acc++(List.range' S.length ls.length).map D.ref,S++ls.map Cq)
 | [],acc,o,S,h=>by rw[vy,FX Au];simp
 |x::ls,acc,o,S,h=>by
  rw[ui,JO (E1:=[Fk x.d]) Au (uG (show acc.length<101 by simp at h;lia) (AN (by decide))) (by simp) HK]
  have:gu (o1 L5) [eV 0] [Fk x.d] S=Fk (.ref S.length,S++[Cq x]):=by simp[Ld.d,Cq]
  rw[this,Bx,cn (by simp at h ⊢; lia)]
  simp[List.range'_succ]
theorem getElem?_at{α:Type}{xs:Gc α}{x:α}{n:Nat}(h:n=xs.length):(xs++[x])[n]?=Fk x:=by subst h;exact ua
theorem RJ{t:Tr}{ls:Gc Ld}{x:D}(hl:ls.length<=20):∃s l m as S',Dc [.tup [t.d,.tup (ls.map Ld.d),x]] S=Fk (.ref s,S')/\SAt S' s l m as ⟨ls,t.ho,[]⟩/\Ce [] S S'/\(∀n∈s::l::m::as,S.length<=n):=by
 have e:=cn (ls:=ls) (acc:=[]) (o:=uC) (S:=S) (by simp;lia)
 refine⟨S.length+ls.length+2,S.length+ls.length,S.length+ls.length+1,List.range' S.length ls.length,S++ls.map Cq++[.lst ((List.range' S.length ls.length).map D.ref)]++[.lst []]++[.lst [.ref (S.length+ls.length),shD t.ho,.ref (S.length+ls.length+1)]],?_,⟨?_,?_,?_,?_,?_,?_⟩,?_,?_⟩
 .simp[Dc,OB,Tr.d,e,shD]
  lia
 .exact getElem?_at (by simp;lia)
 .rw[uH (by simp),uH (by simp)]
  exact getElem?_at (by simp)
 .rw[uH (by simp;lia)]
  exact getElem?_at (by simp;lia)
 .intro i a y ha hy
  have hi:i<ls.length:=(uL.mp hy).1
  have:a=S.length+i:=by
   rw[List.getElem?_range' hi]at ha
   simp at ha;lia
  subst this
  rw[uH (by simp;lia),uH (by simp;lia),uH (by simp;lia),vI (by lia)]
  have hy':ls[i]?=Fk y:=hy
  simp[hy']
 .simp
 .rw[wq,wq,wq]
  refine⟨?_,?_,?_,List.nodup_range'⟩
  .simp only[uI,yj];lia
  .simp only[uI,yj];lia
  .simp only[yj];lia
 .rw[yb,yb,yb]
  exact .app
 .intro n hn
  simp only[uI,yj]at hn
  lia
end
section
variable{S:Sto}{p:Nat}
@[simp] theorem sI{rs:List Rat}{S:Sto}:sqD S (shD rs)=some (rs.map aD,[]):=nr rfl
@[simp] theorem sJ{rs:List Rat}{S:Sto}:dr S (shD rs)=.val (shD rs):=nr rfl
@[simp] theorem qE{rs:List Rat}:asS (.val (shD rs))=some (rs.map aD):=nr rfl
@[simp] theorem nN{S:Sto}{r:List D}:dr (S++[.lst r]) (.ref S.length)=.own r:=BE List.getElem?_concat_length
@[simp] theorem hJ{S:Sto}{r:List D}:Gj (S++[.lst r]) S.length=some r:=AY List.getElem?_concat_length
theorem set_same{S:Sto}{q:Nat}{c:Cl}(h:S[q]?=Fk c):S.set q c=S:=by
 apply zl
 intro i
 by_cases e:q=i
 .subst e;rw[uS (Ad h),h]
 .rw[uK e]
theorem Tc{gs:Gd}{t:Tf}{b:Ex}{C:En}{m q:Nat}{h:D->D}{I:Sto->Prop}(hg:∀S,I S->gOk gs S)(hI:∀S c,I S->I (S.set q c)):∀{ds acc:Gc D} {os:En} {S:Sto},os.length=m->I S->S[q]?=Fk (.lst acc)->acc.length+ds.length<=1000->(∀d∈ds,∀os S acc,os.length=m->I S->S[q]?=Fk (.lst acc)->acc.length<sizeLine->∃us us',t d (C++os) S=Fk (C++us)/\b (C++us) S=Fk (.nx,C++us',S.set q (.lst (acc++[h d])))/\us'.length=m)->∃os',os'.length=m/\Ni gs t b ds (C++os) S=Fk (.nx,C++os',S.set q (.lst (acc++ds.map h)))
 | [],acc,os,S,ho,hS,hq,hz,H=>⟨os,ho,by
     rw[Qt (hg S hS)]
     have:S.set q (.lst (acc++List.map h []))=S:=by
      rw[vy,wJ]
      exact set_same hq
     rw[this]⟩
 |d::ds,acc,os,S,ho,hS,hq,hz,H=>by
  have hl:=Ad hq
  obtain⟨us,us',e1,e2,hu⟩:=H d uP os S acc ho hS hq (uG (show acc.length<1001 by simp at hz;lia) (uO (by decide) (show 1001<=sizeLine by decide)))
  obtain⟨os',ho',e3⟩:=Tc hg hI (ds:=ds) (acc:=acc++[h d]) (os:=us') (S:=S.set q (.lst (acc++[h d]))) hu (hI S _ hS) (uS hl) (by simp at hz ⊢; lia) λd' hd=>H d' (uJ _ hd)
  refine⟨os',ho',?_⟩
  rw[Mb (hg S hS),e1,Bx,e2,Bx,OV,e3,List.set_set]
  simp
noncomputable def un:D->Rat
 | .tup [.int n,.int d]=>(n:Rat) / (d:Rat)
 |_=>0
theorem gQ(r:Rat):un (aD r)=r:=FT r
noncomputable def UB(f:Rat->Rat->Rat):D->D
 | .tup [a,b]=>aD (f (un a) (un b))
 |d=>d
theorem QX{f:Rat->Rat->Rat}:∀{ss os:Gc Rat},(Nt (ss.map aD) (os.map aD)).map (UB f)=(zF f ss os).map aD
 | [],os=>by simp[Nt]
 |s::ss,[]=>by simp[Nt]
 |s::ss,o::os=>by
  have ih:=QX (f:=f) (ss:=ss) (os:=os)
  unfold Nt at ih⊢
  simp only[ui,ABS,List.zipWith_cons_cons]at ih⊢
  rw[ih]
  simp[UB,gQ]
theorem YD{ss os:Gc Rat}{d:D}(h:d∈Nt (ss.map aD) (os.map aD)):∃s∈ss,∃o∈os,d=.tup [aD s,aD o]:=by
 unfold Nt at h
 obtain⟨⟨a,b⟩,h1,rfl⟩:=uk.mp h
 have h2:=vx h1
 obtain⟨s,hs,rfl⟩:=uk.mp h2.1
 obtain⟨o,ho,rfl⟩:=uk.mp h2.2
 exact⟨s,hs,o,ho,rfl⟩
theorem iV:aD 1=.tup [.int 1,.int 1]:=rfl
theorem Rm(n:Int):aD (n:Rat)=.tup [.int n,.int 1]:=by
 unfold aD
 simp
theorem Um{n:Int}{k:Nat}(h:n.natAbs<2^k)(hk:1<=k):Sz k (n:Rat):=by
 unfold Sz
 have:1<2^k:=zZ (by lia)
 simp[h,this]
theorem cI{k:Nat}(hk:1<=k):Sz k (1:Rat):=by
 have:1<2^k:=zZ (by lia)
 exact⟨by simpa using this,by simpa using this⟩
theorem VG{x:Rat}{ss os:Gc Rat}{j i:Nat}(hs:∀r∈ss,Sz j r)(ho:∀r∈os,Sz j r)(hx:Sz i x)(hj:2*j+2*i<=7900)(hl:ss.length<=10):∃S',F0 [shD ss,aD x,shD os] S=Fk (shD (Jp x os ss),S')/\Ce [] S S':=by
 have hq:(S++[Cl.lst []])[S.length]?=Fk (.lst []):=ua
 obtain⟨os',ho',e⟩:=Tc (gs:=[]) (t:=tTp [tNm 4,tNm 5]) (b:=Bm (Le L9 (eV 3) [AJ CO [AJ Ax [eV 4,AJ Et [Cm [eC (.int 1),eC (.int 1)],eV 1]],AJ Ax [eV 5,eV 1]]])) (C:=[Fk (shD ss),Fk (aD x),Fk (shD os),Fk (.ref S.length)]) (m:=2) (q:=S.length) (h:=UB λs o=>s*(1-x)+o*x) (I:=λ_=>True) (λ_ _=>Au) (λ_ _ _=>trivial)
  (ds:=Nt (ss.map aD) (os.map aD)) (acc:=[]) (os:=[uC,uC]) (S:=S++[Cl.lst []]) rfl trivial hq (by simp[Ng];lia) (by
    intro d hd os0 S0 acc h0 _ hq0 hz
    obtain⟨o1,o2,rfl⟩:=dB h0
    obtain⟨s,hs',o,ho',rfl⟩:=YD hd
    have l1:=cm (S:=S0) (cI (k:=1) (by decide)) hx (by lia)
    have s1:=(iP (cI (k:=1) (by decide)) hx)
    have l2:=KO (S:=S0) (hs s hs') s1 (by lia)
    have l3:=KO (S:=S0) (ho o ho') hx (by lia)
    have l4:=TB (S:=S0) (QM (hs s hs') s1) (QM (ho o ho') hx) (by lia)
    rw[iV]at l1
    refine⟨[Fk (aD s),Fk (aD o)],[Fk (aD s),Fk (aD o)],by simp,?_,rfl⟩
    simp[l1,l2,l3,l4,AY hq0,hz,UB,gQ])
 rw[QX]at e
 refine⟨(S++[Cl.lst []]).set S.length (.lst ((Jp x os ss).map aD)),?_,?_⟩
 .have e':Ni [] (tTp [tNm 4,tNm 5]) (Bm (Le L9 (eV 3) [AJ CO [AJ Ax [eV 4,AJ Et [Cm [eC (.int 1),eC (.int 1)],eV 1]],AJ Ax [eV 5,eV 1]]])) (Nt (ss.map aD) (os.map aD)) [Fk (shD ss),Fk (aD x),Fk (shD os),Fk (.ref S.length),uC,uC] (S++[Cl.lst []])=Fk (.nx,[Fk (shD ss),Fk (aD x),Fk (shD os),Fk (.ref S.length)]++os',(S++[Cl.lst []]).set S.length (.lst ((Jp x os ss).map aD))):=by simpa[Jp]using e
  simp[F0,OI,e']
  rfl
 .refine⟨by simp,λn hn _=>?_⟩
  rw[uK (by lia),uH hn]
end
section
variable{S:Sto}{p:Nat}
theorem getD_get{α:Type}{xs:Gc α}{n:Nat}{d:α}(h:n<xs.length):xs[n]?=Fk (xs.getD n d):=by
 rw[uM,W1 h]
 rfl
theorem getD_mem{α:Type}{xs:Gc α}{n:Nat}{d:α}(h:n<xs.length):xs.getD n d∈xs:=uY (getD_get h)
theorem YQ{ss:Gc Rat}{n:Nat}(h:n<ss.length):atI (ss.map aD) (n:Int)=Fk (aD (ss.getD n 0)):=CH (by rw[uQ,getD_get h];rfl)
theorem c7{ss:Gc Rat}{n:Nat}(h:n<ss.length):ixN (ss.map aD).length (n:Int)=Fk n:=Qa (by simpa using h)
theorem XC{p q:Nat}{x:Rat}{ss:Gc Rat}{j i:Nat}(hs:∀r∈ss,Sz j r)(hx:Sz i x)(hj:2*j+i<=7900)(hp:p<ss.length)(hq:q<ss.length)(hpq:p≠q):∃S',HB [shD ss,(Ab.Mj p q x).d] S=Fk (shD (IM p q x ss),S')/\Ce [] S S':=by
 have sp:=hs _ (getD_mem (d:=0) hp)
 have sq:=hs _ (getD_mem (d:=0) hq)
 have l1:∀S,Ax [aD (ss.getD p 0),aD x] S=Fk (aD (ss.getD p 0*x),S):=λS=>KO sp hx (by lia)
 have s1:=QM sp hx
 have l2:∀S,Et [aD (ss.getD p 0),aD (ss.getD p 0*x)] S=Fk (aD (ss.getD p 0-ss.getD p 0*x),S):=λS=>cm sp s1 (by lia)
 have l3:∀S,CO [aD (ss.getD q 0),aD (ss.getD p 0*x)] S=Fk (aD (ss.getD q 0+ss.getD p 0*x),S):=λS=>TB sq s1 (by lia)
 have a1:=YQ hp
 have i1:=c7 hp
 have i2:ixN (((ss.map aD).set p (aD (ss.getD p 0-ss.getD p 0*x))).length) (q:Int)=Fk q:=Qa (by simpa using hq)
 have a2:atI ((ss.map aD).set p (aD (ss.getD p 0-ss.getD p 0*x))) (q:Int)=Fk (aD (ss.getD q 0)):=CH (by
  rw[uK hpq,uQ,getD_get hq];rfl)
 refine⟨S++[.lst ((IM p q x ss).map aD)],?_,.app⟩
 simp only[wt,vL]at i1 i2
 have em:(IM p q x ss).map aD=((ss.map aD).set p (aD (ss.getD p 0-ss.getD p 0*x))).set q (aD (ss.getD q 0+ss.getD p 0*x)):=by rw[IM,yC,yC]
 unfold shD
 rw[em]
 generalize aD (ss.getD p 0-ss.getD p 0*x)=d1 at*
 generalize aD (ss.getD q 0+ss.getD p 0*x)=d2 at*
 generalize aD (ss.getD p 0*x)=d3 at*
 generalize aD (ss.getD p 0)=d4 at*
 generalize aD (ss.getD q 0)=d5 at*
 simp[HB,P1,Ab.d,a1,l1,l2,l3,i1,i2,a2]
theorem Wd{x y:Ld}{a b:Nat}{j i:Nat}(ha:S[a]?=Fk (Cq x))(hb:S[b]?=Fk (Cq y))(hs:∀r∈x.ow,Sz j r)(ho:∀r∈y.ow,Sz j r)(hx:x.n.natAbs<2^i)(hy:y.n.natAbs<2^i)(h0:0<x.n+y.n)(h1:1<=i)(hj:2*j+4*i<=7900)(hl:x.ow.length<=10):∃S',II [.ref a,.ref b] S=Fk (shD (DK x.n y.n x.ow y.ow),S')/\Ce [] S S':=by
 have la:=Ad ha
 have lb:=Ad hb
 have hq:(S++[Cl.lst []])[S.length]?=Fk (.lst []):=ua
 have ha':(S++[Cl.lst []])[a]?=Fk (Cq x):=by rw[uH la];exact ha
 have hb':(S++[Cl.lst []])[b]?=Fk (Cq y):=by rw[uH lb];exact hb
 obtain⟨os',ho',e⟩:=Tc (gs:=[]) (t:=tTp [tNm 3,tNm 4]) (b:=Aa (BQ 5 (AJ CO [AJ Ax [Cm [eOp (o2 wIx) [eV 0,eC (.int 1)],eC (.int 1)],eV 3],AJ Ax [Cm [eOp (o2 wIx) [eV 1,eC (.int 1)],eC (.int 1)],eV 4]]))
  (Bm (Le L9 (eV 2) [AJ Ax [eV 5,AJ CL [eC (.int 1),eOp (o2 CJ) [eOp (o2 wIx) [eV 0,eC (.int 1)],eOp (o2 wIx) [eV 1,eC (.int 1)]]]]]))) (C:=[Fk (.ref a),Fk (.ref b),Fk (.ref S.length)]) (m:=3) (q:=S.length) (h:=UB λs o=>(s*x.n+o*y.n) / (x.n+y.n:Int)) (I:=λS'=>S'[a]?=Fk (Cq x)/\S'[b]?=Fk (Cq y)) (λ_ _=>Au) (λS' c h=>⟨by rw[uK (by lia)];exact h.1,by rw[uK (by lia)];exact h.2⟩)
  (ds:=Nt (x.ow.map aD) (y.ow.map aD)) (acc:=[]) (os:=[uC,uC,uC]) (S:=S++[Cl.lst []]) rfl ⟨ha',hb'⟩ hq (by simp[Ng];lia) (by
    intro d hd os0 S0 acc h0' hI hq0 hz
    obtain⟨o1,o2,o3,rfl⟩:=md h0'
    obtain⟨s,hs',o,ho',rfl⟩:=YD hd
    have d1:=BE hI.1
    have d2:=BE hI.2
    have z1:=Um hx h1
    have z2:=Um hy h1
    have l1:=KO (S:=S0) z1 (hs s hs') (by lia)
    have l2:=KO (S:=S0) z2 (ho o ho') (by lia)
    have s1:=QM z1 (hs s hs')
    have s2:=QM z2 (ho o ho')
    have l3:=TB (S:=S0) s1 s2 (by lia)
    have b1:=Kx hx hy
    have l4:=aq (S:=S0) (t:=1) h0 (EK b1 (by lia))
    have s4:Sz (i+1) (((1:Int):Rat) / ((x.n+y.n:Int):Rat)):=P5 h0 (show(1:Int).natAbs<2^(i+1)from zZ (by lia)) b1
    have l5:=KO (S:=S0) (jQ s1 s2) s4 (by lia)
    rw[Rm]at l1 l2
    refine⟨[Fk (aD s),Fk (aD o),o3],[Fk (aD s),Fk (aD o),Fk (aD (x.n*s+y.n*o))],by simp,?_,rfl⟩
    have ev:(((x.n:Rat)*s+(y.n:Rat)*o)*(((1:Int):Rat) / ((x.n+y.n:Int):Rat)))=(s*x.n+o*y.n) / (x.n+y.n:Int):=by
     push_cast
     grind
    rw[ev]at l5
    have lf:(UB λs o=>(s*x.n+o*y.n) / (x.n+y.n:Int)) (.tup [aD s,aD o])=aD ((s*x.n+o*y.n) / (x.n+y.n:Int)):=by simp only[UB,gQ]
    rw[lf]
    generalize aD ((s*x.n+o*y.n) / (x.n+y.n:Int))=e5 at*
    generalize aD (((1:Int):Rat) / ((x.n+y.n:Int):Rat))=e4 at*
    generalize aD (x.n*s+y.n*o)=e3 at*
    simp[d1,d2,Cq,l1,l2,l3,l4,l5,AY hq0,hz])
 rw[QX]at e
 refine⟨(S++[Cl.lst []]).set S.length (.lst ((DK x.n y.n x.ow y.ow).map aD)),?_,?_⟩
 .have e':=e
  simp only[vK,uz]at e'
  have d1:=BE ha'
  have d2:=BE hb'
  change Ni _ _ _ _ _ _=Fk (_,_,List.set _ _ (Cl.lst (List.map aD (DK x.n y.n x.ow y.ow))))at e'
  generalize DK x.n y.n x.ow y.ow=rs at*
  simp[II,NI,d1,d2,e',shD]
 .refine⟨by simp,λn hn _=>?_⟩
  rw[uK (by lia),uH hn]
end
section
variable{S:Sto}{p:Nat}
theorem Ea{α:Type}{gs:Gd}{t:Tf}{f:Ev}{C:En}{m:Nat}{e g:α->D}{S:Sto}(hg:gOk gs S):∀{xs:Gc α} {acc:Gc D} {os:En},os.length=m->acc.length+xs.length<=sizeLine->(∀x∈xs,∀os,os.length=m->∃us,us.length=m/\t (e x) (C++os) S=Fk (C++us)/\f (C++us) S=Fk (g x,S))->C7 gs t Cr f (xs.map e) acc (C++os) S=Fk (acc++xs.map g,S)
 | [],acc,os,ho,hz,h=>by rw[vy,FX hg];simp
 |x::xs,acc,os,ho,hz,h=>by
  obtain⟨us,hu,e1,e2⟩:=h x uP os ho
  rw[ui,JO hg (by simp at hz;lia) e1 HK,e2,Bx]
  rw[Ea hg hu (by simp at hz ⊢; lia) λx' hx=>h x' (uJ _ hx)]
  simp
theorem Ho{α:Type}{gs:Gd}{t:Tf}{c f:Ev}{C:En}{m:Nat}{e g:α->D}{b:α->vE}{S:Sto}(hg:gOk gs S):∀{xs:Gc α} {acc:Gc D} {os:En},os.length=m->acc.length+xs.length<=sizeLine->(∀x∈xs,∀os,os.length=m->∃us,us.length=m/\t (e x) (C++os) S=Fk (C++us)/\c (C++us) S=Fk (.bl (b x),S)/\f (C++us) S=Fk (g x,S))->C7 gs t c f (xs.map e) acc (C++os) S=Fk (acc++(xs.filter b).map g,S)
 | [],acc,os,ho,hz,h=>by rw[vy,FX hg];simp
 |x::xs,acc,os,ho,hz,h=>by
  obtain⟨us,hu,e1,e2,e3⟩:=h x uP os ho
  cases hb:b x with
  |true=>
   rw[hb]at e2
   rw[ui,JO hg (by simp at hz;lia) e1 e2,e3,Bx,Ho hg hu (by simp at hz ⊢; lia) λd' hd=>h d' (uJ _ hd)]
   simp[hb]
  |false=>
   rw[hb]at e2
   rw[ui,LP hg (by simp at hz;lia) e1 e2,Ho hg hu (by simp at hz ⊢; lia) λd' hd=>h d' (uJ _ hd)]
   simp[hb]
theorem Us{as:Gc Nat}{ls:Gc Ld}(h:as.length=ls.length):as.map D.ref=(as.zip ls).map λz=>D.ref z.1:=by
 have:as=(as.zip ls).map Prod.fst:=(List.map_fst_zip (by lia)).symm
 conv=>lhs;rw[this]
 rw[vZ];rfl
theorem WR{β:Type}{as:Gc Nat}{ls:Gc Ld}(h:as.length=ls.length)(g:Ld->β):ls.map g=(as.zip ls).map λz=>g z.2:=by
 have:ls=(as.zip ls).map Prod.snd:=(List.map_snd_zip (by lia)).symm
 conv=>lhs;rw[this]
 rw[vZ];rfl
section
variable{s l m:Nat}{as:Gc Nat}{st:Stt}
theorem SAt.qg(h:SAt S s l m as st){z:Nat×Ld}(hz:z∈as.zip st.AE):S[z.1]?=Fk (Cq z.2):=by
 obtain⟨i,hi⟩:=xF.mp hz
 have:=yE.mp hi
 exact h.ld i z.1 z.2 this.1 this.2
theorem SAt.at(h:SAt S s l m as st){i:Nat}(hi:i<st.AE.length):∃a,as[i]?=Fk a/\S[a]?=Fk (Cq (AU st.AE i))/\atI (as.map D.ref) (i:Int)=Fk (.ref a):=by
 have h1:i<as.length:=by rw[h.len];exact hi
 refine⟨as[i],W1 h1,h.ld i _ _ (W1 h1) (G4 hi),CH (by rw[uQ,W1 h1];rfl)⟩
theorem SAt.guard(h:SAt S s l m as st):gOk [(l,as.map D.ref)] S:=by
 intro g hg
 simp only[uI,uX,vV]at hg
 subst hg
 exact AY h.lo
end
theorem WV{M:Int}(hM:0<=M):∀{xs:Gc Int},(∀x∈xs,0<=x/\x<=M)->0<=xs.sum/\xs.sum<=xs.length*M
 | [],_=>by simp
 |x::xs,h=>by
  have h1:=h x uP
  have h2:=WV hM λy hy=>h y (uJ _ hy)
  simp only[wZ,vJ]
  refine⟨by lia,?_⟩
  have:((xs.length+1:Nat):Int)*M=xs.length*M+M:=by push_cast;grind
  lia
theorem P4:∀{xs:Gc Int} {y:Int},(∀x∈xs,0<=x)->y∈xs->y<=xs.sum
 |x::xs,y,h,hy=>by
  have h1:=h x uP
  have h2:0<=xs.sum:=by
   clear hy
   induction xs with
   |nil=>simp
   |cons z zs ih=>
    have:=h z (by simp)
    have:=ih λw hw=>h w (by simp at hw ⊢; rcases hw with hw|hw<;>simp[hw])
    simp only[wZ];lia
  simp only[wZ]
  rcases uI.mp hy with e|e
  .lia
  .have:=P4 (λz hz=>h z (uJ _ hz)) e
   lia
section
variable{t:Tr}{k:Nat}{st:Stt}{ws:Gc Int}{n:Int}{l:Nat}
theorem Oy{i:Nat}(hw:∀w∈ws,1<=w/\w<=99)(hi:i<ws.length):1<=ws.getD i 0/\ws.getD i 0<=99:=hw _ (getD_mem hi)
theorem VA{i:Nat}(hi:i<ws.length):atI (ws.map D.int) (i:Int)=Fk (.int (ws.getD i 0)):=CH (by rw[uQ,getD_get hi];rfl)
theorem RD(hi:ws.length=k+1):atI (ws.map D.int) (-1:Int)=Fk (.int (ws.getD k 0)):=by
 have ix:ixN (ws.map D.int).length (-1)=Fk k:=by
  rw[vL,hi]
  unfold ixN
  simp
  lia
 unfold atI
 rw[ix]
 show(ws.map D.int)[k]?=_
 rw[uQ,getD_get (d:=(0:Int)) (by lia)]
 rfl
theorem Kp(ht:Kg t)(h:GC t k st)(hk:k<=20)(hl:ws.length=t.k+1)(hw:∀w∈ws,1<=w/\w<=99):0<EH t st.AE ws/\EH t st.AE ws<2^(145+k):=by
 obtain⟨t1,t2,t3,t4,t5,t6⟩:=ht
 have hP:(0:Int)<=2^(131+k):=Int.le_of_lt (Int.pow_pos (by decide))
 have hs:=WV (M:=2^(131+k)*99) (by lia) (xs:=st.AE.map λl=>l.n*ws.getD l.k 0) (by
  intro x hx
  obtain⟨y,hy,rfl⟩:=uk.mp hx
  have h1:=h.pcs y hy
  have h2:=Oy hw (i:=y.k) (by have:=h.kind y hy;lia)
  refine⟨yk h1.1 (by lia),yl (by lia) h2.2 (by lia) hP⟩)
 have hb:=Oy hw (i:=t.k) (by lia)
 have hlen:=h.len
 rw[vL]at hs
 have h3:(st.AE.length:Int)*(2^(131+k)*99)<=24*(2^(131+k)*99):=yr (by lia) (by lia)
 have h4:(1:Int)<=t.b*ws.getD t.k 0:=by
  have:0<(t.b:Int)*ws.getD t.k 0:=vj (by lia) (by lia)
  lia
 have h5:t.b*ws.getD t.k 0<=20*99:=yl (by lia) hb.2 (by lia) (by decide)
 have h6:(2:Int)^(145+k)=2^(131+k)*16384:=by rw[show 145+k=(131+k)+14 by lia,Int.pow_add];rfl
 have h7:(1:Int)<=2^(131+k):=by have:(0:Int)<2^(131+k):=Int.pow_pos (by decide);lia
 have h7':(2:Int)^11<=2^(131+k):=by
  have:(2^11:Nat)<=2^(131+k):=um (by decide) (by lia)
  exact_mod_cast this
 unfold EH
 rw[h6]
 generalize (2:Int)^(131+k)=P at*
 lia
theorem WK(ht:Kg t)(h:GC t k st)(hl:ws.length=t.k+1)(hw:∀w∈ws,1<=w/\w<=99)(hi:l<st.AE.length)(h1:1<=n)(h2:n<=(AU st.AE l).n):0<n*ws.getD (AU st.AE l).k 0/\n*ws.getD (AU st.AE l).k 0<EH t st.AE ws:=by
 obtain⟨t1,t2,t3,t4,t5,t6⟩:=ht
 have hw1:=Oy hw (i:=(AU st.AE l).k) (by have:=h.kind _ (A5 hi);lia)
 have hb:=Oy hw (i:=t.k) (by lia)
 have h4:(1:Int)<=t.b*ws.getD t.k 0:=by
  have:0<(t.b:Int)*ws.getD t.k 0:=vj (by lia) (by lia)
  lia
 have h5:=P4 (xs:=st.AE.map λl=>l.n*ws.getD l.k 0) (y:=(AU st.AE l).n*ws.getD (AU st.AE l).k 0) (by
  intro x hx
  obtain⟨y,hy,rfl⟩:=uk.mp hx
  have h1:=h.pcs y hy
  have h2:=Oy hw (i:=y.k) (by have:=h.kind y hy;lia)
  exact yk h1.1 (by lia)) (uk.mpr ⟨_,A5 hi,rfl⟩)
 have h6:n*ws.getD (AU st.AE l).k 0<=(AU st.AE l).n*ws.getD (AU st.AE l).k 0:=yr h2 (by lia)
 refine⟨vj (by lia) (by lia),?_⟩
 unfold EH
 lia
theorem Nn(hi:l<st.AE.length):KQ t st.AE l n ws=((n*ws.getD (AU st.AE l).k 0:Int):Rat) / (EH t st.AE ws:Rat):=by
 unfold KQ
 rw[G4 hi]
 rfl
theorem IU{x:Int}{j:Nat}(h0:0<=x)(h1:x<2^j):x.natAbs<2^j:=by
 have:((x.natAbs:Nat):Int)<((2^j:Nat):Int):=by
  rw[Int.natAbs_of_nonneg h0];push_cast;exact h1
 exact_mod_cast this
theorem Xr(ht:Kg t)(h:GC t k st)(hk:k<=20)(hl:ws.length=t.k+1)(hw:∀w∈ws,1<=w/\w<=99)(hi:l<st.AE.length)(h1:1<=n)(h2:n<=(AU st.AE l).n):Sz (145+k) (KQ t st.AE l n ws):=by
 have a:=Kp ht h hk hl hw
 have b:=WK ht h hl hw hi h1 h2
 rw[Nn hi]
 exact P5 a.1 (IU (by lia) (by lia)) (IU (by lia) a.2)
theorem gO{s r m:Nat}{as:Gc Nat}(hS:SAt S s r m as st)(ht:Kg t)(h:GC t k st)(hk:k<=20)(hl:ws.length=t.k+1)(hw:∀w∈ws,1<=w/\w<=99)(hi:l<st.AE.length)(h1:1<=n)(h2:n<=(AU st.AE l).n):Ks [t.d,.ref r,(Ab.thr l n ws).d] S=Fk (aD (KQ t st.AE l n ws),S):=by
 have a:=Kp ht h hk hl hw
 obtain⟨x,x1,x2,x3⟩:=hS.at hi
 have hlen:=h.len
 have e:=Ea (gs:=[(r,as.map D.ref)]) (t:=tTp [tNm 1,tNm 2,tNm 3]) (f:=eOp (o2 CD) [eV 2,eOp (o2 wIx) [eV 0,eV 1]]) (C:=[Fk (.tup (ws.map D.int))]) (m:=3) (e:=λz:Nat×Ld=>D.ref z.1) (g:=λz=>D.int (z.2.n*ws.getD z.2.k 0)) hS.guard (xs:=as.zip st.AE) (acc:=[]) (os:=[uC,uC,uC]) rfl (uO (show _<=24 by simp;lia) (AN (by decide))) (by
  intro z hz os ho
  obtain⟨q1,q2,q3,rfl⟩:=md ho
  have c1:=hS.qg hz
  have hm:z.2∈st.AE:=(vx (a:=z.1) (b:=z.2) hz).2
  have hk:=h.kind _ hm
  have w1:=VA (ws:=ws) (i:=z.2.k) (by lia)
  have w2:=Oy hw (i:=z.2.k) (by lia)
  have m1:DZ z.2.n (ws.getD z.2.k 0)=true:=mulR (by lia) (by lia)
  generalize ws.getD z.2.k 0=wz at*
  refine⟨[Fk (.int z.2.k),Fk (.int z.2.n),Fk (shD z.2.ow)],rfl,?_,?_⟩
  .simp[AY c1,Cq]
  .simp[w1,m1])
 rw[<-Us hS.len,<-WR hS.len (λx=>D.int (x.n*ws.getD x.k 0))]at e
 have e':=e
 simp only[vK,uz]at e'
 rw[Nn hi]
 have es:NY (st.AE.map λx=>D.int (x.n*ws.getD x.k 0))=Fk (st.AE.map λx=>x.n*ws.getD x.k 0):=by
  have:=Iw (st.AE.map λx=>x.n*ws.getD x.k 0)
  rwa [vZ]at this
 have w1:=VA (ws:=ws) (i:=(AU st.AE l).k) (by have:=h.kind _ (A5 hi);lia)
 have w3:=Oy hw (i:=(AU st.AE l).k) (by have:=h.kind _ (A5 hi);lia)
 have w2:=RD hl
 have w4:=Oy hw (i:=t.k) (by lia)
 have m1:DZ n (ws.getD (AU st.AE l).k 0)=true:=mulR (by lia) (by lia)
 have m2:DZ (t.b:Int) (ws.getD t.k 0)=true:=mulR (by lia) (by lia)
 have l1:=aq (S:=S) (t:=n*ws.getD (AU st.AE l).k 0) a.1 (EK (IU (by lia) a.2) (by lia))
 have e2:EH t st.AE ws=(st.AE.map λx=>x.n*ws.getD x.k 0).sum+t.b*ws.getD t.k 0:=rfl
 rw[e2]at l1⊢
 generalize aD (((n*ws.getD (AU st.AE l).k 0:Int):Rat) / (((st.AE.map λx=>x.n*ws.getD x.k 0).sum+t.b*ws.getD t.k 0:Int):Rat))=R at*
 generalize (st.AE.map λx=>x.n*ws.getD x.k 0)=es' at*
 generalize (st.AE.map λx=>D.int (x.n*ws.getD x.k 0))=es2 at*
 generalize ws.getD (AU st.AE l).k 0=wa at*
 generalize ws.getD t.k 0=wb at*
 have dx:=BE x2
 have dl:=BE hS.lo
 simp[Ks,QL,Ab.d,Tr.d,Hh hS.lo,e',es,w2,m2,dl,x3,dx,Cq,w1,m1,l1]
theorem Sv{G B:Nat}(ht:Kg t)(h:GC t k st)(hk:k<=20)(hl:ws.length=t.k+1)(hw:∀w∈ws,1<=w/\w<=99)(hi:l<st.AE.length)(h1:1<=n)(h2:n<=(AU st.AE l).n){os ss:Gc Rat}(ho:∀r∈os,Ok G B r)(hs:∀r∈ss,Ok G B r):∀r∈Jp (KQ t st.AE l n ws) os ss,Ok (G*(EH t st.AE ws).toNat) (B*(EH t st.AE ws).toNat) r:=by
 have a:=Kp ht h hk hl hw
 have b:=WK ht h hl hw hi h1 h2
 intro r hr
 unfold Jp at hr
 rw[xF]at hr
 obtain⟨i,hi'⟩:=hr
 rw[yx]at hi'
 obtain⟨x,y,hx,hy,rfl⟩:=hi'
 rw[Nn hi]
 generalize n*ws.getD (AU st.AE l).k 0=c at*
 generalize EH t st.AE ws=W at*
 have:=Ok.mix (a:=(W-c).toNat) (b:=c.toNat) (t:=W.toNat) (hs x (uY hx)) (ho y (uY hy)) (by lia) (by lia)
 have e1:(((W-c).toNat:Nat):Rat)=(W:Rat)-(c:Rat):=by
  have:(((W-c).toNat:Nat):Int)=W-c:=vP (by lia)
  have:((((W-c).toNat:Nat):Int):Rat)=((W-c:Int):Rat):=by rw[this]
  push_cast at this
  exact this
 have e2:((c.toNat:Nat):Rat)=(c:Rat):=by
  have:((c.toNat:Nat):Int)=c:=vP (by lia)
  have:(((c.toNat:Nat):Int):Rat)=(c:Rat):=by rw[this]
  exact this
 have e3:((W.toNat:Nat):Rat)=(W:Rat):=by
  have:((W.toNat:Nat):Int)=W:=vP (by lia)
  have:(((W.toNat:Nat):Int):Rat)=(W:Rat):=by rw[this]
  exact this
 rw[e1,e2,e3]at this
 have ne:(W:Rat)≠0:=by
  intro z
  have:=xY.mp z
  lia
 have ev:(x*((W:Rat)-(c:Rat))+y*(c:Rat)) / (W:Rat)=x*(1-(c:Rat) / (W:Rat))+y*((c:Rat) / (W:Rat)):=by grind
 rw[ev]at this
 exact this
end
end
section
variable{S:Sto}
theorem A4{x y:Str}(h:vi x=true)(g:vi y=true):ED (.str x) (.str y)=true:=by
 unfold ED
 show(vi x && vi y && _)=true
 rw[h,g]
 rfl
theorem EC:vi (vk "bring")=true:=by decide+kernel
theorem Gq:vi (vk "pool")=true:=by decide+kernel
theorem Gu:vi (vk "swap")=true:=by decide+kernel
theorem EG:vi (vk "trade")=true:=by decide+kernel
theorem GB:vi (vk "spoil")=true:=by decide+kernel
theorem D8:vi (vk "throw")=true:=by decide+kernel
theorem Fs:vi (vk "sell")=true:=by decide+kernel
@[simp] theorem Y7:ED (.str (Str.ofString "bring")) (.str (Str.ofString "bring"))=true:=A4 EC EC
@[simp] theorem Yo:deq (.str (Str.ofString "bring")) (.str (Str.ofString "bring"))=true:=nr rfl
@[simp] theorem Zs:ED (.str (Str.ofString "bring")) (.str (Str.ofString "pool"))=true:=A4 EC Gq
@[simp] theorem ZX:deq (.str (Str.ofString "bring")) (.str (Str.ofString "pool"))=false:=nr rfl
@[simp] theorem Z7:ED (.str (Str.ofString "bring")) (.str (Str.ofString "swap"))=true:=A4 EC Gu
@[simp] theorem ZM:deq (.str (Str.ofString "bring")) (.str (Str.ofString "swap"))=false:=nr rfl
@[simp] theorem Y0:ED (.str (Str.ofString "bring")) (.str (Str.ofString "trade"))=true:=A4 EC EG
@[simp] theorem Yz:deq (.str (Str.ofString "bring")) (.str (Str.ofString "trade"))=false:=nr rfl
@[simp] theorem Yf:ED (.str (Str.ofString "bring")) (.str (Str.ofString "throw"))=true:=A4 EC D8
@[simp] theorem Ye:deq (.str (Str.ofString "bring")) (.str (Str.ofString "throw"))=false:=nr rfl
@[simp] theorem ZJ:ED (.str (Str.ofString "bring")) (.str (Str.ofString "sell"))=true:=A4 EC Fs
@[simp] theorem ZU:deq (.str (Str.ofString "bring")) (.str (Str.ofString "sell"))=false:=nr rfl
@[simp] theorem Zm:wIn false (.val (.str "bring")) (.val (.tup [.str "spoil",.str "throw"]))=some (.val (.bl false)):=nr rfl
@[simp] theorem aL:ED (.str (Str.ofString "pool")) (.str (Str.ofString "bring"))=true:=A4 Gq EC
@[simp] theorem bJ:deq (.str (Str.ofString "pool")) (.str (Str.ofString "bring"))=false:=nr rfl
@[simp] theorem dG:ED (.str (Str.ofString "pool")) (.str (Str.ofString "pool"))=true:=A4 Gq Gq
@[simp] theorem cF:deq (.str (Str.ofString "pool")) (.str (Str.ofString "pool"))=true:=nr rfl
@[simp] theorem ZL:ED (.str (Str.ofString "pool")) (.str (Str.ofString "trade"))=true:=A4 Gq EG
@[simp] theorem ZQ:deq (.str (Str.ofString "pool")) (.str (Str.ofString "trade"))=false:=nr rfl
@[simp] theorem Zk:ED (.str (Str.ofString "pool")) (.str (Str.ofString "throw"))=true:=A4 Gq D8
@[simp] theorem bS:deq (.str (Str.ofString "pool")) (.str (Str.ofString "throw"))=false:=nr rfl
@[simp] theorem c9:ED (.str (Str.ofString "pool")) (.str (Str.ofString "sell"))=true:=A4 Gq Fs
@[simp] theorem cY:deq (.str (Str.ofString "pool")) (.str (Str.ofString "sell"))=false:=nr rfl
@[simp] theorem qd:wIn false (.val (.str "pool")) (.val EZ)=some (.val (.bl true)):=nr rfl
@[simp] theorem bB:ED (.str (Str.ofString "swap")) (.str (Str.ofString "bring"))=true:=A4 Gu EC
@[simp] theorem Zq:deq (.str (Str.ofString "swap")) (.str (Str.ofString "bring"))=false:=nr rfl
@[simp] theorem dC:ED (.str (Str.ofString "swap")) (.str (Str.ofString "pool"))=true:=A4 Gu Gq
@[simp] theorem cM:deq (.str (Str.ofString "swap")) (.str (Str.ofString "pool"))=false:=nr rfl
@[simp] theorem dP:ED (.str (Str.ofString "swap")) (.str (Str.ofString "swap"))=true:=A4 Gu Gu
@[simp] theorem cD:deq (.str (Str.ofString "swap")) (.str (Str.ofString "swap"))=true:=nr rfl
@[simp] theorem Zo:ED (.str (Str.ofString "swap")) (.str (Str.ofString "trade"))=true:=A4 Gu EG
@[simp] theorem a9:deq (.str (Str.ofString "swap")) (.str (Str.ofString "trade"))=false:=nr rfl
@[simp] theorem Z2:ED (.str (Str.ofString "swap")) (.str (Str.ofString "throw"))=true:=A4 Gu D8
@[simp] theorem ZP:deq (.str (Str.ofString "swap")) (.str (Str.ofString "throw"))=false:=nr rfl
@[simp] theorem dH:ED (.str (Str.ofString "swap")) (.str (Str.ofString "sell"))=true:=A4 Gu Fs
@[simp] theorem dJ:deq (.str (Str.ofString "swap")) (.str (Str.ofString "sell"))=false:=nr rfl
@[simp] theorem fE:wIn false (.val (.str "swap")) (.val (.tup [.str "swap",.str "trade"]))=some (.val (.bl true)):=nr rfl
@[simp] theorem qA:wIn false (.val (.str "swap")) (.val EZ)=some (.val (.bl true)):=nr rfl
@[simp] theorem Yy:ED (.str (Str.ofString "trade")) (.str (Str.ofString "bring"))=true:=A4 EG EC
@[simp] theorem Yk:deq (.str (Str.ofString "trade")) (.str (Str.ofString "bring"))=false:=nr rfl
@[simp] theorem bh:ED (.str (Str.ofString "trade")) (.str (Str.ofString "pool"))=true:=A4 EG Gq
@[simp] theorem Zl:deq (.str (Str.ofString "trade")) (.str (Str.ofString "pool"))=false:=nr rfl
@[simp] theorem Zv:ED (.str (Str.ofString "trade")) (.str (Str.ofString "swap"))=true:=A4 EG Gu
@[simp] theorem ZY:deq (.str (Str.ofString "trade")) (.str (Str.ofString "swap"))=false:=nr rfl
@[simp] theorem Yt:ED (.str (Str.ofString "trade")) (.str (Str.ofString "trade"))=true:=A4 EG EG
@[simp] theorem Yj:deq (.str (Str.ofString "trade")) (.str (Str.ofString "trade"))=true:=nr rfl
@[simp] theorem Ys:ED (.str (Str.ofString "trade")) (.str (Str.ofString "throw"))=true:=A4 EG D8
@[simp] theorem Y1:deq (.str (Str.ofString "trade")) (.str (Str.ofString "throw"))=false:=nr rfl
@[simp] theorem bN:ED (.str (Str.ofString "trade")) (.str (Str.ofString "sell"))=true:=A4 EG Fs
@[simp] theorem Zc:deq (.str (Str.ofString "trade")) (.str (Str.ofString "sell"))=false:=nr rfl
@[simp] theorem cb:wIn false (.val (.str "trade")) (.val (.tup [.str "swap",.str "trade"]))=some (.val (.bl true)):=nr rfl
@[simp] theorem ni:wIn false (.val (.str "trade")) (.val EZ)=some (.val (.bl true)):=nr rfl
@[simp] theorem Y9:ED (.str (Str.ofString "spoil")) (.str (Str.ofString "bring"))=true:=A4 GB EC
@[simp] theorem Yi:deq (.str (Str.ofString "spoil")) (.str (Str.ofString "bring"))=false:=nr rfl
@[simp] theorem aY:ED (.str (Str.ofString "spoil")) (.str (Str.ofString "pool"))=true:=A4 GB Gq
@[simp] theorem bX:deq (.str (Str.ofString "spoil")) (.str (Str.ofString "pool"))=false:=nr rfl
@[simp] theorem bA:ED (.str (Str.ofString "spoil")) (.str (Str.ofString "swap"))=true:=A4 GB Gu
@[simp] theorem aK:deq (.str (Str.ofString "spoil")) (.str (Str.ofString "swap"))=false:=nr rfl
@[simp] theorem Yw:ED (.str (Str.ofString "spoil")) (.str (Str.ofString "trade"))=true:=A4 GB EG
@[simp] theorem Y3:deq (.str (Str.ofString "spoil")) (.str (Str.ofString "trade"))=false:=nr rfl
@[simp] theorem Yu:ED (.str (Str.ofString "spoil")) (.str (Str.ofString "spoil"))=true:=A4 GB GB
@[simp] theorem Y4:deq (.str (Str.ofString "spoil")) (.str (Str.ofString "spoil"))=true:=nr rfl
@[simp] theorem Yp:ED (.str (Str.ofString "spoil")) (.str (Str.ofString "throw"))=true:=A4 GB D8
@[simp] theorem Yq:deq (.str (Str.ofString "spoil")) (.str (Str.ofString "throw"))=false:=nr rfl
@[simp] theorem aR:ED (.str (Str.ofString "spoil")) (.str (Str.ofString "sell"))=true:=A4 GB Fs
@[simp] theorem aI:deq (.str (Str.ofString "spoil")) (.str (Str.ofString "sell"))=false:=nr rfl
@[simp] theorem dE:wIn false (.val (.str "spoil")) (.val (.tup [.str "swap",.str "trade"]))=some (.val (.bl false)):=nr rfl
@[simp] theorem Zf:wIn false (.val (.str "spoil")) (.val (.tup [.str "spoil",.str "throw"]))=some (.val (.bl true)):=nr rfl
@[simp] theorem pE:wIn false (.val (.str "spoil")) (.val EZ)=some (.val (.bl false)):=nr rfl
@[simp] theorem Y8:ED (.str (Str.ofString "throw")) (.str (Str.ofString "bring"))=true:=A4 D8 EC
@[simp] theorem Yn:deq (.str (Str.ofString "throw")) (.str (Str.ofString "bring"))=false:=nr rfl
@[simp] theorem aG:ED (.str (Str.ofString "throw")) (.str (Str.ofString "pool"))=true:=A4 D8 Gq
@[simp] theorem Zu:deq (.str (Str.ofString "throw")) (.str (Str.ofString "pool"))=false:=nr rfl
@[simp] theorem bx:ED (.str (Str.ofString "throw")) (.str (Str.ofString "swap"))=true:=A4 D8 Gu
@[simp] theorem aO:deq (.str (Str.ofString "throw")) (.str (Str.ofString "swap"))=false:=nr rfl
@[simp] theorem Yl:ED (.str (Str.ofString "throw")) (.str (Str.ofString "trade"))=true:=A4 D8 EG
@[simp] theorem Yv:deq (.str (Str.ofString "throw")) (.str (Str.ofString "trade"))=false:=nr rfl
@[simp] theorem Yg:ED (.str (Str.ofString "throw")) (.str (Str.ofString "spoil"))=true:=A4 D8 GB
@[simp] theorem ZA:deq (.str (Str.ofString "throw")) (.str (Str.ofString "spoil"))=false:=nr rfl
@[simp] theorem Y5:ED (.str (Str.ofString "throw")) (.str (Str.ofString "throw"))=true:=A4 D8 D8
@[simp] theorem Y6:deq (.str (Str.ofString "throw")) (.str (Str.ofString "throw"))=true:=nr rfl
@[simp] theorem cU:wIn false (.val (.str "throw")) (.val (.tup [.str "swap",.str "trade"]))=some (.val (.bl false)):=nr rfl
@[simp] theorem aN:wIn false (.val (.str "throw")) (.val (.tup [.str "spoil",.str "throw"]))=some (.val (.bl true)):=nr rfl
@[simp] theorem nR:wIn false (.val (.str "throw")) (.val EZ)=some (.val (.bl false)):=nr rfl
@[simp] theorem bE:ED (.str (Str.ofString "sell")) (.str (Str.ofString "bring"))=true:=A4 Fs EC
@[simp] theorem ZT:deq (.str (Str.ofString "sell")) (.str (Str.ofString "bring"))=false:=nr rfl
@[simp] theorem dI:ED (.str (Str.ofString "sell")) (.str (Str.ofString "pool"))=true:=A4 Fs Gq
@[simp] theorem dD:deq (.str (Str.ofString "sell")) (.str (Str.ofString "pool"))=false:=nr rfl
@[simp] theorem dU:ED (.str (Str.ofString "sell")) (.str (Str.ofString "swap"))=true:=A4 Fs Gu
@[simp] theorem cN:deq (.str (Str.ofString "sell")) (.str (Str.ofString "swap"))=false:=nr rfl
@[simp] theorem Zn:ED (.str (Str.ofString "sell")) (.str (Str.ofString "trade"))=true:=A4 Fs EG
@[simp] theorem Zb:deq (.str (Str.ofString "sell")) (.str (Str.ofString "trade"))=false:=nr rfl
@[simp] theorem bR:ED (.str (Str.ofString "sell")) (.str (Str.ofString "spoil"))=true:=A4 Fs GB
@[simp] theorem Z9:deq (.str (Str.ofString "sell")) (.str (Str.ofString "spoil"))=false:=nr rfl
@[simp] theorem bP:ED (.str (Str.ofString "sell")) (.str (Str.ofString "throw"))=true:=A4 Fs D8
@[simp] theorem bq:deq (.str (Str.ofString "sell")) (.str (Str.ofString "throw"))=false:=nr rfl
@[simp] theorem dN:ED (.str (Str.ofString "sell")) (.str (Str.ofString "sell"))=true:=A4 Fs Fs
@[simp] theorem dS:deq (.str (Str.ofString "sell")) (.str (Str.ofString "sell"))=true:=nr rfl
@[simp] theorem da:wIn false (.val (.str "sell")) (.val (.tup [.str "swap",.str "trade"]))=some (.val (.bl false)):=nr rfl
@[simp] theorem cy:wIn false (.val (.str "sell")) (.val (.tup [.str "spoil",.str "throw"]))=some (.val (.bl false)):=nr rfl
@[simp] theorem qw:wIn false (.val (.str "sell")) (.val EZ)=some (.val (.bl false)):=nr rfl
@[simp] theorem jv:dr S EZ=.val EZ:=nr rfl
section
variable{a b c d e f:D}{r:Gc D}
@[simp] theorem mQ:IY [a,b,c,d,e] (some (-4)) none=[b,c,d,e]:=nr rfl
@[simp] theorem lB:IY [a,b,c,d,e,f] (some (-4)) none=[c,d,e,f]:=nr rfl
@[simp] theorem nq:IY [a,b,c,d] (some 1) none=[b,c,d]:=nr rfl
@[simp] theorem mG:IY [a,b,c,d,e] (some 1) (some 2)=[b]:=nr rfl
@[simp] theorem lP:IY [a,b,c,d,e,f] (some 1) (some 2)=[b]:=nr rfl
@[simp] theorem lW{ds zs:List D}:lG S ds [.tup zs]=if ds.length+zs.length<=sizeLine then some (.non,ds++zs)else none:=nr rfl
end
end
section
variable{S S':Sto}{s l m:Nat}{as:Gc Nat}{st:Stt}
theorem SAt.same(h:SAt S s l m as st)(g:Ce A S S')(hA:∀n∈A,n∉s::l::m::as):SAt S' s l m as st where
 root:=g.get h.root λz=>hA _ z (by simp)
 lo:=g.get h.lo λz=>hA _ z (by simp)
 nu:=g.get h.nu λz=>hA _ z (by simp)
 ld:=λi a x ha hx=>g.get (h.ld i a x ha hx) λz=>hA _ z (by simp[uY ha])
 len:=h.len
 nd:=h.nd
theorem SAt.UK(h:SAt S s l m as st)(g:Ce [] S S'):SAt S' s l m as st:=h.same g λ_ z=>(nomatch z)
theorem SAt.ne(h:SAt S s l m as st):s≠l/\s≠m/\l≠m/\s∉as/\l∉as/\m∉as/\as.Nodup:=by
 have:=h.nd
 simp only[wq,uI,AAt]at this
 obtain⟨⟨a,b,c⟩,⟨d,e⟩,f,g⟩:=this
 exact⟨a,b,d,c,e,f,g⟩
theorem SAt.US(h:SAt S s l m as st){i a:Nat}{y:Ld}(ha:as[i]?=Fk a):SAt (S.set a (Cq y)) s l m as {st with AE:=st.AE.set i y}:=by
 obtain⟨n1,n2,n3,n4,n5,n6,n7⟩:=h.ne
 have ma:=uY ha
 have q1:a≠s:=λe=>n4 (e▸ma)
 have q2:a≠l:=λe=>n5 (e▸ma)
 have q3:a≠m:=λe=>n6 (e▸ma)
 have hi:i<as.length:=(uL.mp ha).1
 have hi':i<st.AE.length:=by rw[<-h.len];exact hi
 refine⟨by rw[uK q1];exact h.root,by rw[uK q2];exact h.lo,by rw[uK q3];exact h.nu,?_,by simp[h.len],h.nd⟩
 intro j b x hb hx
 by_cases e:i=j
 .subst e
  rw[ha]at hb
  cases hb
  have hx':(st.AE.set i y)[i]?=Fk x:=hx
  rw[uS hi']at hx'
  cases hx'
  have hl:a<S.length:=Ad (h.ld i a _ ha (W1 hi'))
  exact uS hl
 .have hx':(st.AE.set i y)[j]?=Fk x:=hx
  rw[uK e]at hx'
  have:a≠b:=by
   intro z
   subst z
   exact e ((ye hi n7).mp (ha.trans hb.symm))
  rw[uK this]
  exact h.ld j b x hb hx'
theorem SAt.lts(h:SAt S s l m as st):∀n∈s::l::m::as,n<S.length:=by
 intro n hn
 simp only[uI]at hn
 rcases hn with rfl|rfl|rfl|hn
 .exact Ad h.root
 .exact Ad h.lo
 .exact Ad h.nu
 .obtain⟨i,hi⟩:=xF.mp hn
  have:i<st.AE.length:=by rw[<-h.len];exact(uL.mp hi).1
  exact Ad (h.ld i n _ hi (W1 this))
theorem SAt.app(h:SAt S s l m as st)(y:Ld):SAt ((S++[Cq y]).set l (.lst (as.map D.ref++[.ref S.length]))) s l m (as++[S.length]) {st with AE:=st.AE++[y]}:=by
 obtain⟨n1,n2,n3,n4,n5,n6,n7⟩:=h.ne
 have lt:=h.lts
 have ls:=lt s (by simp);have ll:=lt l (by simp);have lm:=lt m (by simp)
 have la:∀a∈as,a<S.length:=λa ha=>lt a (by simp[ha])
 refine⟨?_,?_,?_,?_,by simp[h.len],?_⟩
 .rw[uK (wI n1),uH ls];exact h.root
 .rw[uS (by simp;lia)];simp
 .rw[uK n3,uH lm];exact h.nu
 .intro i a x ha hx
  by_cases e:i<as.length
  .rw[uH e]at ha
   have hx':(st.AE++[y])[i]?=Fk x:=hx
   rw[uH (by rw[<-h.len];exact e)]at hx'
   have ma:=uY ha
   rw[uK (show l≠a by rintro rfl;exact n5 ma),uH (la a ma)]
   exact h.ld i a x ha hx'
  .have hx':(st.AE++[y])[i]?=Fk x:=hx
   have:i=as.length:=by
    have:=(uL.mp ha).1
    simp at this;lia
   subst this
   rw[ua]at ha
   cases ha
   rw[h.len,ua]at hx'
   cases hx'
   rw[uK (by lia),ua]
 .have:(s::l::m::(as++[S.length]))=(s::l::m::as)++[S.length]:=by simp
  rw[this,yf]
  refine⟨h.nd,by simp,?_⟩
  intro a ha b hb e
  simp only[uI,uX,vV]at hb
  have:=lt a ha
  lia
theorem SAt.hold(h:SAt S s l m as st)(rs:Gc Rat):SAt (S.set s (.lst [.ref l,shD rs,.ref m])) s l m as {st with hold:=rs}:=by
 obtain⟨n1,n2,n3,n4,n5,n6,n7⟩:=h.ne
 refine⟨uS (h.lts s (by simp)),by rw[uK n1];exact h.lo,by rw[uK n2];exact h.nu,?_,h.len,h.nd⟩
 intro i a x ha hx
 rw[uK (show s≠a by rintro rfl;exact n4 (uY ha))]
 exact h.ld i a x ha hx
theorem SAt.nums(h:SAt S s l m as st)(us:Gc Int):SAt (S.set m (.lst (us.map D.int))) s l m as {st with nums:=us}:=by
 obtain⟨n1,n2,n3,n4,n5,n6,n7⟩:=h.ne
 refine⟨by rw[uK (wI n2)];exact h.root,by rw[uK (wI n3)];exact h.lo,uS (h.lts m (by simp)),?_,h.len,h.nd⟩
 intro i a x ha hx
 rw[uK (show m≠a by rintro rfl;exact n6 (uY ha))]
 exact h.ld i a x ha hx
theorem SJ{f:Ld->Ld}{body:Ex}{C:En}{i8:Nat}{o0:uD D}(h:SAt S s l m as st)(hi:C.length=i8)(hb:∀(S':Sto) (a:Nat) (x:Ld),x∈st.AE->S'[a]?=Fk (Cq x)->∃S2,body (C++[Fk (.ref a)]) S'=Fk (.nx,C++[Fk (.ref a)],S2.set a (Cq (f x)))/\Ce [] S' S2):∃o S',Ni [(l,as.map D.ref)] (tNm i8) body (as.map D.ref) (C++[o0]) S=Fk (.nx,C++[o],S')/\SAt S' s l m as {st with AE:=st.AE.map f}/\Ce as S S':=by
 obtain⟨E',S',e,i,o,i1,i2,rfl,i3,i4⟩:=EI (gs:=[(l,as.map D.ref)]) (t:=tNm i8) (b:=body)
  (I:=λds E S'=>∃(i:Nat) (o:uD D),ds=(as.drop i).map D.ref/\i<=as.length/\E=C++[o]/\SAt S' s l m as {st with AE:=(st.AE.take i).map f++st.AE.drop i}/\Ce as S S')
  (λds E S' hI=>by obtain⟨i,o,_,_,_,h1,_⟩:=hI;exact h1.guard) (ds:=as.map D.ref) (E:=C++[o0]) (S:=S)
  ⟨0,o0,by simp,wR _,rfl,by simpa using h,.refl⟩ (by
    rintro d ds E S1 ⟨i,o,i1,i2,rfl,i3,i4⟩
    have hlt:i<as.length:=by
     rcases xQ i as.length with w|w
     .exact w
     .rw[vX w]at i1;cases i1
    rw[uy hlt,ui]at i1
    injection i1 with e1 e2
    subst e1 e2
    have hl2:i<st.AE.length:=by rw[<-h.len];exact hlt
    have ha:=W1 hlt
    have hx:((st.AE.take i).map f++st.AE.drop i)[i]?=Fk st.AE[i]:=by
     rw[vI (by simp;lia)]
     simp[Nat.min_eq_left (zA hl2)]
    obtain⟨S2,e3,g3⟩:=hb S1 as[i] st.AE[i] (v3 hl2) (i3.ld i _ _ ha hx)
    have k:=(i3.UK g3).US (y:=f st.AE[i]) ha
    refine⟨C++[Fk (.ref as[i])],C++[Fk (.ref as[i])],S2.set as[i] (Cq (f st.AE[i])),?_,e3,i+1,Fk (.ref as[i]),rfl,hlt,rfl,?_,?_⟩
    .rw[fN]
     congr 1
     subst hi
     rw[AAh _ _ (uN _)]
     simp
    .have:((st.AE.take i).map f++st.AE.drop i).set i (f st.AE[i])=(st.AE.take (i+1)).map f++st.AE.drop (i+1):=by
      rw[AAh _ _ (by simp;lia)]
      have e0:i-((st.AE.take i).map f).length=0:=by simp;lia
      rw[e0,uy hl2,List.set_cons_zero,List.take_succ_eq_append_getElem hl2,wU]
      simp
     rw[<-this]
     exact k
    .exact(i4.trans (g3.mono λ_ z=>(nomatch z))).trans (.set (v3 hlt)))
 refine⟨o,S',e,?_,i4⟩
 have hz:i=as.length:=by
  have:=congrArg xf i1
  simp at this
  lia
 have:(st.AE.take i).map f++st.AE.drop i=st.AE.map f:=by
  rw[hz,h.len];simp
 rw[this]at i3
 exact i3
end
section
variable{S S':Sto}{s l m:Nat}{as:Gc Nat}{st:Stt}{t:Tr}{k:Nat}
theorem fX{i:Nat}{n:Int}{j:Nat}(hi:i<st.AE.length)(h:∀x∈st.AE,∀r∈x.ow,Sz j r):∀x∈less st.AE i n,∀r∈x.ow,Sz j r:=by
 intro x hx
 rcases Qo hx hi with h1|h1
 .exact h x h1
 .rw[h1];exact h (AU st.AE i) (A5 hi)
theorem XO{i:Nat}{n:Int}{j:Nat}(hi:i<st.AE.length)(h:∀x∈st.AE,x.ow.length=j):∀x∈less st.AE i n,x.ow.length=j:=by
 intro x hx
 rcases Qo hx hi with h1|h1
 .exact h x h1
 .rw[h1];exact h (AU st.AE i) (A5 hi)
theorem Zz(hS:SAt S s l m as st)(ht:Kg t)(h:GC t k st)(hk:k<=16){i:Nat}{n:Int}{ws:Gc Int}(hc:Can t st (.thr i n ws)):∃S',HA [t.d,.ref s,(Ab.thr i n ws).d] S=Fk (.non,S')/\SAt S' s l m as (step t st (.thr i n ws))/\Ce (s::l::m::as) S S':=by
 obtain⟨hi,h1,h2,hl,hw⟩:=hc
 have cO:=gO hS ht h (by lia) hl hw hi h1 h2
 have cz:=Xr ht h (by lia) hl hw hi h1 h2
 have sz:=h.sz
 obtain⟨a,a1,a2,a3⟩:=hS.at hi
 have hS1:=hS.US (y:=⟨(AU st.AE i).k,(AU st.AE i).n-n,(AU st.AE i).ow⟩) a1
 have o1:=sz.1 _ (A5 hi)
 have tp:=ht.2.1
 have hdef:step t st (.thr i n ws)={st with AE:=(less st.AE i n).map λx=>{x with ow:=Jp (KQ t st.AE i n ws) (AU st.AE i).ow x.ow},hold:=Jp (KQ t st.AE i n ws) (AU st.AE i).ow st.hold}:=rfl
 rw[hdef]
 generalize hX:KQ t st.AE i n ws=X at*
 obtain⟨o,S2,f1,f2,f3⟩:=SJ (f:=λx=>{x with ow:=Jp X (AU st.AE i).ow x.ow}) (body:=P2 (AJ F0 [eOp (o2 wIx) [eV 8,eC (.int 2)],eV 6,eV 7]) (eV 8) (eC (.int 2))) (C:=[Fk t.d,Fk (.ref s),Fk (Ab.thr i n ws).d,Fk (.ref l),Fk (shD st.hold),Fk (.ref m),Fk (aD X),Fk (shD (AU st.AE i).ow)]) (i8:=8) (o0:=uC) hS1 rfl (by
  intro S' b x hx hb
  obtain⟨S2,e2,g2⟩:=VG (S:=S') (x:=X) (ss:=x.ow) (os:=(AU st.AE i).ow) (j:=30+170*k) (i:=145+k) (fX (n:=n) hi sz.1 x hx) o1 cz (by lia) (by rw[XO (n:=n) hi h.own x hx];lia)
  have hb2:=g2.get hb (by simp)
  refine⟨S2,?_,g2⟩
  simp[BE hb,Cq,e2,AY hb2])
 obtain⟨S3,e3,g3⟩:=VG (S:=S2) (x:=X) (ss:=st.hold) (os:=(AU st.AE i).ow) (j:=30+170*k) (i:=145+k) sz.2 o1 cz (by lia) (by rw[h.hold];lia)
 have f4:=(f2.UK g3)
 have rt:=f4.root
 refine⟨S3.set s (.lst [.ref l,shD (Jp X (AU st.AE i).ow st.hold),.ref m]),?_,f4.hold _,?_⟩
 .have f1':=f1
  simp only[vK,uz]at f1'
  have rt':Gj S3 s=Fk [.ref l,shD st.hold,.ref m]:=AY rt
  have r0:=AY hS.root
  have lo:=BE hS.lo
  have xx:=BE a2
  have c2:=AY a2
  have sq1:=Hh hS1.lo
  simp only[Cq]at f1' sq1 c2 xx
  simp only[Ab.d]at f1' cO⊢
  simp[HA,Ml,r0,cO,lo,a3,xx,c2,sq1,f1',e3,rt']
 .have q1:Ce (s::l::m::as) S (S.set a (Cq ⟨(AU st.AE i).k,(AU st.AE i).n-n,(AU st.AE i).ow⟩)):=.set (by simp[uY a1])
  exact((q1.trans (f3.mono λn hn=>by simp[hn])).trans (g3.mono λ_ z=>(nomatch z))).trans (.set (by simp))
theorem YI(hS:SAt S s l m as st)(ht:Kg t)(h:GC t k st)(hk:k<=16){p q:Nat}{x:Rat}(hc:Can t st (.Mj p q x)):∃S',HA [t.d,.ref s,(Ab.Mj p q x).d] S=Fk (.non,S')/\SAt S' s l m as (step t st (.Mj p q x))/\Ce (s::l::m::as) S S':=by
 obtain⟨hpq,hp,hq,x1,x2,x3⟩:=hc
 have sz:=h.sz
 have hx:Sz 4 x:=by
  refine⟨?_,by lia⟩
  show x.num.natAbs<16
  lia
 have hdef:step t st (.Mj p q x)={st with AE:=st.AE.map λy=>{y with ow:=IM p q x y.ow},hold:=IM p q x st.hold}:=rfl
 rw[hdef]
 obtain⟨o,S2,f1,f2,f3⟩:=SJ (f:=λy=>{y with ow:=IM p q x y.ow}) (body:=P2 (AJ HB [eOp (o2 wIx) [eV 8,eC (.int 2)],eV 2]) (eV 8) (eC (.int 2))) (C:=[Fk t.d,Fk (.ref s),Fk (Ab.Mj p q x).d,Fk (.ref l),Fk (shD st.hold),Fk (.ref m),uC,uC]) (i8:=8) (o0:=uC) hS rfl (by
  intro S' b y hy hb
  obtain⟨S2,e2,g2⟩:=XC (S:=S') (p:=p) (q:=q) (x:=x) (ss:=y.ow) (j:=30+170*k) (i:=4) (sz.1 y hy) hx (by lia) (by rw[h.own y hy];exact hp) (by rw[h.own y hy];exact hq) hpq
  have hb2:=g2.get hb (by simp)
  refine⟨S2,?_,g2⟩
  simp[BE hb,Cq,e2,AY hb2])
 obtain⟨S3,e3,g3⟩:=XC (S:=S2) (p:=p) (q:=q) (x:=x) (ss:=st.hold) (j:=30+170*k) (i:=4) sz.2 hx (by lia) (by rw[h.hold];exact hp) (by rw[h.hold];exact hq) hpq
 have f4:=(f2.UK g3)
 have rt:=f4.root
 refine⟨S3.set s (.lst [.ref l,shD (IM p q x st.hold),.ref m]),?_,f4.hold _,?_⟩
 .have f1':=f1
  simp only[vK,uz]at f1'
  have rt':Gj S3 s=Fk [.ref l,shD st.hold,.ref m]:=AY rt
  have r0:=AY hS.root
  have sq1:=Hh hS.lo
  simp only[Ab.d]at f1' e3⊢
  simp[HA,Ml,r0,sq1,f1',e3,rt']
 .exact((f3.mono λn hn=>by simp[hn]).trans (g3.mono λ_ z=>(nomatch z))).trans (.set (by simp))
end
section
variable{S S':Sto}{s l m:Nat}{as:Gc Nat}{st:Stt}{t:Tr}{k:Nat}
theorem UJ{ls:Gc Ld}{l:Nat}{n:Int}:less ls l n=ls.set l ⟨(AU ls l).k,(AU ls l).n-n,(AU ls l).ow⟩:=rfl
theorem UU{P p:Nat}{cond:Int}{C:En}{dd:D}{f:Ev}(hP:P<=50)(hf:∀(i:Nat),f [Fk dd,Fk (.int i)] S=Fk (aD (if i=p then 1 else 0),S)):C7 [] (tNm 1) Cr f (J6 0 P) [] [Fk dd,uC] S=Fk ((WE P p).map aD,S):=by
 have:=Ea (gs:=[]) (t:=tNm 1) (f:=f) (C:=[Fk dd]) (m:=1) (e:=λi:Nat=>D.int (0+(i:Int))) (g:=λi=>aD (if i=p then 1 else 0)) (S:=S) Au (xs:=uU P) (acc:=[]) (os:=[uC]) rfl (uO (show _<=50 by simp;lia) (AN (by decide))) (by
  intro i _ os ho
  obtain⟨o,rfl⟩:=Ut ho
  refine⟨[Fk (.int i)],rfl,by simp,hf i⟩)
 simp only[vK,uz]at this
 rw[WE,vZ]
 exact this
theorem Zd(hS:SAt S s l m as st)(ht:Kg t)(h:GC t k st)(hk:k<=16){p kd:Nat}{n:Int}(hc:Can t st (.Iq p kd n)):∃S' as',BH [t.d,.ref s,(Ab.Iq p kd n).d] S=Fk (.non,S')/\SAt S' s l m as' (step t st (.Iq p kd n))/\Ce (s::l::m::as) S S'/\∀n∈as',n∈as\/S.length<=n:=by
 have tp:=ht.2.1
 have e:=UU (S:=S) (P:=t.p) (p:=p) (cond:=0) (C:=[]) (dd:=(Ab.Iq p kd n).d) (f:=Cm [eOp (o1 aX) [eOp (o2 wEq) [eV 1,eOp (o2 wIx) [eV 0,eC (.int 1)]]],eC (.int 1)]) (by lia) (by
  intro i
  by_cases hi:i=p
  .subst hi;simp[Ab.d];rfl
  .have:((i:Int)==(p:Int))=false:=by simp;lia
   simp[Ab.d,this,hi];rfl)
 have rn:Jn (t.p:Int)=true:=DY (by lia) (by lia)
 have hz:as.length<sizeLine:=uG (show as.length<50 by rw[hS.len];have:=h.len;lia) (AN (by decide))
 refine⟨_,_,?_,hS.app ⟨kd,n,WE t.p p⟩,?_,?_⟩
 .have r0:=AY hS.root
  have c0:=AY hS.lo
  have c1:Gj (S++[Cq ⟨kd,n,WE t.p p⟩]) l=Fk (as.map D.ref):=AY (by rw[uH (Ad hS.lo)];exact hS.lo)
  simp only[Cq]at c1⊢
  simp only[Ab.d]at e⊢
  simp[BH,IE,r0,Tr.d,rn,e,c0,shD]at c1⊢
  simp[c1,hz]
 .exact Ce.app.trans (.set (by simp))
 .intro n hn
  rcases ub.mp hn with w|w
  .exact .inl w
  .simp at w;exact .inr (by lia)
theorem ZR(hS:SAt S s l m as st)(ht:Kg t)(h:GC t k st)(hk:k<=16){i:Nat}{n:Int}(hc:Can t st (.Jo i n)):∃S' as',BH [t.d,.ref s,(Ab.Jo i n).d] S=Fk (.non,S')/\SAt S' s l m as' (step t st (.Jo i n))/\Ce (s::l::m::as) S S'/\∀n∈as',n∈as\/S.length<=n:=by
 obtain⟨hi,h1,h2⟩:=hc
 obtain⟨a,a1,a2,a3⟩:=hS.at hi
 refine⟨_,as,?_,hS.US (y:=⟨(AU st.AE i).k,(AU st.AE i).n-n,(AU st.AE i).ow⟩) a1,.set (by simp[uY a1]),λn hn=>.inl hn⟩
 have r0:=AY hS.root
 have lo:=BE hS.lo
 have xx:=BE a2
 have c2:=AY a2
 simp only[Cq]at c2 xx⊢
 simp[BH,IE,Ab.d,r0,lo,a3,xx,c2]
theorem iT(hS:SAt S s l m as st)(ht:Kg t)(h:GC t k st)(hk:k<=16){i:Nat}{n:Int}{ws:Gc Int}(hc:Can t st (.thr i n ws)):∃S' as',BH [t.d,.ref s,(Ab.thr i n ws).d] S=Fk (.non,S')/\SAt S' s l m as' (step t st (.thr i n ws))/\Ce (s::l::m::as) S S'/\∀n∈as',n∈as\/S.length<=n:=by
 obtain⟨S',e,g1,g2⟩:=Zz hS ht h hk hc
 refine⟨S',as,?_,g1,g2,λn hn=>.inl hn⟩
 have r0:=AY hS.root
 simp only[Ab.d]at e⊢
 simp[BH,IE,r0,e]
theorem fq(hS:SAt S s l m as st)(ht:Kg t)(h:GC t k st)(hk:k<=16){p q:Nat}{x:Rat}(hc:Can t st (.Mj p q x)):∃S' as',BH [t.d,.ref s,(Ab.Mj p q x).d] S=Fk (.non,S')/\SAt S' s l m as' (step t st (.Mj p q x))/\Ce (s::l::m::as) S S'/\∀n∈as',n∈as\/S.length<=n:=by
 obtain⟨S',e,g1,g2⟩:=YI hS ht h hk hc
 refine⟨S',as,?_,g1,g2,λn hn=>.inl hn⟩
 have r0:=AY hS.root
 simp only[Ab.d]at e⊢
 simp[BH,IE,r0,e]
theorem eO(hS:SAt S s l m as st)(ht:Kg t)(h:GC t k st)(hk:k<=16){i kd:Nat}{g n:Int}(hc:Can t st (.swap i g kd n)):∃S' as',BH [t.d,.ref s,(Ab.swap i g kd n).d] S=Fk (.non,S')/\SAt S' s l m as' (step t st (.swap i g kd n))/\Ce (s::l::m::as) S S'/\∀n∈as',n∈as\/S.length<=n:=by
 obtain⟨hi,h1,h2,h3,h4,h5,h6⟩:=hc
 obtain⟨a,a1,a2,a3⟩:=hS.at hi
 have hS1:=hS.US (y:=⟨(AU st.AE i).k,(AU st.AE i).n-g,(AU st.AE i).ow⟩) a1
 have hS2:=hS1.app ⟨kd,n,(AU st.AE i).ow⟩
 have hz:as.length<sizeLine:=uG (show as.length<50 by rw[hS.len];have:=h.len;lia) (AN (by decide))
 have hz2:st.nums.length<=sizeLine:=uO (show _<=20 by have:=h.nm;lia) (AN (by decide))
 refine⟨_,_,?_,hS2,?_,?_⟩
 .have r0:=AY hS.root
  have lo:=BE hS.lo
  have xx:=BE a2
  have c2:=AY a2
  have lo1:=BE hS1.lo
  have co1:=AY hS1.lo
  have x1:=BE (uS (a:=Cq ⟨(AU st.AE i).k,(AU st.AE i).n-g,(AU st.AE i).ow⟩) (Ad a2))
  have c4:Gj ((S.set a (Cq ⟨(AU st.AE i).k,(AU st.AE i).n-g,(AU st.AE i).ow⟩))++[Cq ⟨kd,n,(AU st.AE i).ow⟩]) l=Fk (as.map D.ref):=AY (by rw[uH (Ad hS1.lo)];exact hS1.lo)
  have nu:=hS2.nu
  have c5:=AY nu
  have st5:∀{T:Sto},T[m]?=Fk (.lst (st.nums.map D.int))->T.set m (.lst (st.nums.map D.int))=T:=λh=>set_same h
  have st6:=st5 nu
  simp only[Cq]at c2 xx lo1 co1 x1 c4 c5 st6⊢
  have hz':(as.map D.ref).length<sizeLine:=by simpa using hz
  generalize (as.map D.ref)=refs at*
  simp[BH,IE,Ab.d,r0,lo,a3,xx,c2,lo1,x1,co1]at c4 c5 st6⊢
  simp[c4,hz',c5,hz2,st6]
 .exact((Ce.set (by simp[uY a1])).trans .app).trans (.set (by simp))
 .intro n hn
  rcases ub.mp hn with w|w
  .exact .inl w
  .simp at w;exact .inr (by lia)
theorem cB(hS:SAt S s l m as st)(ht:Kg t)(h:GC t k st)(hk:k<=16){i kd:Nat}{u g n:Int}(hc:Can t st (.IV u i g kd n)):∃S' as',BH [t.d,.ref s,(Ab.IV u i g kd n).d] S=Fk (.non,S')/\SAt S' s l m as' (step t st (.IV u i g kd n))/\Ce (s::l::m::as) S S'/\∀n∈as',n∈as\/S.length<=n:=by
 obtain⟨hi,h1,h2,h3,h4,h5,h6,h7,h8⟩:=hc
 obtain⟨a,a1,a2,a3⟩:=hS.at hi
 have hS1:=hS.US (y:=⟨(AU st.AE i).k,(AU st.AE i).n-g,(AU st.AE i).ow⟩) a1
 have hS2:=hS1.app ⟨kd,n,(AU st.AE i).ow⟩
 have hz:as.length<sizeLine:=uG (show as.length<50 by rw[hS.len];have:=h.len;lia) (AN (by decide))
 have hz2:st.nums.length+1<=sizeLine:=uO (show _<=20 by have:=h.nm;lia) (AN (by decide))
 refine⟨_,_,?_,hS2.nums (st.nums++[u]),?_,?_⟩
 .have r0:=AY hS.root
  have lo:=BE hS.lo
  have xx:=BE a2
  have c2:=AY a2
  have lo1:=BE hS1.lo
  have co1:=AY hS1.lo
  have x1:=BE (uS (a:=Cq ⟨(AU st.AE i).k,(AU st.AE i).n-g,(AU st.AE i).ow⟩) (Ad a2))
  have c4:Gj ((S.set a (Cq ⟨(AU st.AE i).k,(AU st.AE i).n-g,(AU st.AE i).ow⟩))++[Cq ⟨kd,n,(AU st.AE i).ow⟩]) l=Fk (as.map D.ref):=AY (by rw[uH (Ad hS1.lo)];exact hS1.lo)
  have nu:=hS2.nu
  have c5:=AY nu
  simp only[Cq]at c2 xx lo1 co1 x1 c4 c5⊢
  have hz':(as.map D.ref).length<sizeLine:=by simpa using hz
  generalize (as.map D.ref)=refs at*
  simp[BH,IE,Ab.d,r0,lo,a3,xx,c2,lo1,x1,co1]at c4 c5⊢
  simp[c4,hz',c5,hz2]
 .exact(((Ce.set (by simp[uY a1])).trans .app).trans (.set (by simp))).trans (.set (by simp))
 .intro n hn
  rcases ub.mp hn with w|w
  .exact .inl w
  .simp at w;exact .inr (by lia)
theorem fR(hS:SAt S s l m as st)(ht:Kg t)(h:GC t k st)(hk:k<=16){i j:Nat}(hc:Can t st (.K7 i j)):∃S' as',BH [t.d,.ref s,(Ab.K7 i j).d] S=Fk (.non,S')/\SAt S' s l m as' (step t st (.K7 i j))/\Ce (s::l::m::as) S S'/\∀n∈as',n∈as\/S.length<=n:=by
 obtain⟨hij,hi,hj,h1,h2,h3⟩:=hc
 obtain⟨a,a1,a2,a3⟩:=hS.at hi
 obtain⟨b,b1,b2,b3⟩:=hS.at hj
 have sz:=h.sz
 have pi:=h.pcs _ (A5 hi)
 have pj:=h.pcs _ (A5 hj)
 obtain⟨S1,e1,g1⟩:=Wd (S:=S) (x:=AU st.AE i) (y:=AU st.AE j) (j:=30+170*k) (i:=131+k) a2 b2 (sz.1 _ (A5 hi)) (sz.1 _ (A5 hj)) (IU pi.1 pi.2) (IU pj.1 pj.2) (by lia) (by lia) (by lia) (by rw[h.own _ (A5 hi)];have:=ht.2.1;lia)
 have hS1:=hS.UK g1
 have hab:a≠b:=by
  rintro rfl
  exact hij ((ye (uL.mp a1).1 hS.ne.2.2.2.2.2.2).mp (a1.trans b1.symm))
 have hS2:=hS1.app ⟨(AU st.AE i).k,(AU st.AE i).n+(AU st.AE j).n,DK (AU st.AE i).n (AU st.AE j).n (AU st.AE i).ow (AU st.AE j).ow⟩
 have ai:i<as.length:=(uL.mp a1).1
 have bj:j<as.length:=(uL.mp b1).1
 have a1':(as++[S1.length])[i]?=Fk a:=by rw[uH ai];exact a1
 have b1':(as++[S1.length])[j]?=Fk b:=by rw[uH bj];exact b1
 have hS3:=hS2.US (y:=⟨(AU st.AE i).k,0,(AU st.AE i).ow⟩) a1'
 have hS4:=hS3.US (y:=⟨(AU st.AE j).k,0,(AU st.AE j).ow⟩) b1'
 have hz:as.length<sizeLine:=uG (show as.length<50 by rw[hS.len];have:=h.len;lia) (AN (by decide))
 have est:step t st (.K7 i j)={st with AE:=((st.AE++[Ld.mk (AU st.AE i).k ((AU st.AE i).n+(AU st.AE j).n) (DK (AU st.AE i).n (AU st.AE j).n (AU st.AE i).ow (AU st.AE j).ow)]).set i ⟨(AU st.AE i).k,0,(AU st.AE i).ow⟩).set j ⟨(AU st.AE j).k,0,(AU st.AE j).ow⟩}:=by
  have e0:AU (less st.AE i (AU st.AE i).n) j=AU st.AE j:=by
   unfold AU less
   rw[uM,uK hij,<-uM]
  have e1:less st.AE i (AU st.AE i).n=st.AE.set i ⟨(AU st.AE i).k,0,(AU st.AE i).ow⟩:=by
   unfold less
   rw[Int.sub_self]
  have e2:less (less st.AE i (AU st.AE i).n) j (AU st.AE j).n=(st.AE.set i ⟨(AU st.AE i).k,0,(AU st.AE i).ow⟩).set j ⟨(AU st.AE j).k,0,(AU st.AE j).ow⟩:=by
   rw[UJ (ls:=less st.AE i (AU st.AE i).n),e0,Int.sub_self,e1]
  show{st with AE:=less (less st.AE i (AU st.AE i).n) j (AU st.AE j).n++_}=_
  rw[e2,AA1 _ _ hi,AA1 _ _ (by simpa using hj)]
 refine⟨_,_,?_,est▸hS4,?_,?_⟩
 .have r0:=AY hS.root
  have lo:=BE hS.lo
  have c0:=AY hS.lo
  have xa:=BE a2
  have xb:=BE b2
  have c1:=AY hS1.lo
  have c4:Gj (S1++[Cq ⟨(AU st.AE i).k,(AU st.AE i).n+(AU st.AE j).n,DK (AU st.AE i).n (AU st.AE j).n (AU st.AE i).ow (AU st.AE j).ow⟩]) l=Fk (as.map D.ref):=AY (by rw[uH (Ad hS1.lo)];exact hS1.lo)
  have c5:=AY (hS2.ld i a (AU st.AE i) a1' (by show(st.AE++_)[i]?=_;rw[uH hi];exact G4 hi))
  have c6:=AY (hS3.ld j b (AU st.AE j) b1' (by show((st.AE++_).set i _)[j]?=_;rw[uK hij,uH hj];exact G4 hj))
  simp only[Cq]at xa xb c4 c5 c6⊢
  have hz':(as.map D.ref).length<sizeLine:=by simpa using hz
  generalize (as.map D.ref)=refs at*
  generalize DK (AU st.AE i).n (AU st.AE j).n (AU st.AE i).ow (AU st.AE j).ow=pr at*
  simp[BH,IE,Ab.d,r0,lo,a3,b3,xa,xb,c0,e1]at c4 c5 c6⊢
  simp[c4,hz',c5,c6]
 .exact(((g1.mono λ_ z=>(nomatch z)).trans .app).trans (.set (by simp))).trans ((Ce.set (by simp[uY a1])).trans (.set (by simp[uY b1])))
 .intro n hn
  rcases ub.mp hn with w|w
  .exact .inl w
  .simp at w;subst w;exact .inr g1.len
theorem Z3(hS:SAt S s l m as st)(ht:Kg t)(h:GC t k st)(hk:k<=16){d:Ab}(hc:Can t st d):∃S' as',BH [t.d,.ref s,d.d] S=Fk (.non,S')/\SAt S' s l m as' (step t st d)/\Ce (s::l::m::as) S S'/\∀n∈as',n∈as\/S.length<=n:=by
 cases d with
 |Iq=>exact Zd hS ht h hk hc
 |K7=>exact fR hS ht h hk hc
 |swap=>exact eO hS ht h hk hc
 |IV=>exact cB hS ht h hk hc
 |Jo=>exact ZR hS ht h hk hc
 |thr=>exact iT hS ht h hk hc
 |Mj=>exact fq hS ht h hk hc
end
section
variable{st:Stt}{t:Tr}{k:Nat}
theorem KZ{a b:Nat}(h:a<=b):2^a<=2^b:=um (by decide) h
theorem O5{a b:Nat}(h:a<=b):(2:Int)^a<=2^b:=by
 have:=KZ h
 exact_mod_cast this
theorem KS{c:Int}(h:0<=c):((c.toNat:Nat):Rat)=(c:Rat):=by
 have:((c.toNat:Nat):Int)=c:=vP h
 have:(((c.toNat:Nat):Int):Rat)=(c:Rat):=by rw[this]
 exact this
theorem Yb{B T k j:Nat}(hB:B<2^(30+170*k))(hT:T<2^j)(hj:j<=170):B*T<2^(30+170*(k+1)):=by
 have:=Cv hB hT
 exact uG this (KZ (by lia))
theorem cW{G B P p:Nat}(h:G<=B):∀r∈WE P p,Ok G B r:=by
 intro r hr
 obtain⟨i,_,rfl⟩:=uk.mp hr
 split
 .exact Ok.one h
 .exact Ok.zero
theorem Sn{G B:Nat}{n m:Int}{ss os:Gc Rat}(hn:0<n)(hm:0<m)(hs:∀r∈ss,Ok G B r)(ho:∀r∈os,Ok G B r):∀r∈DK n m ss os,Ok (G*(n+m).toNat) (B*(n+m).toNat) r:=by
 intro r hr
 unfold DK at hr
 rw[xF]at hr
 obtain⟨i,hi'⟩:=hr
 rw[yx]at hi'
 obtain⟨x,y,hx,hy,rfl⟩:=hi'
 have:=Ok.mix (a:=n.toNat) (b:=m.toNat) (t:=(n+m).toNat) (hs x (uY hx)) (ho y (uY hy)) (by lia) (by lia)
 rwa [KS (by lia),KS (by lia),KS (by lia)]at this
theorem Q5{G B p q:Nat}{x:Rat}{ss:Gc Rat}(hp:p<ss.length)(hq:q<ss.length)(x1:0<x.num)(x2:x.num<=x.den)(hs:∀r∈ss,Ok G B r):∀r∈IM p q x ss,Ok (G*x.den) (2*B*x.den) r:=by
 have dp:=x.den_pos
 have hsp:=hs _ (getD_mem (d:=0) hp)
 have hsq:=hs _ (getD_mem (d:=0) hq)
 have xs:=FT x
 have ex:(x.num:Rat)=((x.num.toNat:Nat):Rat):=(KS (by lia)).symm
 have nz:=LB x
 intro r hr
 unfold IM at hr
 rcases xI hr with hr|hr
 .rcases xI hr with hr|hr
  .exact(hs r hr).up (by rw[yt];lia)
  .rw[hr]
   obtain⟨z,e,hz⟩:=Ok.mix (a:=x.den-x.num.toNat) (b:=x.num.toNat) (t:=x.den) hsp (Ok.zero (G:=G) (B:=B)) (by lia) dp
   refine⟨z,?_,uO hz (by rw[yt];lia)⟩
   rw[<-e]
   have e2:((x.den-x.num.toNat:Nat):Rat)=(x.den:Rat)-(x.num:Rat):=by
    have:(((x.den-x.num.toNat:Nat):Int):Rat)=((x.den-x.num:Int):Rat):=by
     congr 1;lia
    push_cast at this
    exact this
   rw[e2]
   generalize ss.getD p 0=sp at*
   congr 1
   grind
 .rw[hr]
  obtain⟨z,e1,hz⟩:=hsp
  obtain⟨y,e2,hy⟩:=hsq
  refine⟨y*x.den+z*x.num.toNat,?_,?_⟩
  .generalize ss.getD p 0=sp at*
   generalize ss.getD q 0=sq at*
   push_cast
   rw[<-ex,<-e1,<-e2]
   grind
  .have h1:y*x.den<=B*x.den:=vA _ hy
   have h2:z*x.num.toNat<=B*x.den:=zY hz (by lia)
   rw[yt];lia
theorem Fg{f:Rat->Rat->Rat}{a b:Gc Rat}{n:Nat}(h:a.length=n)(g:b.length=n):(zF f a b).length=n:=by rw[List.length_zipWith,h,g];lia
theorem Eb{P:Ld->Prop}{i:Nat}{n:Int}(hi:i<st.AE.length)(h:∀x∈st.AE,P x)(g:P ⟨(AU st.AE i).k,(AU st.AE i).n-n,(AU st.AE i).ow⟩):∀x∈less st.AE i n,P x:=by
 intro x hx
 rcases Qo hx hi with h1|h1
 .exact h x h1
 .rw[h1];exact g
theorem Kk{P:Ld->Prop}{ls:Gc Ld}{y:Ld}(h:∀x∈ls,P x)(g:P y):∀x∈ls++[y],P x:=by
 intro x hx
 rcases ub.mp hx with w|w
 .exact h x w
 .simp at w;rw[w];exact g
structure LOk(t:Tr)(k G B:Nat)(x:Ld):Prop where
 kd:x.k<t.k
 n0:0<=x.n
 n1:x.n<2^(131+k)
 own:x.ow.length=t.p
 ok:∀r∈x.ow,Ok G B r
theorem LOk.up{G B T B':Nat}{x:Ld}(h:LOk t k G B x)(hT:B*T<=B'):LOk t (k+1) (G*T) B' x:=⟨h.kd,h.n0,zb h.n1 (O5 (by lia)),h.own,λr hr=>(h.ok r hr).up hT⟩
theorem LOk.up1{G B:Nat}{x:Ld}(h:LOk t k G B x):LOk t (k+1) G B x:=⟨h.kd,h.n0,zb h.n1 (O5 (by lia)),h.own,h.ok⟩
theorem LOk.less{G B:Nat}{x:Ld}{n:Int}(h:LOk t k G B x)(h0:0<=n)(h1:n<=x.n):LOk t k G B ⟨x.k,x.n-n,x.ow⟩:=⟨h.kd,show 0<=x.n-n by lia,show x.n-n<_ by have:=h.n1;lia,h.own,h.ok⟩
theorem GC.of{G B:Nat}(h1:st.AE.length<=4+k)(h2:∀x∈st.AE,LOk t k G B x)(h3:st.hold.length=t.p)(h4:st.nums.length<=k)(g0:0<G)(g1:G<=B)(g2:B<2^(30+170*k))(h5:∀r∈st.hold,Ok G B r):GC t k st:=⟨h1,λx hx=>(h2 x hx).kd,λx hx=>⟨(h2 x hx).n0,(h2 x hx).n1⟩,λx hx=>(h2 x hx).own,h3,h4,G,B,g0,g1,g2,λx hx=>(h2 x hx).ok,h5⟩
theorem eA{n:Int}(h:n<2^131):n<2^(131+k):=zb h (O5 (by lia))
theorem UW(ht:Kg t)(h:GC t k st)(hk:k<=16){d:Ab}(hc:Can t st d):GC t (k+1) (step t st d):=by
 obtain⟨G,B,g0,g1,g2,hl,hh⟩:=h.gb
 have L:∀x∈st.AE,LOk t k G B x:=λx hx=>⟨h.kind x hx,(h.pcs x hx).1,(h.pcs x hx).2,h.own x hx,hl x hx⟩
 have g2':B<2^(30+170*(k+1)):=uG g2 (KZ (by lia))
 have hlen:=h.len
 have hnm:=h.nm
 cases d with
 |Iq p kd n=>
  obtain⟨h1,h2,h3,h4⟩:=hc
  refine GC.of (G:=G) (B:=B) (by simp[step];lia) (Kk (λx hx=>(L x hx).up1) ⟨h2,by show 0<=n;lia,eA h4,by simp[WE],cW g1⟩) h.hold (vc hnm) g0 g1 g2' hh
 |K7 i j=>
  obtain⟨hij,hi,hj,h1,h2,h3⟩:=hc
  have li:=L _ (A5 hi)
  have lj:=L _ (A5 hj)
  have tl:((AU st.AE i).n+(AU st.AE j).n).toNat<2^(132+k):=by
   have a:=li.n1;have b:=lj.n1
   have e:(2:Int)^(132+k)=2^(131+k)*2:=by rw[show 132+k=(131+k)+1 by lia,AAU]
   have:(((AU st.AE i).n+(AU st.AE j).n).toNat:Int)<((2^(132+k):Nat):Int):=by
    rw[vP (by lia)]
    push_cast
    rw[e];lia
   exact_mod_cast this
  have t0:0<((AU st.AE i).n+(AU st.AE j).n).toNat:=by lia
  refine GC.of (G:=G*((AU st.AE i).n+(AU st.AE j).n).toNat) (B:=B*((AU st.AE i).n+(AU st.AE j).n).toNat) (by simp[step,Ca];lia) (Kk ?_ ⟨li.kd,by show 0<=(AU st.AE i).n+(AU st.AE j).n;lia,?_,?_,Sn h1 h2 li.ok lj.ok⟩) h.hold (vc hnm) (x8 g0 t0) (vA _ g1) (Yb g2 tl (by lia)) (λr hr=>(hh r hr).up (uN _))
  .have e0:AU (less st.AE i (AU st.AE i).n) j=AU st.AE j:=by
    unfold AU less
    rw[uM,uK hij,<-uM]
   have A:=Eb (P:=LOk t (k+1) (G*((AU st.AE i).n+(AU st.AE j).n).toNat) (B*((AU st.AE i).n+(AU st.AE j).n).toNat)) (n:=(AU st.AE i).n) hi (λx hx=>(L x hx).up (uN _)) ((li.up (uN _)).less (by lia) (zm _))
   have A2:=Eb (st:={st with AE:=less st.AE i (AU st.AE i).n}) (i:=j) (n:=(AU st.AE j).n) (by simpa[Ca]using hj) A (by
    show LOk _ _ _ _ ⟨(AU (less st.AE i (AU st.AE i).n) j).k,(AU (less st.AE i (AU st.AE i).n) j).n-_,(AU (less st.AE i (AU st.AE i).n) j).ow⟩
    rw[e0]
    exact(lj.up (uN _)).less (by lia) (zm _))
   exact A2
  .show(AU st.AE i).n+(AU st.AE j).n<2^(131+(k+1))
   have a:=li.n1;have b:=lj.n1
   rw[show 131+(k+1)=(131+k)+1 by lia,AAU];lia
  .exact Fg li.own lj.own
 |swap i g kd n=>
  obtain⟨hi,h1,h2,h3,h4,h5,h6⟩:=hc
  have li:=L _ (A5 hi)
  refine GC.of (G:=G) (B:=B) (by simp[step,Ca];lia) (Kk (Eb hi (λx hx=>(L x hx).up1) (li.up1.less (by lia) h2)) ⟨h3,by show 0<=n;lia,eA h6,li.own,li.ok⟩) h.hold (vc hnm) g0 g1 g2' hh
 |IV u i g kd n=>
  obtain⟨hi,h1,h2,h3,h4,h5,h6,h7⟩:=hc
  have li:=L _ (A5 hi)
  refine GC.of (G:=G) (B:=B) (by simp[step,Ca];lia) (Kk (Eb hi (λx hx=>(L x hx).up1) (li.up1.less (by lia) h2)) ⟨h3,by show 0<=n;lia,eA h6,li.own,li.ok⟩) h.hold (by simp[step];lia) g0 g1 g2' hh
 |Jo i n=>
  obtain⟨hi,h1,h2⟩:=hc
  have li:=L _ (A5 hi)
  refine GC.of (G:=G) (B:=B) (by simp[step,Ca];lia) (Eb hi (λx hx=>(L x hx).up1) (li.up1.less (by lia) h2)) h.hold (vc hnm) g0 g1 g2' hh
 |thr i n ws=>
  obtain⟨hi,h1,h2,h3,h4⟩:=hc
  have li:=L _ (A5 hi)
  have W:=Kp ht h (by lia) h3 h4
  have wl:(EH t st.AE ws).toNat<2^(145+k):=by
   have:((EH t st.AE ws).toNat:Int)<((2^(145+k):Nat):Int):=by
    rw[vP (by lia)];push_cast;exact W.2
   exact_mod_cast this
  have bo:=λ{ss:Gc Rat} (hs:∀r∈ss,Ok G B r)=>Sv ht h (by lia) h3 h4 hi h1 h2 li.ok hs
  refine GC.of (G:=G*(EH t st.AE ws).toNat) (B:=B*(EH t st.AE ws).toNat) (by simp[step,Ca];lia) ?_ (Fg h.hold li.own) (vc hnm) (x8 g0 (by lia)) (vA _ g1) (Yb g2 wl (by lia)) (bo hh)
  intro x hx
  obtain⟨y,hy,rfl⟩:=uk.mp hx
  have ly:=Eb (P:=LOk t k G B) hi L (li.less (n:=n) (by lia) h2) y hy
  exact⟨ly.kd,ly.n0,ly.up1.n1,Fg ly.own li.own,bo ly.ok⟩
 |Mj p q x=>
  obtain⟨h1,h2,h3,h4,h5,h6⟩:=hc
  have dp:=x.den_pos
  refine GC.of (G:=G*x.den) (B:=2*B*x.den) (by simp[step];lia) ?_ (by simp[step,IM,h.hold]) (vc hnm) (x8 g0 dp) (vA _ (by lia)) ?_ (Q5 (by rw[h.hold];exact h2) (by rw[h.hold];exact h3) h4 h5 hh)
  .intro y hy
   obtain⟨z,hz,rfl⟩:=uk.mp hy
   have lz:=L z hz
   exact⟨lz.kd,lz.n0,lz.up1.n1,by simp[IM,lz.own],Q5 (by rw[lz.own];exact h2) (by rw[lz.own];exact h3) h4 h5 lz.ok⟩
  .have:=Yb (B:=B) (T:=2*x.den) (j:=5) g2 (by lia) (by lia)
   rw[show 2*B*x.den=B*(2*x.den) by rw[<-yt,xO 2 B]]
   exact this
end
theorem MM{α:Type}{f:α->D}:∀{xs:Gc α},(∀x∈xs,(f x).lay=true)->D.Ri (xs.map f)=true
 | [],_=>rfl
 |x::xs,h=>by
  show((f x).lay && D.Ri (xs.map f))=true
  rw[h x uP,MM λy hy=>h y (uJ _ hy)]
  rfl
theorem bG{ds:Gc D}(h:D.Ri ds=true):ED (.lst ds) (.lst [])=true:=by
 unfold ED
 show(D.Ri ds && true && _)=true
 rw[h]
 simp only[Bool.true_and,xR]
 exact uO (Nat.min_le_right _ _) (by decide)
noncomputable def Ht(is:Gc Nat):Gc D:=is.map λ(i:Nat)=>D.int i
theorem ML{is:Gc Nat}:ED (.lst (Ht is)) (.lst [])=true:=bG (MM λ_ _=>rfl)
theorem bW{d:D}{ds:Gc D}:deq (.lst (d::ds)) (.lst [])=false:=rfl
theorem eB:deq (.lst []) (.lst [])=true:=rfl
theorem Nj{is:Gc Nat}:deq (.lst (Ht is)) (.lst [])=is.isEmpty:=by
 cases is with
 |nil=>exact eB
 |cons i is=>exact bW
theorem Lz{ds:Gc D}:Rl 0 ds=(uU ds.length).map λ(i:Nat)=>D.tup [.int i,ds.getD i .non]:=by
 apply zl
 intro i
 rw[Nb,uQ]
 by_cases h:i<ds.length
 .rw[W1 h,yG h]
  simp[W1 h]
 .rw[AAi (by lia),AAi (by simp;lia)]
  rfl
theorem J0{is:Gc Nat}:(Ht is).length=is.length:=by simp[Ht]
theorem Ls{is:Gc Nat}{r:Int}(h0:0<=r)(h1:r<is.length):∃i∈is,atI (Ht is) r=Fk (.int (i:Nat)):=by
 have h2:r.toNat<is.length:=by lia
 refine⟨is[r.toNat],v3 h2,?_⟩
 have:=cu (xs:=Ht is) h0 (by rw[J0];exact h1)
 rw[this]
 simp[Ht]
theorem XZ{x K:Int}(h0:0<=x)(h1:x<2*K):x % K=if x<K then x else x-K:=by
 split
 .exact Int.emod_eq_of_lt h0 (by assumption)
 .have:x % K=(x-K) % K:=by rw[Int.sub_emod_right]
  rw[this]
  exact Int.emod_eq_of_lt (by lia) (by lia)
section
variable{S:Sto}{p s l m:Nat}{as:Gc Nat}{st:Stt}{t:Tr}{k:Nat}
noncomputable def By(st:Stt):Gc Nat:=(uU st.AE.length).filter λi=>decide (0<(AU st.AE i).n)
theorem Xy(hS:SAt S s l m as st)(hl:st.AE.length<=50):C7 [(l,as.map D.ref)] (tTp [tNm 0,tNm 1]) (eOp (o2 wGt) [eOp (o2 wIx) [eV 1,eC (.int 1)],eC (.int 0)]) (eV 0) (Rl 0 (as.map D.ref)) [] [uC,uC] S=Fk (Ht (By st),S):=by
 have:=Ho (gs:=[(l,as.map D.ref)]) (t:=tTp [tNm 0,tNm 1]) (c:=eOp (o2 wGt) [eOp (o2 wIx) [eV 1,eC (.int 1)],eC (.int 0)]) (f:=eV 0) (C:=[]) (m:=2) (e:=λi:Nat=>D.tup [.int i,(as.map D.ref).getD i .non]) (g:=λi:Nat=>D.int i) (b:=λi=>decide (0<(AU st.AE i).n)) (S:=S) hS.guard (xs:=uU st.AE.length) (acc:=[]) (os:=[uC,uC]) rfl (uO (show _<=50 by simp;lia) (AN (by decide))) (by
  intro i hi os ho
  obtain⟨o1,o2,rfl⟩:=dB ho
  obtain⟨a,a1,a2,a3⟩:=hS.at (zI.mp hi)
  have e:(as.map D.ref).getD i .non=.ref a:=by simp[a1]
  rw[e]
  refine⟨[Fk (.int i),Fk (.ref a)],rfl,by simp,?_,by simp⟩
  simp[BE a2,Cq])
 rw[Lz,vL,hS.len]
 exact this
theorem Lo{i:Nat}(h:i∈By st):i<st.AE.length/\0<(AU st.AE i).n:=by
 unfold By at h
 rw[wm]at h
 exact⟨zI.mp h.1,by simpa using h.2⟩
noncomputable def Gw(st:Stt)(j:Nat):Gc Nat:=(By st).filter λi=> !(i==j) && ((AU st.AE i).k==(AU st.AE j).k)
theorem Nm:(By st).length<=st.AE.length:=by
 unfold By
 exact uO (xG _ _) (by simp)
theorem bQ{a b:Nat}:((a:Int)==(b:Int))=(a==b):=by
 by_cases h:a=b
 .subst h;simp
 .have:((a:Int)==(b:Int))=false:=by simp;lia
  rw[this];simp[h]
theorem fJ(hS:SAt S s l m as st)(hl:st.AE.length<=50){j:Nat}(hj:j∈By st):C7 [] (tNm 2) (Hs (eOp (o2 wNe) [eV 2,eV 1]) (eOp (o2 wEq) [eOp (o2 wIx) [eOp (o2 wIx) [eV 0,eV 2],eC (.int 0)],eOp (o2 wIx) [eOp (o2 wIx) [eV 0,eV 1],eC (.int 0)]])) (eV 2) (Ht (By st)) [] [Fk (.ref l),Fk (.int j),uC] S=Fk (Ht (Gw st j),S):=by
 have fl:=Nm (st:=st)
 exact Ho (gs:=[]) (t:=tNm 2) (f:=eV 2) (C:=[Fk (.ref l),Fk (.int j)]) (m:=1) (e:=λi:Nat=>D.int i) (g:=λi:Nat=>D.int i) (b:=λi=> !(i==j) && ((AU st.AE i).k==(AU st.AE j).k)) (S:=S) Au (xs:=By st) (acc:=[]) (os:=[uC]) rfl (uO (show _<=50 by simp;lia) (AN (by decide))) (by
  intro i hi os ho
  obtain⟨o1,rfl⟩:=Ut ho
  obtain⟨a,a1,a2,a3⟩:=hS.at (Lo hi).1
  obtain⟨b,b1,b2,b3⟩:=hS.at (Lo hj).1
  refine⟨[Fk (.int i)],rfl,by simp,?_,by simp⟩
  by_cases e:i=j
  .subst e
   simp
  .have e':((i:Int)==(j:Int))=false:=by simp;lia
   have e2:(i==j)=false:=by simp[e]
   simp[e',e2,BE hS.lo,a3,b3,BE a2,BE b2,Cq,bQ])
theorem bL{i j:Nat}(h:i∈Gw st j):i∈By st/\i≠j/\(AU st.AE i).k=(AU st.AE j).k:=by
 unfold Gw at h
 rw[wm]at h
 simp at h
 exact⟨h.1,h.2.1,h.2.2⟩
noncomputable def IK(st:Stt):Gc Nat:=(uU 10).filter λi=> !(st.nums.any λu=>u==(i:Int))
theorem U2{us:Gc Int}{i:Int}:inD (.int i) (us.map D.int)=us.any λu=>u==i:=by
 unfold inD
 rw[List.any_map]
 rfl
@[simp] theorem oE{b:Bool}{w:Wv}{r:List D}:wIn b w (.own r)=if(Kn (fz w) && r.all Kn)=true then some (.val (.bl (if b then !inD (fz w) r else inD (fz w) r)))else none:=nr rfl
@[simp] theorem nM{b:Bool}{w:Wv}{r:List D}:wIn b w (.val (.lst r))=if(Kn (fz w) && r.all Kn)=true then some (.val (.bl (if b then !inD (fz w) r else inD (fz w) r)))else none:=nr rfl
theorem Ra{us:Gc Int}:(us.map D.int).all Kn=true:=by
 rw[AAO,List.all_eq_true]
 intro x _;rfl
@[simp] theorem p9{i:Int}:Kn (.int i)=true:=nr rfl
theorem gU(hS:SAt S s l m as st):C7 [] (tNm 1) (eOp (o2 (wIn true)) [eV 1,eV 0]) (eV 1) (J6 0 10) [] [Fk (.ref m),uC] S=Fk (Ht (IK st),S):=by
 exact Ho (gs:=[]) (t:=tNm 1) (f:=eV 1) (C:=[Fk (.ref m)]) (m:=1) (e:=λi:Nat=>D.int (0+(i:Int))) (g:=λi:Nat=>D.int i) (b:=λi=> !(st.nums.any λu=>u==(i:Int))) (S:=S) Au (xs:=uU 10) (acc:=[]) (os:=[uC]) rfl (uO (show _<=50 by simp) (AN (by decide))) (by
  intro i hi os ho
  obtain⟨o1,rfl⟩:=Ut ho
  refine⟨[Fk (.int i)],rfl,by simp,?_,by simp⟩
  have nu:=BE hS.nu
  have fi:=Ra (us:=st.nums)
  have ii:=U2 (us:=st.nums) (i:=(i:Int))
  generalize st.nums.map D.int=ud at*
  generalize (st.nums.any λu=>u==(i:Int))=bb at*
  simp[nu,fi,ii])
theorem ZI{i:Nat}(h:i∈IK st):(i:Int)∉st.nums/\i<=9:=by
 unfold IK at h
 rw[wm]at h
 have h1:=zI.mp h.1
 refine⟨?_,by lia⟩
 intro z
 have h2:=h.2
 have:(st.nums.any λu=>u==(i:Int))=true:=AAB.mpr ⟨_,z,by simp⟩
 rw[this]at h2
 cases h2
theorem Z5:(IK st).length<=10:=by
 unfold IK
 exact uO (xG _ _) (by simp)
theorem bH{j:Nat}:(Gw st j).length<=st.AE.length:=by
 unfold Gw
 exact uO (xG _ _) Nm
end
section
variable{S:Sto}{p s l m:Nat}{as:Gc Nat}{st:Stt}{t:Tr}{k:Nat}
def QS:Ex:=(Aa (xIf (Hs (eOp (o2 wLt) [eV 7,eC (.int 8)]) (eOp (o2 wGt) [eOp (o2 wIx) [eV 1,eC (.int 1)],eC (.int 1)])) (Aa (BQ 11 (eOp (o2 TN) [eOp (o2 CJ) [eOp (o2 CJ) [eOp (o2 wIx) [eOp (o2 wIx) [eV 3,eV 8],eC (.int 0)],eC (.int 1)],AJ AI [eV 0,eOp (o2 OG) [eOp (o2 wIx) [eV 1,eC (.int 1)],eC (.int 1)]]],eOp (o2 wIx) [eV 1,eC (.int 1)]]))
    (Aa (BQ 12 (C9 [5] 1 (PM [eC (.int 10)]) (tNm 1) (eOp (o2 (wIn true)) [eV 1,eV 0]) (eV 1)))
    (Aa (xIf (Hs (eOp (o2 wEq) [eV 7,eC (.int 7)]) (eOp (o2 wNe) [eV 12,Fh []])) (BI (Cm [eC (.str "trade"),eOp (o2 wIx) [eV 12,AJ AI [eV 0,eOp (o1 Jq) [eV 12]]],eV 8,eV 9,eV 11,AJ BL [eV 0]])) D5)
    (BI (Cm [eC (.str "swap"),eV 8,eV 9,eV 11,AJ BL [eV 0]]))))) D5)
    (Aa (xIf (eOp (o2 wEq) [eV 7,eC (.int 8)]) (BI (Cm [eC (.str "spoil"),eV 8,eV 9])) D5)
    (Aa (xIf (Hs (eOp (o2 wEq) [eV 7,eC (.int 9)]) (eOp (o2 wGt) [eOp (o2 wIx) [eV 1,eC (.int 0)],eC (.int 1)])) (Aa (BQ 13 (AJ AI [eV 0,eOp (o2 wIx) [eV 1,eC (.int 0)]]))
    (BI (Cm [eC (.str "sell"),eV 13,eOp (o2 TN) [eOp (o2 CJ) [eOp (o2 CJ) [eV 13,eC (.int 1)],AJ AI [eV 0,eOp (o2 OG) [eOp (o2 wIx) [eV 1,eC (.int 0)],eC (.int 1)]]],eOp (o2 wIx) [eV 1,eC (.int 0)]],AJ Hm [eV 0]]))) D5)
    (BI (Cm [eC (.str "throw"),eV 8,eV 9,AJ Cj [eV 0,eOp (o2 CJ) [eOp (o2 wIx) [eV 1,eC (.int 1)],eC (.int 1)]]])))))
def XJ:Ex:=(xIf (eOp (o2 wLt) [eV 7,eC (.int 5)]) (Aa (BQ 10 (C9 [3,8] 1 (Js (eV 6)) (tNm 2) (Hs (eOp (o2 wNe) [eV 2,eV 1]) (eOp (o2 wEq) [eOp (o2 wIx) [eOp (o2 wIx) [eV 0,eV 2],eC (.int 0)],eOp (o2 wIx) [eOp (o2 wIx) [eV 0,eV 1],eC (.int 0)]])) (eV 2)))
    (xIf (eOp (o2 wNe) [eV 10,Fh []]) (BI (Cm [eC (.str "pool"),eV 8,eOp (o2 wIx) [eV 10,AJ AI [eV 0,eOp (o1 Jq) [eV 10]]]])) D5)) D5)
theorem RN:QI=(Aa (Qs (tTp [tNm 3,tNm 4,tNm 5]) (eV 2)) (Aa (BQ 6 (C9 [] 2 (YZ (eV 3)) (tTp [tNm 0,tNm 1]) (eOp (o2 wGt) [eOp (o2 wIx) [eV 1,eC (.int 1)],eC (.int 0)]) (eV 0))) (Aa (BQ 7 (AJ AI [eV 0,eC (.int 12)])) (Aa (xIf (eOr (eOp (o2 wLt) [eV 7,eC (.int 2)]) (eOp (o2 wEq) [eV 6,Fh []])) (BI (Cm [eC (.str "bring"),AJ AI [eV 0,eOp (o2 wIx) [eV 1,eC (.int 0)]],AJ AI [eV 0,eOp (o2 wIx) [eV 1,eC (.int 1)]],AJ BL [eV 0]])) D5) (Aa (BQ 8 (eOp (o2 wIx) [eV 6,AJ AI [eV 0,eOp (o1 Jq) [eV 6]]])) (Aa (BQ 9 (eOp (o2 CJ) [eC (.int 1),AJ AI [eV 0,eOp (o2 Z0) [eOp (o2 wIx) [eOp (o2 wIx) [eV 3,eV 8],eC (.int 1)],eC (.int 2000)]]])) (Aa XJ QS))))))):=rfl
theorem fZ(hp:CQ p S)(hS:SAt S s l m as st)(hps:p∉s::l::m::as)(ht:Kg t)(h:GC t k st)(hk:k<=16):∃d S',Eu [.ref p,t.d,.ref s] S=Fk (Ab.d d,S')/\Pn p S S'/\Can t st d:=by
 obtain⟨t1,t2,t3,t4,t5,t6⟩:=ht
 have hlen:=h.len
 have st':∀{S':Sto},Pn p S S'->SAt S' s l m as st:=λg=>hS.same g.same (by simpa using hps)
 have r0:=AY hS.root
 have cf:=Xy hS (by lia)
 have fl:=Nm (st:=st)
 have sq:=Hh hS.lo
 obtain⟨way,S1,e1,a1,b1,p1⟩:=Aj hp (n:=12) (by decide) (by decide)
 have okF:=ML (is:=By st)
 have dqF:=Nj (is:=By st)
 by_cases hb:way<2\/(By st).isEmpty=true
 .obtain⟨x2,S2,e2,a2,b2,p2⟩:=Aj p1.pen (n:=t.p) (by lia) (by lia)
  obtain⟨x3,S3,e3,a3,b3,p3⟩:=Aj p2.pen (n:=t.k) (by lia) (by lia)
  obtain⟨x4,S4,e4,p4,a4,b4⟩:=Kh p3.pen
  obtain⟨x2,rfl⟩:=HJ a2
  obtain⟨x3,rfl⟩:=HJ a3
  refine⟨.Iq x2 x3 x4,S4,?_,((p1.trans p2).trans p3).trans p4,by lia,by lia,a4,b4⟩
  by_cases hw:way<2
  .simp[Eu,RN,r0,sq,cf,e1,Tr.d,hw,e2,e3,e4,Ab.d]
  .have hf:=hb.resolve_left hw
   simp[Eu,RN,r0,sq,cf,e1,Tr.d,hw,okF,dqF,hf,e2,e3,e4,Ab.d]
 .have hw2:¬way<2:=λz=>hb (.inl z)
  have hf:(By st).isEmpty=false:=by
   cases z:(By st).isEmpty with
   |true=>exact absurd (.inr z) hb
   |false=>rfl
  have hfl:0<(By st).length:=by
   cases z:By st with
   |nil=>rw[z]at hf;cases hf
   |cons a b=>simp
  obtain⟨rl,S2,e2,a2,b2,p2⟩:=Aj p1.pen (n:=(By st).length) (by lia) (by lia)
  obtain⟨i,mi,ei⟩:=Ls a2 b2
  have fi:=Lo mi
  have hS1:=st' p1
  have hS2:=st' (p1.trans p2)
  obtain⟨a,x1,x2,x3⟩:=hS2.at fi.1
  have n1:=fi.2
  obtain⟨rs,S3,e3,a3,b3,p3⟩:=Aj p2.pen (n:=if 2000<(AU st.AE i).n then 2000 else(AU st.AE i).n) (by split<;>lia) (by split<;>lia)
  have hsome:1<=1+rs/\1+rs<=(AU st.AE i).n:=by split at b3<;>lia
  have p23:=(p1.trans p2).trans p3
  have hS3:=st' p23
  have lo2:=BE hS2.lo
  have lo3:=BE hS3.lo
  have x2':=BE x2
  have x4:S3[a]?=Fk (Cq (AU st.AE i)):=hS3.ld i a _ x1 (G4 fi.1)
  have x4':=BE x4
  have kd:=h.kind _ (A5 fi.1)
  have nl:=J0 (is:=By st)
  have cs:=fJ hS3 (by lia) mi
  have okS:=ML (is:=Gw st i)
  have dqS:=Nj (is:=Gw st i)
  have sl:=bH (st:=st) (j:=i)
  have nls:=J0 (is:=Gw st i)
  have pre:Eu [.ref p,t.d,.ref s] S=((XJ [Fk (.ref p),Fk t.d,Fk (.ref s),Fk (.ref l),Fk (shD st.hold),Fk (.ref m),Fk (.lst (Ht (By st))),Fk (.int way),Fk (.int i),Fk (.int (1+rs)),uC,uC,uC,uC] S3).bind (jh QS)).map λr=>(flD r.1,r.2.2):=by
   simp[Eu,RN,r0,sq,cf,e1,hw2,okF,dqF,hf,nl,e2,ei,lo2,x3,x2',e3]
  have tail:∀o10,(way<5->(Gw st i).isEmpty=true)->∃d S',(QS [Fk (.ref p),Fk t.d,Fk (.ref s),Fk (.ref l),Fk (shD st.hold),Fk (.ref m),Fk (.lst (Ht (By st))),Fk (.int way),Fk (.int i),Fk (.int (1+rs)),o10,uC,uC,uC] S3).map (λr=>(flD r.1,r.2.2))=Fk (Ab.d d,S')/\Pn p S S'/\Can t st d:=by
   intro o10 _
   clear pre cs okS dqS
   by_cases hsw:way<8/\1<t.k
   .obtain⟨hw8,hk1⟩:=hsw
    have hk1':(1:Int)<t.k:=by lia
    obtain⟨rk,S4,e4,a4,b4,p4⟩:=Aj p3.pen (n:=(t.k:Int)-1) (by lia) (by lia)
    have hS4:=st' (p23.trans p4)
    have hmod:=XZ (x:=((AU st.AE i).k:Int)+1+rk) (K:=t.k) (by lia) (by lia)
    obtain⟨kd2,ekd⟩:∃q:Nat,((AU st.AE i).k+1+rk) % (t.k:Int)=(q:Int):=⟨_,(vP (xM _ (by lia))).symm⟩
    have hkd:kd2<t.k/\kd2≠(AU st.AE i).k:=by
     rw[ekd]at hmod
     split at hmod<;>lia
    have kp:0<t.k:=by lia
    have cl:=gU hS4
    have okL:=ML (is:=IK st)
    have dqL:=Nj (is:=IK st)
    have ll:=Z5 (st:=st)
    have nll:=J0 (is:=IK st)
    have rt:Jn 10=true:=DY (by decide) (by decide)
    by_cases htr:way=7/\(IK st).isEmpty=false
    .obtain⟨hw7,hle⟩:=htr
     have hll:0<(IK st).length:=by
      cases z:IK st with
      |nil=>rw[z]at hle;cases hle
      |cons a b=>simp
     obtain⟨ru,S5,e5,a5,b5,p5⟩:=Aj p4.pen (n:=(IK st).length) (by lia) (by lia)
     obtain⟨u,mu,eu⟩:=Ls a5 b5
     obtain⟨x6,S6,e6,p6,a6,b6⟩:=Kh p5.pen
     have fu:=ZI mu
     refine⟨.IV u i (1+rs) kd2 x6,S6,?_,((p23.trans p4).trans p5).trans p6,fi.1,hsome.1,hsome.2,hkd.1,hkd.2,a6,b6,fu.1,by lia,by lia⟩
     subst hw7
     simp[QS,Tr.d,x3,hk1',lo3,x4',e4,kp,ekd,rt,cl,okL,dqL,hle,nll,e5,eu,e6,Ab.d]
    .obtain⟨x6,S6,e6,p6,a6,b6⟩:=Kh p4.pen
     refine⟨.swap i (1+rs) kd2 x6,S6,?_,(p23.trans p4).trans p6,fi.1,hsome.1,hsome.2,hkd.1,hkd.2,a6,b6⟩
     by_cases h7:way=7
     .subst h7
      have hle:(IK st).isEmpty=true:=by
       cases z:(IK st).isEmpty with
       |true=>rfl
       |false=>exact absurd ⟨rfl,z⟩ htr
      simp[QS,Tr.d,x3,hk1',lo3,x4',e4,kp,ekd,rt,cl,okL,dqL,hle,nll,e6,Ab.d]
     .have h7':(way==7)=false:=by simpa using h7
      simp[QS,Tr.d,x3,hw8,hk1',lo3,x4',e4,kp,ekd,rt,cl,h7',e6,Ab.d]
   .have sw:∀(x y:Ex) (T:Sto),xIf (Hs (eOp (o2 wLt) [eV 7,eC (.int 8)]) (eOp (o2 wGt) [eOp (o2 wIx) [eV 1,eC (.int 1)],eC (.int 1)])) x y [Fk (.ref p),Fk t.d,Fk (.ref s),Fk (.ref l),Fk (shD st.hold),Fk (.ref m),Fk (.lst (Ht (By st))),Fk (.int way),Fk (.int i),Fk (.int (1+rs)),o10,uC,uC,uC] T=y [Fk (.ref p),Fk t.d,Fk (.ref s),Fk (.ref l),Fk (shD st.hold),Fk (.ref m),Fk (.lst (Ht (By st))),Fk (.int way),Fk (.int i),Fk (.int (1+rs)),o10,uC,uC,uC] T:=by
     intro x y T
     by_cases w8:way<8
     .have hk1:¬(1:Int)<t.k:=by lia
      simp[Tr.d,w8,hk1]
     .simp[w8]
    by_cases h8:way=8
    .subst h8
     refine⟨.Jo i (1+rs),S3,?_,p23,fi.1,hsome.1,hsome.2⟩
     simp[QS,-O4,sw]
     simp[Ab.d]
    .have h8':(way==8)=false:=by simpa using h8
     by_cases h9:way=9/\1<t.p
     .obtain⟨h9,hP⟩:=h9
      subst h9
      have hP':(1:Int)<t.p:=by lia
      obtain⟨rp,S4,e4,a4,b4,p4⟩:=Aj p3.pen (n:=t.p) (by lia) (by lia)
      obtain⟨rq,S5,e5,a5,b5,p5⟩:=Aj p4.pen (n:=(t.p:Int)-1) (by lia) (by lia)
      obtain⟨sh,S6,e6,p6,a6,b6,c6⟩:=aQ p5.pen
      have hmod:=XZ (x:=rp+1+rq) (K:=t.p) (by lia) (by lia)
      obtain⟨q,eq⟩:∃q:Nat,(rp+1+rq) % (t.p:Int)=(q:Int):=⟨_,(vP (xM _ (by lia))).symm⟩
      obtain⟨rp,rfl⟩:=HJ a4
      have hq:q<t.p/\q≠rp:=by
       rw[eq]at hmod
       split at hmod<;>lia
      have pp:0<t.p:=by lia
      refine⟨.Mj rp q sh,S6,?_,((p23.trans p4).trans p5).trans p6,λz=>hq.2 z.symm,by lia,hq.1,a6,b6,c6⟩
      simp[QS,-O4,sw]
      simp[Tr.d,hP',e4,e5,pp,eq,e6,Ab.d]
     .have s9:∀(x y:Ex) (T:Sto),xIf (Hs (eOp (o2 wEq) [eV 7,eC (.int 9)]) (eOp (o2 wGt) [eOp (o2 wIx) [eV 1,eC (.int 0)],eC (.int 1)])) x y [Fk (.ref p),Fk t.d,Fk (.ref s),Fk (.ref l),Fk (shD st.hold),Fk (.ref m),Fk (.lst (Ht (By st))),Fk (.int way),Fk (.int i),Fk (.int (1+rs)),o10,uC,uC,uC] T=y [Fk (.ref p),Fk t.d,Fk (.ref s),Fk (.ref l),Fk (shD st.hold),Fk (.ref m),Fk (.lst (Ht (By st))),Fk (.int way),Fk (.int i),Fk (.int (1+rs)),o10,uC,uC,uC] T:=by
       intro x y T
       by_cases z:way=9
       .have hP:¬(1:Int)<t.p:=by have:¬1<t.p:=λw=>h9 ⟨z,w⟩;lia
        subst z
        simp[Tr.d,hP]
       .have z':(way==9)=false:=by simpa using z
        simp[z']
      obtain⟨ws,S4,e4,p4,a4,b4⟩:=SF p3.pen (n:=t.k+1) (by lia)
      have e4':Cj [.ref p,.int ((t.k:Int)+1)] S3=Fk (.tup (ws.map .int),S4):=e4
      refine⟨.thr i (1+rs) ws,S4,?_,p23.trans p4,fi.1,hsome.1,hsome.2,a4,b4⟩
      have s8:∀(x y:Ex) (T:Sto),xIf (eOp (o2 wEq) [eV 7,eC (.int 8)]) x y [Fk (.ref p),Fk t.d,Fk (.ref s),Fk (.ref l),Fk (shD st.hold),Fk (.ref m),Fk (.lst (Ht (By st))),Fk (.int way),Fk (.int i),Fk (.int (1+rs)),o10,uC,uC,uC] T=y [Fk (.ref p),Fk t.d,Fk (.ref s),Fk (.ref l),Fk (shD st.hold),Fk (.ref m),Fk (.lst (Ht (By st))),Fk (.int way),Fk (.int i),Fk (.int (1+rs)),o10,uC,uC,uC] T:=by
       intro x y T
       simp[h8']
      simp[QS,-O4,sw,s8,s9]
      simp[Tr.d,e4',Ab.d]
  by_cases hpool:way<5/\(Gw st i).isEmpty=false
  .obtain⟨hw5,hse⟩:=hpool
   have hsl:0<(Gw st i).length:=by
    cases z:Gw st i with
    |nil=>rw[z]at hse;cases hse
    |cons a b=>simp
   obtain⟨rj,S4,e4,a4,b4,p4⟩:=Aj p3.pen (n:=(Gw st i).length) (by lia) (by lia)
   obtain⟨j,mj,ej⟩:=Ls a4 b4
   have fj:=bL mj
   have fj':=Lo fj.1
   refine⟨.K7 i j,S4,?_,p23.trans p4,λz=>fj.2.1 z.symm,fi.1,fj'.1,n1,fj'.2,fj.2.2.symm⟩
   rw[pre]
   simp[XJ,hw5,cs,okS,dqS,hse,nls,e4,ej,Ab.d]
  .by_cases w5:way<5
   .have hse:(Gw st i).isEmpty=true:=by
     cases z:(Gw st i).isEmpty with
     |true=>rfl
     |false=>exact absurd ⟨w5,z⟩ hpool
    obtain⟨d,S',e,pn,hc⟩:=tail (Fk (.lst (Ht (Gw st i)))) (λ_=>hse)
    refine⟨d,S',?_,pn,hc⟩
    rw[pre,<-e]
    simp[XJ,w5,cs,okS,dqS,hse]
   .obtain⟨d,S',e,pn,hc⟩:=tail uC (λz=>absurd z w5)
    refine⟨d,S',?_,pn,hc⟩
    rw[pre,<-e]
    simp[XJ,w5]
end
noncomputable def runs(t:Tr)(st:Stt)(ds:Gc Ab):Stt:=ds.foldl (step t) st
def Po(t:Tr):Stt->Gc Ab->Prop
 |_,[]=>True
 |st,d::ds=>Can t st d/\Po t (step t st d) ds
theorem Mg{t:Tr}{d:Ab}:∀{ds:Gc Ab} {st:Stt},Po t st ds->Can t (runs t st ds) d->Po t st (ds++[d])
 | [],st,_,h=>⟨h,trivial⟩
 |x::ds,st,h,g=>⟨h.1,Mg h.2 g⟩
theorem GD{t:Tr}:∀{ds:Gc Ab} {st:Stt} {i:Nat} {d:Ab},Po t st ds->ds[i]?=Fk d->Can t (runs t st (ds.take i)) d
 |x::ds,st,0,d,h,g=>by
  simp at g;subst g
  exact h.1
 |x::ds,st,i+1,d,h,g=>by
  simp at g
  show Can t (runs t (step t st x) (ds.take i)) d
  exact GD h.2 g
theorem N1{t:Tr}{st:Stt}{ds:Gc Ab}{d:Ab}:runs t st (ds++[d])=step t (runs t st ds) d:=by simp[runs]
theorem KU{t:Tr}{st:Stt}{ds:Gc Ab}{i:Nat}{d:Ab}(h:ds[i]?=Fk d):runs t st (ds.take (i+1))=step t (runs t st (ds.take i)) d:=by
 rw[List.take_succ,h]
 exact N1
theorem Qj{t:Tr}(ht:Kg t):∀{ds:Gc Ab} {st:Stt} {k:Nat},GC t k st->Po t st ds->k+ds.length<=17->GC t (k+ds.length) (runs t st ds)
 | [],st,k,h,_,_=>h
 |d::ds,st,k,h,g,hl=>by
  have:=Qj ht (ds:=ds) (UW ht h (by simp at hl;lia) g.1) g.2 (by simp at hl;lia)
  rw[show k+(d::ds).length=k+1+ds.length by simp;lia]
  exact this
theorem Me{t:Tr}:∀{ds:Gc Ab} {st:Stt} {i:Nat},Po t st ds->Po t st (ds.take i)
 | [],st,i,h=>by simp;exact trivial
 |d::ds,st,0,h=>trivial
 |d::ds,st,i+1,h=>⟨h.1,Me h.2⟩
noncomputable def st0(t:Tr)(ls:Gc Ld):Stt:=⟨ls,t.ho,[]⟩
structure BP(t:Tr)(ls:Gc Ld)(ds:Gc Ab):Prop where
 tr:Kg t
 inv:GC t 0 (st0 t ls)
 good:Po t (st0 t ls) ds
 len:ds.length<=16
theorem BP.at{t:Tr}{ls:Gc Ld}{ds:Gc Ab}(h:BP t ls ds)(i:Nat):GC t (ds.take i).length (runs t (st0 t ls) (ds.take i)):=by
 have:=Qj h.tr (ds:=ds.take i) h.inv (Me h.good) (by have:=h.len;simp;lia)
 rwa [AAR]at this
noncomputable def Ae(t:Tr)(ls:Gc Ld)(ds:Gc Ab):D:=.tup [t.d,.tup (ls.map Ld.d),.tup (ds.map Ab.d)]
theorem X2{t:Tr}{ls:Gc Ld}(h:JQ t ls)(hl:ls.length<=4)(h1:t.ho.length=t.p){g:Nat}(g0:0<g)(g1:g<=32)(g2:∀r∈t.ho,Ok g g r):GC t 0 (st0 t ls):=by
 obtain⟨ha,G,G0,G1,G2⟩:=h
 have hG:G<=32^4:=uO G1 (um (by decide) hl)
 have hB:G*g<2^30:=by
  have:=zY hG g1
  lia
 refine GC.of (G:=G*g) (B:=G*g) (by simpa[st0]using hl) ?_ h1 (uN _) (x8 G0 g0) (uN _) hB ?_
 .intro x hx
  have:=ha x hx
  exact⟨this.1,by lia,eA this.2.2.1,this.2.2.2.1,λr hr=>(G2 x hx r hr).up (uN _)⟩
 .intro r hr
  have:=(g2 r hr).up (t:=G) (B':=G*g) (by rw[xO];exact uN _)
  rwa [xO g G]at this
noncomputable def F4:Ab->vE
 | .thr .. =>true
 |_=>false
section
variable{S:Sto}{p:Nat}
theorem bO(d:Ab)(E:En)(h:E=[Fk d.d]):eOp (o2 wEq) [eOp (o2 wIx) [eV 0,eC (.int 0)],eC (.str "throw")] E S=Fk (.bl (F4 d),S):=by
 subst h
 cases d<;>simp[Ab.d,F4]
theorem qm{q:Nat}{ds:Gc Ab}(hq:S[q]?=Fk (.lst (ds.map Ab.d)))(hl:ds.length<=50):C7 [(q,ds.map Ab.d)] (tNm 0) (eOp (o2 wEq) [eOp (o2 wIx) [eV 0,eC (.int 0)],eC (.str "throw")]) (eV 0) (ds.map Ab.d) [] [uC] S=Fk ((ds.filter F4).map Ab.d,S):=
 Ho (gs:=[(q,ds.map Ab.d)]) (t:=tNm 0) (f:=eV 0) (C:=[]) (m:=1) (e:=Ab.d) (g:=Ab.d) (b:=F4) (S:=S) (λg hg=>by rw[uo.mp hg];exact AY hq) (xs:=ds) (acc:=[]) (os:=[uC]) rfl (uO (show _<=50 by simp;lia) (AN (by decide))) (by
  intro d _ os ho
  obtain⟨o1,rfl⟩:=Ut ho
  exact⟨[Fk d.d],rfl,by simp,bO d _ rfl,by simp⟩)
theorem bp{M:Nat}(hM:M<=16)(h:CQ p S):∃t ls ds S',Ih [.ref p,.int M] S=Fk (Ae t ls ds,S')/\(BP t ls ds/\ds.length<=M)/\((∀l∈ls,l.ow.sum=1)/\t.ho.sum=1)/\CQ p S'/\∀n c,S[n]?=Fk c->n≠p->S'[n]?=Fk c:=by
 obtain⟨t,S1,e1,p1,ht,hh,g,g0,g1,g2⟩:=Zg h
 obtain⟨ls,S2,e2,p2,hf,hl⟩:=bc p1.pen ht
 have hi:=X2 hf hl hh.1 g0 g1 g2
 obtain⟨s,l,m,as,S3,e3,hS,sm,hn⟩:=RJ (S:=S2) (t:=t) (ls:=ls) (x:=.tup []) (by lia)
 have lp:=p2.pen.lt
 have l02:S.length<=S2.length:=uO p1.same.len p2.same.len
 have pen3:CQ p S3:=by
  obtain⟨ds,e,hp⟩:=p2.pen
  exact⟨ds,sm.get e (by simp),hp⟩
 have hq:(S3++[Cl.lst []])[S3.length]?=Fk (.lst []):=ua
 obtain⟨rn,S4,e4,a4,b4,p4⟩:=Aj (pen3.app [Cl.lst []]) (n:=(M:Int)+1) (by lia) (by lia)
 have lt3:=hS.lts
 have pn:p∉s::l::m::as:=λz=>by have:=hn p z;lia
 have qn:S3.length∉s::l::m::as:=λz=>by have:=lt3 _ z;lia
 have hpq:S3.length≠p:=by have:=pen3.lt;lia
 have hS4:SAt S4 s l m as (st0 t ls):=(hS.UK (.app)).same p4.same (by simpa using pn)
 have hq4:S4[S3.length]?=Fk (.lst []):=p4.get hq hpq
 obtain⟨rn,rfl⟩:=HJ a4
 have rk:Jn (rn:Int)=true:=DY (by lia) (by lia)
 have lqS:S.length<=S3.length:=uO l02 sm.len
 generalize hQ:S3.length=q at*
 obtain⟨E',S',ef,ds,as',o6,o7,rfl,f1,f2,f3,f4,f5,f6,f7,f8,f9⟩:=EI (gs:=[]) (t:=tNm 6) (b:=Aa (BQ 7 (AJ Eu [eV 0,eV 2,eV 4]))
  (xIf (eOr (eOp (o2 wNe) [eOp (o2 wIx) [eV 7,eC (.int 0)],eC (.str "throw")]) (eOp (o2 wLt) [eOp (o1 Jq) [C9 [] 1 (Js (eV 5)) (tNm 0) (eOp (o2 wEq) [eOp (o2 wIx) [eV 0,eC (.int 0)],eC (.str "throw")]) (eV 0)],eC (.int 3)])) (Aa (Bm (AJ BH [eV 2,eV 4,eV 7]))
  (Bm (Le L9 (eV 5) [eV 7]))) D5))
  (I:=λrs E S'=>∃(ds:Gc Ab) (as':Gc Nat) (o6 o7:uD D),E=[Fk (.ref p),Fk (.int M),Fk t.d,Fk (.tup (ls.map Ld.d)),Fk (.ref s),Fk (.ref q),o6,o7]/\S'[q]?=Fk (.lst (ds.map Ab.d))/\CQ p S'/\SAt S' s l m as' (runs t (st0 t ls) ds)/\Po t (st0 t ls) ds/\ds.length+rs.length<=M/\p∉s::l::m::as'/\q∉s::l::m::as'/\(∀n∈s::l::m::as',S.length<=n)/\∀n c,S[n]?=Fk c->n≠p->S'[n]?=Fk c)
  (λ_ _ _ _=>Au) (ds:=J6 0 rn) (E:=[Fk (.ref p),Fk (.int M),Fk t.d,Fk (.tup (ls.map Ld.d)),Fk (.ref s),Fk (.ref q),uC,uC]) (S:=S4)
  ⟨[],as,uC,uC,rfl,hq4,p4.pen,hS4,trivial,by rw[D9];simp;lia,pn,qn,λn z=>uO l02 (hn n z),λn c e ne=>p4.get (Ce.get (A:=[]) .app (sm.get (p2.get (p1.get e ne) ne) (by simp)) (by simp)) ne⟩ (by
    rintro dd rs E T ⟨ds,as',o6,o7,rfl,i1,i2,i3,i4,i5,i6,i7,i8,i9⟩
    simp only[vJ]at i5
    have inv:=Qj ht hi i4 (by lia)
    rw[AAR]at inv
    obtain⟨d,T1,d1,d2,d3⟩:=fZ i2 i3 i6 ht inv (by lia)
    have lS:S.length<=T1.length:=by have:=i8 s uP;have:=Ad i3.root;have:=d2.same.len;lia
    have j3:=i3.same d2.same (by simpa using i6)
    have j1:T1[q]?=Fk (.lst (ds.map Ab.d)):=d2.get i1 hpq
    have tc:=qm j1 (by lia)
    by_cases hb:F4 d=false\/(ds.filter F4).length<3
    .obtain⟨T2,as2,k1,k2,k3,k4⟩:=Z3 j3 ht inv (by lia) d3
     have lt:=j3.lts
     have q2:T2[q]?=Fk (.lst (ds.map Ab.d)):=k3.get j1 i7
     have hz:ds.length<sizeLine:=uG (show ds.length<50 by lia) (AN (by decide))
     refine⟨_,[Fk (.ref p),Fk (.int M),Fk t.d,Fk (.tup (ls.map Ld.d)),Fk (.ref s),Fk (.ref q),Fk dd,Fk d.d],T2.set q (.lst ((ds++[d]).map Ab.d)),by simp;rfl,?_,ds++[d],as2,Fk dd,Fk d.d,rfl,uS (Ad q2),?_,?_,Mg i4 d3,by simp;lia,?_,?_,?_,?_⟩
     .have kk:=AY q2
      have w1:∀(c:Ev),eOr (eOp (o2 wNe) [eOp (o2 wIx) [eV 7,eC (.int 0)],eC (.str "throw")]) c [Fk (.ref p),Fk (.int M),Fk t.d,Fk (.tup (ls.map Ld.d)),Fk (.ref s),Fk (.ref q),Fk dd,Fk d.d] T1=if F4 d=true then c [Fk (.ref p),Fk (.int M),Fk t.d,Fk (.tup (ls.map Ld.d)),Fk (.ref s),Fk (.ref q),Fk dd,Fk d.d] T1 else Fk (.bl true,T1):=by
       intro c
       cases d<;>simp[Ab.d,F4]
      have sq:=Hh j1
      have hz':(ds.map Ab.d).length<sizeLine:=by simpa using hz
      have hfin:(ds++[d]).map Ab.d=ds.map Ab.d++[d.d]:=by simp
      rw[hfin]
      generalize hDD:ds.map Ab.d=DD at*
      cases ht':F4 d with
      |false=>
       simp[d1,-T9,w1,ht',k1,kk,hz']
      |true=>
       have h3:((ds.filter F4).length:Int)<3:=by
        have:=hb.resolve_left (by rw[ht'];simp)
        lia
       simp[d1,-T9,w1,ht',sq,tc,h3,k1,kk,hz']
     .obtain⟨pd,pe,ph⟩:=d2.pen
      exact⟨pd,by rw[uK hpq];exact k3.get pe i6,ph⟩
     .rw[N1]
      exact k2.same (A:=[q]) (.set (by simp)) (by
       intro n hn z
       simp at hn;subst hn
       simp only[uI]at z i7
       rcases z with z|z|z|z
       .exact i7 (.inl z)
       .exact i7 (.inr (.inl z))
       .exact i7 (.inr (.inr (.inl z)))
       .rcases k4 _ z with w|w
        .exact i7 (.inr (.inr (.inr w)))
        .have:=Ad j1;lia)
     .intro z
      simp only[uI]at z i6
      rcases z with z|z|z|z
      .exact i6 (.inl z)
      .exact i6 (.inr (.inl z))
      .exact i6 (.inr (.inr (.inl z)))
      .rcases k4 _ z with w|w
       .exact i6 (.inr (.inr (.inr w)))
       .have:=d2.pen.lt;lia
     .intro z
      simp only[uI]at z i7
      rcases z with z|z|z|z
      .exact i7 (.inl z)
      .exact i7 (.inr (.inl z))
      .exact i7 (.inr (.inr (.inl z)))
      .rcases k4 _ z with w|w
       .exact i7 (.inr (.inr (.inr w)))
       .have:=Ad j1;lia
     .intro n z
      simp only[uI]at z i8
      rcases z with z|z|z|z
      .exact i8 n (.inl z)
      .exact i8 n (.inr (.inl z))
      .exact i8 n (.inr (.inr (.inl z)))
      .rcases k4 _ z with w|w
       .exact i8 n (.inr (.inr (.inr w)))
       .exact uO lS w
     .intro n c e ne
      have ln:n<S.length:=Ad e
      rw[uK (λz=>by have:=lqS;lia)]
      exact k3.get (d2.get (i9 n c e ne) ne) λz=>by have:=i8 n z;lia
    .have ht':F4 d=true:=by
      cases z:F4 d with
      |true=>rfl
      |false=>exact absurd (.inl z) hb
     have h3:¬((ds.filter F4).length:Int)<3:=by
      have:¬(ds.filter F4).length<3:=λz=>hb (.inr z)
      lia
     refine⟨_,[Fk (.ref p),Fk (.int M),Fk t.d,Fk (.tup (ls.map Ld.d)),Fk (.ref s),Fk (.ref q),Fk dd,Fk d.d],T1,by simp;rfl,?_,ds,as',Fk dd,Fk d.d,rfl,j1,d2.pen,j3,i4,by lia,i6,i7,i8,λn c e ne=>d2.get (i9 n c e ne) ne⟩
     have w1:∀(c:Ev),eOr (eOp (o2 wNe) [eOp (o2 wIx) [eV 7,eC (.int 0)],eC (.str "throw")]) c [Fk (.ref p),Fk (.int M),Fk t.d,Fk (.tup (ls.map Ld.d)),Fk (.ref s),Fk (.ref q),Fk dd,Fk d.d] T1=if F4 d=true then c [Fk (.ref p),Fk (.int M),Fk t.d,Fk (.tup (ls.map Ld.d)),Fk (.ref s),Fk (.ref q),Fk dd,Fk d.d] T1 else Fk (.bl true,T1):=by
      intro c
      cases d<;>simp[Ab.d,F4]
     have sq:=Hh j1
     generalize hDD:ds.map Ab.d=DD at*
     simp[d1,-T9,w1,ht',sq,tc,h3])
 refine⟨t,ls,ds,S',?_,⟨⟨ht,hi,f4,by simp at f5;lia⟩,by simpa using f5⟩,⟨λx hx=>(hf.1 x hx).2.2.2.2,hh.2⟩,f2,f9⟩
 have df:=BE f1
 simp[Ih,P8,e1,e2,e3,hQ,e4,rk,ef,df,Ae]
end
noncomputable def stD(st:Stt):D:=.tup [.lst (st.AE.map Ld.d),shD st.hold]
section
variable{S:Sto}{s l m:Nat}{as:Gc Nat}{st:Stt}
theorem gq(hS:SAt S s l m as st)(hl:st.AE.length<=50):C7 [(l,as.map D.ref)] (tNm 0) Cr (eOp (o1 CS) [eV 0]) (as.map D.ref) [] [uC] S=Fk (st.AE.map Ld.d,S):=by
 have e:=Ea (gs:=[(l,as.map D.ref)]) (t:=tNm 0) (f:=eOp (o1 CS) [eV 0]) (C:=[]) (m:=1) (e:=λz:Nat×Ld=>D.ref z.1) (g:=λz=>Ld.d z.2) hS.guard (xs:=as.zip st.AE) (acc:=[]) (os:=[uC]) rfl (uO (show _<=50 by simp;lia) (AN (by decide))) (by
  intro z hz os ho
  obtain⟨q1,rfl⟩:=Ut ho
  refine⟨[Fk (.ref z.1)],rfl,by simp,?_⟩
  simp[BE (hS.qg hz),Ld.d])
 rw[<-Us hS.len,<-WR hS.len Ld.d]at e
 exact e
theorem T7{rs:Gc Rat}:D.tup (rs.map aD)=shD rs:=rfl
def XH:Ev:=Cm [C9 [] 1 (Js (eOp (o2 wIx) [eV 1,eC (.int 0)])) (tNm 0) Cr (eOp (o1 CS) [eV 0]),eOp (o1 CS) [eOp (o2 wIx) [eV 1,eC (.int 1)]]]
theorem VT{E:En}(hS:SAt S s l m as st)(hl:st.AE.length<=50)(hE:at? E 1=Fk (.ref s)):XH E S=Fk (stD st,S):=by
 have r:=BE hS.root
 have sq:=Hh hS.lo
 have e:=gq hS hl
 simp[XH,hE,r,sq,e,T7,stD]
theorem Vk{t:Tr}{ls:Gc Ld}{ds:Gc Ab}(h:BP t ls ds):∃q S',GF [Ae t ls ds] S=Fk (.ref q,S')/\S'[q]?=Fk (.lst ((uU (ds.length+1)).map λj=>stD (runs t (st0 t ls) (ds.take j))))/\Ce [] S S':=by
 have hl0:=h.inv.len
 have hl1:ls.length<=4:=hl0
 obtain⟨s,l,m,as,S1,e1,hS,sm,hn⟩:=RJ (S:=S) (t:=t) (ls:=ls) (x:=.tup (ds.map Ab.d)) (by lia)
 have hS:SAt S1 s l m as (st0 t ls):=hS
 have lt:=hS.lts
 have hS1:SAt (S1++[Cl.lst [stD (st0 t ls)]]) s l m as (st0 t ls):=hS.UK .app
 have hq:(S1++[Cl.lst [stD (st0 t ls)]])[S1.length]?=Fk (.lst [stD (st0 t ls)]):=ua
 have qn:S1.length∉s::l::m::as:=λz=>by have:=lt _ z;lia
 have sn0:=λ{E:En} (hE:at? E 1=Fk (.ref s))=>VT (E:=E) hS (show ls.length<=50 by lia) hE
 have lSq:=sm.len
 generalize hQ:S1.length=q at*
 obtain⟨E',S',ef,i,as',o,f1,f2,rfl,f3,f4,f5,f6,f7⟩:=EI (gs:=[]) (t:=tNm 3) (b:=Aa (Bm (AJ BH [eOp (o2 wIx) [eV 0,eC (.int 0)],eV 1,eV 3]))
  (Bm (Le L9 (eV 2) [XH])))
  (I:=λrs E S'=>∃(i:Nat) (as':Gc Nat) (o:uD D),rs=(ds.drop i).map Ab.d/\i<=ds.length/\E=[Fk (Ae t ls ds),Fk (.ref s),Fk (.ref q),o]/\S'[q]?=Fk (.lst ((uU (i+1)).map λj=>stD (runs t (st0 t ls) (ds.take j))))/\SAt S' s l m as' (runs t (st0 t ls) (ds.take i))/\q∉s::l::m::as'/\(∀n∈s::l::m::as',S.length<=n)/\Ce [] S S')
  (λ_ _ _ _=>Au) (ds:=ds.map Ab.d) (E:=[Fk (Ae t ls ds),Fk (.ref s),Fk (.ref q),uC]) (S:=S1++[Cl.lst [stD (st0 t ls)]])
  ⟨0,as,uC,by simp,wR _,rfl,by rw[hq];rfl,hS1,qn,hn,sm.trans .app⟩ (by
    rintro dd rs E T ⟨i,as',o,i1,i2,rfl,i3,i4,i5,i6,i7⟩
    have hlt:i<ds.length:=by
     rcases xQ i ds.length with w|w
     .exact w
     .rw[vX w]at i1;cases i1
    rw[uy hlt,ui]at i1
    injection i1 with z1 z2
    subst z1 z2
    have inv:=h.at i
    have il:(ds.take i).length<=16:=by have:=h.len;simp;lia
    have can:=GD h.good (W1 hlt)
    obtain⟨T2,as2,k1,k2,k3,k4⟩:=Z3 i4 h.tr inv il can
    have q2:=k3.get i3 i5
    rw[<-KU (W1 hlt)]at k2
    have inv2:=(h.at (i+1)).len
    have il2:(ds.take (i+1)).length<=16:=by have:=h.len;simp;lia
    have sn:=VT (E:=[Fk (Ae t ls ds),Fk (.ref s),Fk (.ref q),Fk ds[i].d]) k2 (by lia) rfl
    have kk:=AY q2
    have q5:q∉s::l::m::as2:=by
     intro z
     simp only[uI]at z i5
     rcases z with z|z|z|z
     .exact i5 (.inl z)
     .exact i5 (.inr (.inl z))
     .exact i5 (.inr (.inr (.inl z)))
     .rcases k4 _ z with w|w
      .exact i5 (.inr (.inr (.inr w)))
      .have:=Ad i3;lia
    have q6:∀n∈s::l::m::as2,S.length<=n:=by
     intro n hz
     simp only[uI]at hz i6
     rcases hz with z|z|z|z
     .exact i6 n (.inl z)
     .exact i6 n (.inr (.inl z))
     .exact i6 n (.inr (.inr (.inl z)))
     .rcases k4 _ z with w|w
      .exact i6 n (.inr (.inr (.inr w)))
      .exact uO i7.len w
    have q7:Ce [] S T2:=Ce.new (A:=[]) i7 k3 i6
    refine⟨_,[Fk (Ae t ls ds),Fk (.ref s),Fk (.ref q),Fk ds[i].d],T2.set q (.lst ((uU (i+1+1)).map λj=>stD (runs t (st0 t ls) (ds.take j)))),by simp;rfl,?_,i+1,as2,Fk ds[i].d,rfl,hlt,rfl,uS (Ad q2),k2.same (A:=[q]) (.set (by simp)) (by simpa using q5),q5,q6,Ce.new (A:=[]) (B:=[q]) q7 (.set (by simp)) (by intro n hn';simp at hn';lia)⟩
    have hz:((uU (i+1)).map λj=>stD (runs t (st0 t ls) (ds.take j))).length<sizeLine:=uG (show _<50 by have:=h.len;simp;lia) (AN (by decide))
    have hfin:((uU (i+1+1)).map λj=>stD (runs t (st0 t ls) (ds.take j)))=((uU (i+1)).map λj=>stD (runs t (st0 t ls) (ds.take j)))++[stD (runs t (st0 t ls) (ds.take (i+1)))]:=by
     rw[AAc,wU];rfl
    rw[hfin]
    generalize ((uU (i+1)).map λj=>stD (runs t (st0 t ls) (ds.take j)))=DD at*
    generalize stD (runs t (st0 t ls) (ds.take (i+1)))=d2 at*
    simp only[Ae]at sn⊢
    simp[k1,kk,sn,hz])
 have hz:i=ds.length:=by
  have:=congrArg xf f1
  simp at this
  lia
 subst hz
 refine⟨q,S',?_,f3,f7⟩
 have eb:NT=(Aa (BQ 1 (AJ Dc [eV 0]))
  (Aa (BQ 2 (K1 [XH]))
  (Aa (MH (Js (eOp (o2 wIx) [eV 0,eC (.int 2)])) (tNm 3) (Aa (Bm (AJ BH [eOp (o2 wIx) [eV 0,eC (.int 0)],eV 1,eV 3]))
  (Bm (Le L9 (eV 2) [XH]))))
  (BI (eV 2))))):=rfl
 have s1:=sn0 (E:=[Fk (Ae t ls ds),Fk (.ref s),uC,uC]) rfl
 unfold GF
 rw[eb]
 simp only[Ae]at s1 ef⊢
 simp[e1,s1,hQ,ef]
end
theorem Tx{n m d:Nat}(h:n<=m):HT.sIx m d (Fk (n:Int))=n:=by
 unfold HT.sIx
 have:¬((n:Int)<0):=by lia
 simp[this]
 lia
theorem Nd{α:Type}{ds:Gc α}{n:Nat}(h:n<=ds.length):IY ds uC (Fk (n:Int))=ds.take n:=by
 unfold IY
 rw[Tx h]
 simp[HT.sIx]
theorem aS{α:Type}{ds:Gc α}{n:Nat}(h:n<=ds.length):IY ds (Fk (n:Int)) uC=ds.drop n:=by
 unfold IY
 rw[Tx h]
 simp[HT.sIx]
 exact yc (by simp)
noncomputable def hD(x:Ld):D:=.tup [.int x.k,.int x.n]
noncomputable def Bl(ls:Gc Ld):D:=.lst (ls.map hD)
noncomputable def K6(ls:Gc Ld):D:=.lst (ls.map λx=>shD x.ow)
section
variable{S:Sto}{ls:Gc Ld}{i j:Nat}{n:Int}
@[simp] theorem om:dr S (Bl ls)=.val (Bl ls):=nr rfl
@[simp] theorem qb:dr S (K6 ls)=.val (K6 ls):=nr rfl
@[simp] theorem mE:asS (.val (Bl ls))=some (ls.map hD):=nr rfl
@[simp] theorem mO:asS (.val (K6 ls))=some (ls.map λx=>shD x.ow):=nr rfl
@[simp] theorem me:Jq (.val (Bl ls))=some (.val (.int ls.length)):=by
  show Jq (.val (.lst (ls.map hD)))=_
  rw[bY,vL]
theorem Gs(hi:i<ls.length):atI (ls.map hD) (i:Int)=Fk (hD (AU ls i)):=CH (by rw[uQ,G4 hi];rfl)
theorem Om(hi:i<ls.length):atI (ls.map λx=>shD x.ow) (i:Int)=Fk (shD (AU ls i).ow):=CH (by rw[uQ,G4 hi];rfl)
@[simp] theorem rP{x:Ld}:dr S (hD x)=.val (.tup [.int x.k,.int x.n]):=nr rfl
@[simp] theorem qe{ts:List Tf}{x:Ld}{E:En}:tTp ts (hD x) E S=tMs ts [.int x.k,.int x.n] E S:=nr rfl
theorem SS(hi:i<ls.length)(hn:n<=(AU ls i).n):Cp [Bl ls,.int i,.int n] S=Fk (.bl true,S):=by
 have hi':(i:Int)<ls.length:=by lia
 simp[Cp,K9,hi',hi,Gs hi,hn]
theorem UO(hi:i<ls.length)(hj:j<ls.length)(h1:0<(AU ls i).n)(h2:0<(AU ls j).n)(hk:(AU ls i).k=(AU ls j).k):H0 [Bl ls,.int i,.int j] S=Fk (.bl true,S):=by
 have e1:=SS (S:=S) (n:=1) hi (by lia)
 have e2:=SS (S:=S) (n:=1) hj (by lia)
 simp[H0,Mu,e1,e2,Gs hi,Gs hj,hk]
theorem Of{k:Nat}(hi:i<ls.length)(hn:n<=(AU ls i).n)(hk:k≠(AU ls i).k):GO [Bl ls,.int i,.int n,.int k] S=Fk (.bl true,S):=by
 have e1:=SS (S:=S) hi hn
 have e2:(((AU ls i).k:Int)==(k:Int))=false:=by simp;lia
 simp[GO,Mw,e1,Gs hi,e2]
theorem aU{lo hi:uD Int}:wSl lo hi (.val (Bl ls))=Fk (.own (IY (ls.map hD) lo hi)):=nr rfl
theorem G8(hi:i<ls.length)(hl:ls.length<=60):B9 [Bl ls,.int i,.int n] S=Fk (Bl (less ls i n),S):=by
 have c1:=Nd (ds:=ls.map hD) (n:=i) (by simp;lia)
 have c2:IY (ls.map hD) (Fk ((i:Int)+1)) uC=(ls.map hD).drop (i+1):=by
  have:=aS (ds:=ls.map hD) (n:=i+1) (by simp;lia)
  simpa using this
 have ef:Bl (less ls i n)=.lst ((ls.map hD).take i++[.tup [.int (AU ls i).k,.int ((AU ls i).n-n)]]++(ls.map hD).drop (i+1)):=by
  rw[UJ,Bl,yC,List.set_eq_take_append_cons_drop,vD (by simpa using hi)]
  simp[hD]
 have z1:(List.take i (ls.map hD)).length+1<=sizeLine:=uO (show _<=100 by simp;lia) (AN (by decide))
 have z2:(List.take i (ls.map hD)++[D.tup [.int (AU ls i).k,.int ((AU ls i).n-n)]]).length+(List.drop (i+1) (ls.map hD)).length<=sizeLine:=uO (show _<=100 by simp;lia) (AN (by decide))
 rw[ef]
 have ah:=Gs hi
 have ws:=λ{lo hi:uD Int}=>aU (ls:=ls) (lo:=lo) (hi:=hi)
 generalize List.take i (ls.map hD)=A at*
 generalize List.drop (i+1) (ls.map hD)=B at*
 simp only[vd,vJ,yN]at z2
 simp[B9,Jl,ah,ws,c1,c2,z1,z2]
end
section
variable{S:Sto}{st:Stt}{t:Tr}{k:Nat}
@[simp] theorem Gi{ls:List Ld}{r:List D}:CJ (.val (Bl ls)) (.val (.lst r))=if(ls.map hD).length+r.length<=sizeLine then some (.own (ls.map hD++r))else none:=nr rfl
theorem NZ{ls:Gc Ld}{y:Ld}:D.lst (ls.map hD++[.tup [.int y.k,.int y.n]])=Bl (ls++[y]):=by simp[Bl,hD]
theorem N7(h:GC t k st)(hk:k<=17){d:Ab}(hc:Can t st d):Aq [Bl st.AE,d.d] S=Fk (Bl (step t st d).AE,S):=by
 have hlen:=h.len
 have hz:(st.AE.map hD).length+1<=sizeLine:=uO (show _<=100 by simp;lia) (AN (by decide))
 have hz2:∀{i:Nat} {n:Int},((less st.AE i n).map hD).length+1<=sizeLine:=λ{i n}=>uO (show _<=100 by simp[Ca];lia) (AN (by decide))
 cases d with
 |Iq p kd n=>
  have e:=NZ (ls:=st.AE) (y:=⟨kd,n,WE t.p p⟩)
  show _=Fk (Bl (st.AE++[⟨kd,n,WE t.p p⟩]),S)
  rw[<-e]
  have wA:=Gi (ls:=st.AE) (r:=[.tup [.int kd,.int n]])
  rw[vD (by simpa using hz)]at wA
  simp[Aq,B2,Ab.d,-Gi,wA]
 |K7 i j=>
  obtain⟨hij,hi,hj,h1,h2,h3⟩:=hc
  have e0:AU (less st.AE i (AU st.AE i).n) j=AU st.AE j:=by
   unfold AU less
   rw[uM,uK hij,<-uM]
  have w1:=G8 (S:=S) (n:=(AU st.AE i).n) hi (by lia)
  have w2:=G8 (S:=S) (ls:=less st.AE i (AU st.AE i).n) (i:=j) (n:=(AU st.AE j).n) (by rw[Ca];exact hj) (by rw[Ca];lia)
  have z3:((less (less st.AE i (AU st.AE i).n) j (AU st.AE j).n).map hD).length+1<=sizeLine:=uO (show _<=100 by simp[Ca];lia) (AN (by decide))
  have e:=NZ (ls:=less (less st.AE i (AU st.AE i).n) j (AU st.AE j).n) (y:=⟨(AU st.AE i).k,(AU st.AE i).n+(AU st.AE j).n,DK (AU st.AE i).n (AU st.AE j).n (AU st.AE i).ow (AU st.AE j).ow⟩)
  show _=Fk (Bl (less (less st.AE i (AU st.AE i).n) j (AU st.AE j).n++[_]),S)
  rw[<-e]
  have a1:=Gs hi
  have a2:=Gs hj
  have wA:=Gi (ls:=less (less st.AE i (AU st.AE i).n) j (AU st.AE j).n) (r:=[.tup [.int (AU st.AE i).k,.int ((AU st.AE i).n+(AU st.AE j).n)]])
  rw[vD (by simpa using z3)]at wA
  generalize (less (less st.AE i (AU st.AE i).n) j (AU st.AE j).n).map hD=A at*
  simp[Aq,B2,Ab.d,a1,a2,w1,w2,-Gi,wA]
 |swap i g kd n=>
  obtain⟨hi,h1,h2,h3,h4,h5,h6⟩:=hc
  have w1:=G8 (S:=S) (n:=g) hi (by lia)
  have e:=NZ (ls:=less st.AE i g) (y:=⟨kd,n,(AU st.AE i).ow⟩)
  show _=Fk (Bl (less st.AE i g++[⟨kd,n,(AU st.AE i).ow⟩]),S)
  rw[<-e]
  have wA:=Gi (ls:=less st.AE i g) (r:=[.tup [.int kd,.int n]])
  rw[vD (by simpa using hz2)]at wA
  simp[Aq,B2,Ab.d,w1,-Gi,wA]
 |IV u i g kd n=>
  obtain⟨hi,h1,h2,h3,h4,h5,h6,h7⟩:=hc
  have w1:=G8 (S:=S) (n:=g) hi (by lia)
  have e:=NZ (ls:=less st.AE i g) (y:=⟨kd,n,(AU st.AE i).ow⟩)
  show _=Fk (Bl (less st.AE i g++[⟨kd,n,(AU st.AE i).ow⟩]),S)
  rw[<-e]
  have wA:=Gi (ls:=less st.AE i g) (r:=[.tup [.int kd,.int n]])
  rw[vD (by simpa using hz2)]at wA
  simp[Aq,B2,Ab.d,w1,-Gi,wA]
 |Jo i n=>
  obtain⟨hi,h1,h2⟩:=hc
  have w1:=G8 (S:=S) (n:=n) hi (by lia)
  show _=Fk (Bl (less st.AE i n),S)
  simp[Aq,B2,Ab.d,w1]
 |thr i n ws=>
  obtain⟨hi,h1,h2,h3,h4⟩:=hc
  have w1:=G8 (S:=S) (n:=n) hi (by lia)
  have e:Bl (step t st (.thr i n ws)).AE=Bl (less st.AE i n):=by
   show D.lst (((less st.AE i n).map _).map hD)=_
   rw[vZ];rfl
  rw[e]
  simp[Aq,B2,Ab.d,w1]
 |Mj p q x=>
  have e:Bl (step t st (.Mj p q x)).AE=Bl st.AE:=by
   show D.lst ((st.AE.map _).map hD)=_
   rw[vZ];rfl
  rw[e]
  simp[Aq,B2,Ab.d]
noncomputable def Jb:Ab->uD Int
 | .IV u .. =>Fk u
 |_=>uC
theorem W4{ls:Gc Ld}:∀{ds:Gc Ab},(runs t (st0 t ls) ds).nums=ds.filterMap Jb:=by
 intro ds
 have:∀(ds:Gc Ab) (st:Stt),(runs t st ds).nums=st.nums++ds.filterMap Jb:=by
  intro ds
  induction ds with
  |nil=>intro st;simp[runs]
  |cons d ds ih=>
   intro st
   show(runs t (step t st d) ds).nums=_
   rw[ih]
   cases d<;>simp[step,Jb,ur]
 rw[this];rfl
theorem Mv:∀{ds:Gc Ab} {acc:Gc D} {o:uD D},acc.length+ds.length<=100->C7 [] (tNm 0) (eOp (o2 wEq) [eOp (o2 wIx) [eV 0,eC (.int 0)],eC (.str "trade")]) (eOp (o2 wIx) [eV 0,eC (.int 1)]) (ds.map Ab.d) acc [o] S=Fk (acc++(ds.filterMap Jb).map D.int,S)
 | [],acc,o,h=>by rw[vy,FX Au];simp
 |d::ds,acc,o,h=>by
  have hz:acc.length<sizeLine:=uG (show acc.length<101 by simp at h;lia) (AN (by decide))
  have ht:tNm 0 d.d [o] S=Fk [Fk d.d]:=by simp
  rw[ui]
  cases d with
  |IV u i g kd n=>
   rw[JO Au hz ht (S1:=S) (by simp[Ab.d])]
   have:eOp (o2 wIx) [eV 0,eC (.int 1)] [Fk (Ab.IV u i g kd n).d] S=Fk (.int u,S):=by simp[Ab.d]
   rw[this,Bx,Mv (by simp at h ⊢; lia)]
   simp[Jb,ur]
  |Iq=>rw[LP Au hz ht (S1:=S) (by simp[Ab.d]),Mv (by simp at h ⊢; lia)];simp[Jb,ur]
  |K7=>rw[LP Au hz ht (S1:=S) (by simp[Ab.d]),Mv (by simp at h ⊢; lia)];simp[Jb,ur]
  |swap=>rw[LP Au hz ht (S1:=S) (by simp[Ab.d]),Mv (by simp at h ⊢; lia)];simp[Jb,ur]
  |Jo=>rw[LP Au hz ht (S1:=S) (by simp[Ab.d]),Mv (by simp at h ⊢; lia)];simp[Jb,ur]
  |thr=>rw[LP Au hz ht (S1:=S) (by simp[Ab.d]),Mv (by simp at h ⊢; lia)];simp[Jb,ur]
  |Mj=>rw[LP Au hz ht (S1:=S) (by simp[Ab.d]),Mv (by simp at h ⊢; lia)];simp[Jb,ur]
theorem YO{ds:Gc Ab}{d:Ab}(hd:ds.length<=50)(hn:st.nums=ds.filterMap Jb)(hc:Can t st d):C4 [Bl st.AE,.tup (ds.map Ab.d),d.d] S=Fk (.bl true,S):=by
 cases d with
 |Iq p kd n=>simp[C4,Ez,Ab.d]
 |K7 i j=>
  obtain⟨hij,hi,hj,h1,h2,h3⟩:=hc
  have e:=UO (S:=S) hi hj h1 h2 h3
  simp[C4,Ez,Ab.d,e]
 |swap i g kd n=>
  obtain⟨hi,h1,h2,h3,h4,h5,h6⟩:=hc
  have e:=Of (S:=S) (k:=kd) hi h2 h4
  simp[C4,Ez,Ab.d,e]
 |IV u i g kd n=>
  obtain⟨hi,h1,h2,h3,h4,h5,h6,h7,h8⟩:=hc
  have e:=Of (S:=S) (k:=kd) hi h2 h4
  have tc:=Mv (S:=S) (ds:=ds) (acc:=[]) (o:=uC) (by simp;lia)
  rw[<-hn]at tc
  have fi:=Ra (us:=st.nums)
  have ii:=U2 (us:=st.nums) (i:=u)
  have iu:(st.nums.any λx=>x==u)=false:=by
   rw[List.any_eq_false]
   intro x hx z
   have:x=u:=by simpa using z
   exact h7 (this▸hx)
  rw[iu]at ii
  generalize st.nums.map D.int=ud at*
  simp[C4,Ez,Ab.d,tc,fi,ii,e]
 |Jo i n=>
  obtain⟨hi,h1,h2⟩:=hc
  have e:=SS (S:=S) hi h2
  simp[C4,Ez,Ab.d,e]
 |thr i n ws=>
  obtain⟨hi,h1,h2,h3,h4⟩:=hc
  have e:=SS (S:=S) hi h2
  simp[C4,Ez,Ab.d,e]
 |Mj p q x=>simp[C4,Ez,Ab.d]
end
section
variable{S:Sto}{st:Stt}{t:Tr}{k:Nat}
theorem Z6{ss os:Gc Rat}:Nt (ss.map aD) (os.map aD)=(ss.zip os).map λz=>D.tup [aD z.1,aD z.2]:=by
 unfold Nt
 rw[List.zip_map,vZ]
 rfl
noncomputable def gk(w m:Int)(ss os:Gc Rat):Gc Rat:=zF (λs o=>(s*w+o*m) / (w+m)) ss os
theorem Hg{w m:Int}{ss os:Gc Rat}{j n:Nat}(hs:∀r∈ss,Sz j r)(ho:∀r∈os,Sz j r)(hw:w.natAbs<2^n)(hm:m.natAbs<2^n)(h:0<w+m)(hj:2*j+n+1<=7990)(hl:ss.length<=50):DR [shD ss,.int w,shD os,.int m] S=Fk (shD (gk w m ss os),S):=by
 have e:=Ea (gs:=[]) (t:=tTp [tNm 2,tNm 3]) (f:=AJ J1 [eV 2,eV 0,eV 3,eV 1]) (C:=[Fk (.int w),Fk (.int m)]) (m:=2) (e:=λz:Rat×Rat=>D.tup [aD z.1,aD z.2]) (g:=λz=>aD ((z.1*w+z.2*m) / (w+m))) (S:=S) Au (xs:=ss.zip os) (acc:=[]) (os:=[uC,uC]) rfl (uO (show _<=50 by simp;lia) (AN (by decide))) (by
  intro z hz os' ho'
  obtain⟨q1,q2,rfl⟩:=dB ho'
  have hm2:=vx (a:=z.1) (b:=z.2) hz
  have l:=jz (S:=S) (hs _ hm2.1) (ho _ hm2.2) hw hm h (by lia)
  refine⟨[Fk (aD z.1),Fk (aD z.2)],rfl,by simp,?_⟩
  simp[l])
 rw[<-Z6]at e
 have em:(ss.zip os).map (λz=>aD ((z.1*w+z.2*m) / (w+m)))=(gk w m ss os).map aD:=by
  unfold gk
  rw[<-List.map_uncurry_zip_eq_zipWith,vZ]
  rfl
 rw[em]at e
 simp only[vK,uz]at e
 simp[DR,Jk,e,T7]
theorem Q3{P p:Nat}(hP:P<=50):GA [.int P,.int p] S=Fk (shD (WE P p),S):=by
 have e:=UU (S:=S) (P:=P) (p:=p) (cond:=0) (C:=[]) (dd:=.int p) (f:=eIf (eOp (o2 wEq) [eV 1,eV 0]) (eC Xt) (eC GY)) hP (by
  intro i
  by_cases hi:i=p
  .subst hi;simp;rfl
  .have:((i:Int)==(p:Int))=false:=by simp;lia
   simp[this,hi];rfl)
 have rn:Jn (P:Int)=true:=DY (by lia) (by lia)
 simp[GA,LG,rn,e,T7]
theorem N4{n m:Int}{ss os:Gc Rat}:gk n m ss os=DK n m ss os:=by
 unfold gk DK
 congr 1
 funext s o
 push_cast
 rfl
theorem UA{n m:Int}{ss os:Gc Rat}:DK n m ss os=DK m n os ss:=by
 unfold DK
 rw[List.zipWith_comm]
 congr 1
 funext o s
 push_cast
 grind
@[simp] theorem YR{a b:Int}:Pk [a,b]=if a<=b then [a,b]else [b,a]:=by
  unfold Pk
  simp[List.mergeSort,ABT,List.merge]
@[simp] theorem dc{a b:Int}:RI (.val (.lst [.int a,.int b]))=some (.own ((if a<=b then [a,b]else [b,a]).map D.int)):=by
  have:RI (.val (.lst [.int a,.int b]))=Fk (.own ((Pk [a,b]).map D.int)):=rfl
  rw[this,YR]
@[simp] theorem mU{a b c d e:D}:atI [a,b,c,d,e] (-4)=some b:=nr rfl
@[simp] theorem mW{a b c d e f:D}:atI [a,b,c,d,e,f] (-4)=some c:=nr rfl
theorem XS{i j:Nat}(ht:Kg t)(h:GC t k st)(hk:k<=17)(hc:Can t st (.K7 i j)):Bj [Bl st.AE,K6 st.AE,(Ab.K7 i j).d] S=Fk (shD (DK (AU st.AE i).n (AU st.AE j).n (AU st.AE i).ow (AU st.AE j).ow),S):=by
 obtain⟨hij,hi,hj,h1,h2,h3⟩:=hc
 have sz:=h.sz
 have pi:=h.pcs _ (A5 hi)
 have pj:=h.pcs _ (A5 hj)
 have ti:=h.own _ (A5 hi)
 have tj:=h.own _ (A5 hj)
 have zi:=sz.1 _ (A5 hi)
 have zj:=sz.1 _ (A5 hj)
 have hp:t.p<=10:=by have:=ht.2.1;lia
 .by_cases hle:i<=j
  .have hle':(i:Int)<=j:=by lia
   have e:=Hg (S:=S) (j:=30+170*k) (n:=131+k) zi zj (IU pi.1 pi.2) (IU pj.1 pj.2) (by lia) (by lia) (by lia)
   rw[N4]at e
   have a1:=Gs hi
   have a2:=Gs hj
   have b1:=Om hi
   have b2:=Om hj
   have mf:Cc [(Ab.K7 i j).d] S=Fk (.lst [.int i,.int j],S):=by
    simp[Cc,FH,Ab.d,hle,hle']
   simp only[Ab.d]at mf⊢
   simp[Bj,Dh,mf,a1,a2,b1,b2,e]
  .have hle':¬(i:Int)<=j:=by lia
   have e:=Hg (S:=S) (j:=30+170*k) (n:=131+k) zj zi (IU pj.1 pj.2) (IU pi.1 pi.2) (by lia) (by lia) (by lia)
   rw[N4,UA]at e
   have a1:=Gs hi
   have a2:=Gs hj
   have b1:=Om hi
   have b2:=Om hj
   have mf:Cc [(Ab.K7 i j).d] S=Fk (.lst [.int j,.int i],S):=by
    simp[Cc,FH,Ab.d,hle,hle']
   simp only[Ab.d]at mf⊢
   simp[Bj,Dh,mf,a1,a2,b1,b2,e]
theorem Xf{i kd:Nat}{g n:Int}(hi:i<st.AE.length):Bj [Bl st.AE,K6 st.AE,(Ab.swap i g kd n).d] S=Fk (shD (AU st.AE i).ow,S):=by
 have b1:=Om hi
 simp[Bj,Dh,Cc,FH,Ab.d,b1]
theorem Vp{i kd:Nat}{u g n:Int}(hi:i<st.AE.length):Bj [Bl st.AE,K6 st.AE,(Ab.IV u i g kd n).d] S=Fk (shD (AU st.AE i).ow,S):=by
 have b1:=Om hi
 simp[Bj,Dh,Cc,FH,Ab.d,b1]
theorem ae{ws:Gc Int}(h:GC t k st)(hk:k<=17)(hl:ws.length=t.k+1)(hw:∀w∈ws,1<=w/\w<=99):EX [t.d,Bl st.AE,.tup (ws.map D.int)] S=Fk (.int (EH t st.AE ws),S):=by
 have hlen:=h.len
 have e:=Ea (gs:=[]) (t:=tTp [tNm 1,tNm 2]) (f:=eOp (o2 CD) [eV 2,eOp (o2 wIx) [eV 0,eV 1]]) (C:=[Fk (.tup (ws.map D.int))]) (m:=2) (e:=hD) (g:=λx=>D.int (x.n*ws.getD x.k 0)) (S:=S) Au (xs:=st.AE) (acc:=[]) (os:=[uC,uC]) rfl (uO (show _<=50 by simp;lia) (AN (by decide))) (by
  intro x hx os ho
  obtain⟨q1,q2,rfl⟩:=dB ho
  have hkk:=h.kind _ hx
  have w1:=VA (ws:=ws) (i:=x.k) (by lia)
  have w2:=Oy hw (i:=x.k) (by lia)
  have m1:DZ x.n (ws.getD x.k 0)=true:=mulR (by lia) (by lia)
  generalize ws.getD x.k 0=wz at*
  refine⟨[Fk (.int x.k),Fk (.int x.n)],rfl,by simp,?_⟩
  simp[w1,m1])
 simp only[vK,uz]at e
 have es:NY (st.AE.map λx=>D.int (x.n*ws.getD x.k 0))=Fk (st.AE.map λx=>x.n*ws.getD x.k 0):=by
  have:=Iw (st.AE.map λx=>x.n*ws.getD x.k 0)
  rwa [vZ]at this
 have w2:=RD hl
 have w4:=Oy hw (i:=t.k) (by lia)
 have m2:DZ (t.b:Int) (ws.getD t.k 0)=true:=mulR (by lia) (by lia)
 have e2:EH t st.AE ws=(st.AE.map λx=>x.n*ws.getD x.k 0).sum+t.b*ws.getD t.k 0:=rfl
 rw[e2]
 have sq:sqD S (Bl st.AE)=Fk (st.AE.map hD,[]):=rfl
 generalize (st.AE.map λx=>x.n*ws.getD x.k 0)=es' at*
 generalize (st.AE.map λx=>D.int (x.n*ws.getD x.k 0))=es2 at*
 generalize ws.getD t.k 0=wb at*
 simp[EX,Jg,Tr.d,sq,e,es,w2,m2]
theorem Wf{i:Nat}{n:Int}{ws:Gc Int}(ht:Kg t)(h:GC t k st)(hk:k<=17)(hc:Can t st (.thr i n ws)):Dy [t.d,Bl st.AE,(Ab.thr i n ws).d] S=Fk (aD (KQ t st.AE i n ws),S):=by
 obtain⟨hi,h1,h2,hl,hw⟩:=hc
 have a:=Kp ht h (by lia) hl hw
 have w1:=VA (ws:=ws) (i:=(AU st.AE i).k) (by have:=h.kind _ (A5 hi);lia)
 have w3:=Oy hw (i:=(AU st.AE i).k) (by have:=h.kind _ (A5 hi);lia)
 have m1:DZ n (ws.getD (AU st.AE i).k 0)=true:=mulR (by lia) (by lia)
 have l1:=Wt (S:=S) (t:=n*ws.getD (AU st.AE i).k 0) a.1 (EK (IU (by lia) a.2) (by lia))
 have wo:=ae (S:=S) h hk hl hw
 have ah:=Gs hi
 rw[Nn hi]
 generalize aD (((n*ws.getD (AU st.AE i).k 0:Int):Rat) / (EH t st.AE ws:Rat))=R at*
 generalize ws.getD (AU st.AE i).k 0=wa at*
 simp[Dy,KY,Ab.d,ah,w1,m1,wo,l1]
theorem Ww{X:Rat}{ss os:Gc Rat}:gk ((X.den:Int)-X.num) X.num ss os=Jp X os ss:=by
 unfold gk Jp
 congr 1
 funext s o
 have h1:=FT X
 have h2:=LB X
 push_cast
 have e:((X.den:Rat)-(X.num:Rat)+(X.num:Rat))=(X.den:Rat):=by grind
 rw[e]
 grind
theorem X6{i:Nat}{n:Int}{ws:Gc Int}{ss:Gc Rat}(ht:Kg t)(h:GC t k st)(hk:k<=17)(hc:Can t st (.thr i n ws))(hs:∀r∈ss,Sz (30+170*k) r)(hl:ss.length<=50):D6 [t.d,Bl st.AE,K6 st.AE,(Ab.thr i n ws).d,shD ss] S=Fk (shD (Jp (KQ t st.AE i n ws) (AU st.AE i).ow ss),S):=by
 have pt:=Wf (S:=S) ht h hk hc
 obtain⟨hi,h1,h2,hl',hw⟩:=hc
 have cz:=Xr ht h (by lia) hl' hw hi h1 h2
 have b1:=Om hi
 generalize KQ t st.AE i n ws=X at*
 have d0:=den_pos X
 have c2:=cz.2
 have e:=Hg (S:=S) (w:=(X.den:Int)-X.num) (m:=X.num) (j:=30+170*k) (n:=146+k) hs (h.sz.1 _ (A5 hi)) (by
  have c1:=cz.1
  have:2^(146+k)=2^(145+k)*2:=by rw[show 146+k=(145+k)+1 by lia,AAT]
  generalize 2^(145+k)=P at*
  lia) (eJ cz.1 (by lia)) (by lia) (by lia) hl
 rw[Ww]at e
 generalize Jp X (AU st.AE i).ow ss=rs at*
 simp only[aD,Ab.d]at pt⊢
 simp[D6,Im,pt,b1,e]
theorem Xw{p q:Nat}{x:Rat}{ss:Gc Rat}{j i:Nat}(hs:∀r∈ss,Sz j r)(hx:Sz i x)(hj:2*j+i<=7900)(hp:p<ss.length)(hq:q<ss.length)(hpq:p≠q):∃S',FZ [(Ab.Mj p q x).d,shD ss] S=Fk (shD (IM p q x ss),S')/\Ce [] S S':=by
 have sp:=hs _ (getD_mem (d:=0) hp)
 have sq:=hs _ (getD_mem (d:=0) hq)
 have l1:∀S,ES [aD (ss.getD p 0),aD x] S=Fk (aD (ss.getD p 0*x),S):=λS=>Xe sp hx (by lia)
 have s1:=QM sp hx
 have l2:∀S,Lm [aD (ss.getD p 0),aD (ss.getD p 0*x)] S=Fk (aD (ss.getD p 0-ss.getD p 0*x),S):=λS=>pC sp s1 (by lia)
 have l3:∀S,Gz [aD (ss.getD q 0),aD (ss.getD p 0*x)] S=Fk (aD (ss.getD q 0+ss.getD p 0*x),S):=λS=>fO sq s1 (by lia)
 have a1:=YQ hp
 have a2:=YQ hq
 have i1:=c7 hp
 have i2:ixN (((ss.map aD).set p (aD (ss.getD p 0-ss.getD p 0*x))).length) (q:Int)=Fk q:=Qa (by simpa using hq)
 refine⟨S++[.lst ((IM p q x ss).map aD)],?_,.app⟩
 simp only[wt,vL]at i1 i2
 have em:(IM p q x ss).map aD=((ss.map aD).set p (aD (ss.getD p 0-ss.getD p 0*x))).set q (aD (ss.getD q 0+ss.getD p 0*x)):=by rw[IM,yC,yC]
 unfold shD
 rw[em]
 generalize aD (ss.getD p 0-ss.getD p 0*x)=d1 at*
 generalize aD (ss.getD q 0+ss.getD p 0*x)=d2 at*
 generalize aD (ss.getD p 0*x)=d3 at*
 generalize aD (ss.getD p 0)=d4 at*
 generalize aD (ss.getD q 0)=d5 at*
 simp[FZ,Jv,Ab.d,a1,a2,l1,l2,l3,i1,i2]
end
theorem SY{α:Type}{gs:Gd}{t:Tf}{f:Ev}{C:En}{m:Nat}{e g:α->D}(hg:∀S,gOk gs S):∀{xs:Gc α} {acc:Gc D} {os:En} {S:Sto},os.length=m->acc.length+xs.length<=sizeLine->(∀x∈xs,∀os S,os.length=m->∃us S',us.length=m/\t (e x) (C++os) S=Fk (C++us)/\f (C++us) S=Fk (g x,S')/\Ce [] S S')->∃S',C7 gs t Cr f (xs.map e) acc (C++os) S=Fk (acc++xs.map g,S')/\Ce [] S S'
 | [],acc,os,S,ho,hz,h=>⟨S,by rw[vy,FX (hg S)];simp,.refl⟩
 |x::xs,acc,os,S,ho,hz,h=>by
  obtain⟨us,S1,hu,e1,e2,s1⟩:=h x uP os S ho
  obtain⟨S2,e3,s2⟩:=SY hg (xs:=xs) (acc:=acc++[g x]) (os:=us) (S:=S1) hu (by simp at hz ⊢; lia) λx' hx=>h x' (uJ _ hx)
  refine⟨S2,?_,s1.trans s2⟩
  rw[ui,JO (hg S) (by simp at hz;lia) e1 HK,e2,Bx,e3]
  simp
section
variable{S:Sto}{st:Stt}{t:Tr}{k:Nat}
noncomputable def shB(t:Tr)(st:Stt):Ab->Gc Rat->Gc Rat
 | .thr i n ws,ss=>Jp (KQ t st.AE i n ws) (AU st.AE i).ow ss
 | .Mj p q x,ss=>IM p q x ss
 |_,ss=>ss
theorem Rp{d:Ab}{ss:Gc Rat}(ht:Kg t)(h:GC t k st)(hk:k<=17)(hc:Can t st d)(hs:∀r∈ss,Sz (30+170*k) r)(hl:ss.length=t.p):∃S',Ao [t.d,Bl st.AE,K6 st.AE,d.d,shD ss] S=Fk (shD (shB t st d ss),S')/\Ce [] S S':=by
 have tp:=ht.2.1
 cases d with
 |thr i n ws=>
  have e:=X6 (S:=S) ht h hk hc hs (by lia)
  refine⟨S,?_,.refl⟩
  simp only[Ab.d]at e⊢
  simp[Ao,BY,e,shB]
 |Mj p q x=>
  obtain⟨hpq,hp,hq,x1,x2,x3⟩:=hc
  have hx:Sz 4 x:=by
   refine⟨?_,by lia⟩
   show x.num.natAbs<16
   lia
  obtain⟨S',e,sm⟩:=Xw (S:=S) (p:=p) (q:=q) hs hx (by lia) (by lia) (by lia) hpq
  refine⟨S',?_,sm⟩
  simp only[Ab.d]at e⊢
  simp[Ao,BY,e,shB]
 |Iq p kd n=>exact⟨S,by simp[Ao,BY,Ab.d,shB],.refl⟩
 |K7 i j=>exact⟨S,by simp[Ao,BY,Ab.d,shB],.refl⟩
 |swap i g kd n=>exact⟨S,by simp[Ao,BY,Ab.d,shB],.refl⟩
 |IV u i g kd n=>exact⟨S,by simp[Ao,BY,Ab.d,shB],.refl⟩
 |Jo i n=>exact⟨S,by simp[Ao,BY,Ab.d,shB],.refl⟩
theorem XQ{d:Ab}:(step t st d).hold=shB t st d st.hold:=by cases d<;>rfl
theorem Ma{i:Nat}{n:Int}{ls:Gc Ld}(hi:i<ls.length){β:Type}(f:Gc Rat->β):(less ls i n).map (λx=>f x.ow)=ls.map λx=>f x.ow:=by
 rw[UJ,yC]
 have:(ls.map λx=>f x.ow)[i]?=Fk (f (AU ls i).ow):=by rw[uQ,G4 hi];rfl
 apply zl
 intro j
 by_cases e:i=j
 .subst e;rw[uS (by simpa using hi),this]
 .rw[uK e]
@[simp] theorem pq{ls:List Ld}:sqD S (K6 ls)=some (ls.map λx=>shD x.ow,[]):=nr rfl
theorem We{d:Ab}(ht:Kg t)(h:GC t k st)(hk:k<=17)(hc:Can t st d):∃S',BA [t.d,Bl st.AE,K6 st.AE,d.d] S=Fk (K6 (step t st d).AE,S')/\Ce [] S S':=by
 have hlen:=h.len
 have sz:=h.sz
 have tp:=ht.2.1
 obtain⟨S',e,sm⟩:=SY (gs:=[]) (t:=tNm 4) (f:=AJ Ao [eV 0,eV 1,eV 2,eV 3,eV 4]) (C:=[Fk t.d,Fk (Bl st.AE),Fk (K6 st.AE),Fk d.d]) (m:=1) (e:=λx:Ld=>shD x.ow) (g:=λx=>shD (shB t st d x.ow)) (λ_=>Au) (xs:=st.AE) (acc:=[]) (os:=[uC]) (S:=S) rfl (uO (show _<=50 by simp;lia) (AN (by decide))) (by
  intro x hx os S0 ho
  obtain⟨q1,rfl⟩:=Ut ho
  obtain⟨S1,e1,s1⟩:=Rp (S:=S0) (d:=d) (ss:=x.ow) ht h hk hc (sz.1 x hx) (h.own x hx)
  refine⟨[Fk (shD x.ow)],S1,rfl,by simp,?_,s1⟩
  simp[e1])
 simp only[vK,uz]at e
 refine⟨S',?_,sm⟩
 have hz:(st.AE.map λx=>shD (shB t st d x.ow)).length+1<=sizeLine:=uO (show _<=100 by simp;lia) (AN (by decide))
 cases d with
 |Iq p kd n=>
  have a1:=Q3 (S:=S') (P:=t.p) (p:=p) (by lia)
  have ef:K6 (step t st (.Iq p kd n)).AE=.lst ((st.AE.map λx=>shD (shB t st (.Iq p kd n) x.ow))++[shD (WE t.p p)]):=by simp[K6,step,shB]
  rw[ef]
  generalize (st.AE.map λx=>shD (shB t st (.Iq p kd n) x.ow))=A at*
  simp only[Ab.d,Tr.d]at e⊢
  simp[BA,BX,e,a1,hz]
 |K7 i j=>
  have a1:=XS (S:=S') ht h hk hc
  obtain⟨hij,hi,hj,h1,h2,h3⟩:=hc
  have e0:AU (less st.AE i (AU st.AE i).n) j=AU st.AE j:=by
   unfold AU less
   rw[uM,uK hij,<-uM]
  have ef:K6 (step t st (.K7 i j)).AE=.lst ((st.AE.map λx=>shD (shB t st (.K7 i j) x.ow))++[shD (DK (AU st.AE i).n (AU st.AE j).n (AU st.AE i).ow (AU st.AE j).ow)]):=by
   show D.lst ((less (less st.AE i (AU st.AE i).n) j (AU st.AE j).n++[_]).map λx:Ld=>shD x.ow)=_
   rw[wU,Ma (by rw[Ca];exact hj),Ma hi]
   rfl
  rw[ef]
  generalize (st.AE.map λx=>shD (shB t st (.K7 i j) x.ow))=A at*
  simp only[Ab.d]at e a1⊢
  simp[BA,BX,e,a1,hz]
 |swap i g kd n=>
  have hi:=hc.1
  have a1:=Xf (S:=S') (st:=st) (i:=i) (kd:=kd) (g:=g) (n:=n) hi
  have ef:K6 (step t st (.swap i g kd n)).AE=.lst ((st.AE.map λx=>shD (shB t st (.swap i g kd n) x.ow))++[shD (AU st.AE i).ow]):=by
   show D.lst ((less st.AE i g++[_]).map λx:Ld=>shD x.ow)=_
   rw[wU,Ma hi]
   rfl
  rw[ef]
  generalize (st.AE.map λx=>shD (shB t st (.swap i g kd n) x.ow))=A at*
  simp only[Ab.d]at e a1⊢
  simp[BA,BX,e,a1,hz]
 |IV u i g kd n=>
  have hi:=hc.1
  have a1:=Vp (S:=S') (st:=st) (i:=i) (kd:=kd) (u:=u) (g:=g) (n:=n) hi
  have ef:K6 (step t st (.IV u i g kd n)).AE=.lst ((st.AE.map λx=>shD (shB t st (.IV u i g kd n) x.ow))++[shD (AU st.AE i).ow]):=by
   show D.lst ((less st.AE i g++[_]).map λx:Ld=>shD x.ow)=_
   rw[wU,Ma hi]
   rfl
  rw[ef]
  generalize (st.AE.map λx=>shD (shB t st (.IV u i g kd n) x.ow))=A at*
  simp only[Ab.d]at e a1⊢
  simp[BA,BX,e,a1,hz]
 |Jo i n=>
  have ef:K6 (step t st (.Jo i n)).AE=.lst (st.AE.map λx=>shD (shB t st (.Jo i n) x.ow)):=by
   show D.lst ((less st.AE i n).map λx:Ld=>shD x.ow)=_
   rw[Ma hc.1]
   rfl
  rw[ef]
  generalize (st.AE.map λx=>shD (shB t st (.Jo i n) x.ow))=A at*
  simp only[Ab.d]at e⊢
  simp[BA,BX,e]
 |thr i n ws=>
  have ef:K6 (step t st (.thr i n ws)).AE=.lst (st.AE.map λx=>shD (shB t st (.thr i n ws) x.ow)):=by
   show D.lst (((less st.AE i n).map _).map λx:Ld=>shD x.ow)=_
   rw[vZ]
   exact congrArg D.lst (Ma hc.1 (λo=>shD (Jp (KQ t st.AE i n ws) (AU st.AE i).ow o)))
  rw[ef]
  generalize (st.AE.map λx=>shD (shB t st (.thr i n ws) x.ow))=A at*
  simp only[Ab.d]at e⊢
  simp[BA,BX,e]
 |Mj p q x=>
  have ef:K6 (step t st (.Mj p q x)).AE=.lst (st.AE.map λy=>shD (shB t st (.Mj p q x) y.ow)):=by
   show D.lst ((st.AE.map _).map λy:Ld=>shD y.ow)=_
   rw[vZ]
   rfl
  rw[ef]
  generalize (st.AE.map λy=>shD (shB t st (.Mj p q x) y.ow))=A at*
  simp only[Ab.d]at e⊢
  simp[BA,BX,e]
theorem MX{ls:Gc Ld}{x y:D}(hl:ls.length<=50):CK [.tup [x,.tup (ls.map Ld.d),y]] S=Fk (Bl ls,S):=by
 have e:=Ea (gs:=[]) (t:=tNm 0) (f:=Cm [eOp (o2 wIx) [eV 0,eC (.int 0)],eOp (o2 wIx) [eV 0,eC (.int 1)]]) (C:=[]) (m:=1) (e:=Ld.d) (g:=hD) (S:=S) Au (xs:=ls) (acc:=[]) (os:=[uC]) rfl (uO (show _<=50 by simp;lia) (AN (by decide))) (by
  intro x hx os ho
  obtain⟨q1,rfl⟩:=Ut ho
  refine⟨[Fk x.d],rfl,by simp,?_⟩
  simp[Ld.d,hD])
 simp only[uz]at e
 simp[CK,Ik,e,Bl]
theorem YT{ls:Gc Ld}(hl:ls.length<=50):C7 [] (tNm 0) Cr (eOp (o2 wIx) [eV 0,eC (.int 2)]) (ls.map Ld.d) [] [uC] S=Fk (ls.map λx=>shD x.ow,S):=
 Ea (gs:=[]) (t:=tNm 0) (f:=eOp (o2 wIx) [eV 0,eC (.int 2)]) (C:=[]) (m:=1) (e:=Ld.d) (g:=λx=>shD x.ow) (S:=S) Au (xs:=ls) (acc:=[]) (os:=[uC]) rfl (uO (show _<=50 by simp;lia) (AN (by decide))) (by
  intro x hx os ho
  obtain⟨q1,rfl⟩:=Ut ho
  refine⟨[Fk x.d],rfl,by simp,?_⟩
  simp[Ld.d])
theorem VP{ls:Gc Ld}{ds:Gc Ab}{n:Nat}(h:BP t ls ds)(hn:n<=ds.length):∃S',GS [Ae t ls ds,.int n] S=Fk (.tup [Bl (runs t (st0 t ls) (ds.take n)).AE,K6 (runs t (st0 t ls) (ds.take n)).AE,shD (runs t (st0 t ls) (ds.take n)).hold],S')/\Ce [] S S':=by
 have hl0:ls.length<=4:=h.inv.len
 have ct:IY (ds.map Ab.d) uC (Fk (n:Int))=(ds.take n).map Ab.d:=by rw[Nd (by simpa using hn),zu]
 obtain⟨E',S',ef,i,o,f1,f2,rfl,f3⟩:=EI (gs:=[]) (t:=tNm 8) (b:=Aa (BQ 7 (AJ Ao [eV 2,eV 5,eV 6,eV 8,eV 7]))
  (Aa (BQ 6 (AJ BA [eV 2,eV 5,eV 6,eV 8]))
  (BQ 5 (AJ Aq [eV 5,eV 8]))))
  (I:=λrs E S'=>∃(i:Nat) (o:uD D),rs=((ds.take n).drop i).map Ab.d/\i<=n/\E=[Fk (Ae t ls ds),Fk (.int n),Fk t.d,Fk (.tup (ls.map Ld.d)),Fk (.tup (ds.map Ab.d)),Fk (Bl (runs t (st0 t ls) (ds.take i)).AE),Fk (K6 (runs t (st0 t ls) (ds.take i)).AE),Fk (shD (runs t (st0 t ls) (ds.take i)).hold),o]/\Ce [] S S')
  (λ_ _ _ _=>Au) (ds:=(ds.take n).map Ab.d) (E:=[Fk (Ae t ls ds),Fk (.int n),Fk t.d,Fk (.tup (ls.map Ld.d)),Fk (.tup (ds.map Ab.d)),Fk (Bl ls),Fk (K6 ls),Fk (shD t.ho),uC]) (S:=S)
  ⟨0,uC,by simp,wR _,by simp[runs,st0],.refl⟩ (by
    rintro dd rs E T ⟨i,o,i1,i2,rfl,i3⟩
    have hlt:i<(ds.take n).length:=by
     rcases xQ i (ds.take n).length with w|w
     .exact w
     .rw[vX w]at i1;cases i1
    rw[uy hlt,ui]at i1
    injection i1 with z1 z2
    subst z1 z2
    have hlt':i<ds.length:=by simp at hlt;lia
    have hin:i<n:=by simp at hlt;lia
    have hg:(ds.take n)[i]=ds[i]:=List.getElem_take
    rw[hg]
    have inv:=h.at i
    have il:(ds.take i).length<=16:=by have:=h.len;simp;lia
    have can:=GD h.good (W1 hlt')
    obtain⟨T1,e1,s1⟩:=Rp (S:=T) h.tr inv (by lia) can inv.sz.2 inv.hold
    obtain⟨T2,e2,s2⟩:=We (S:=T1) h.tr inv (by lia) can
    have e3:=N7 (S:=T2) inv (by lia) can
    have rt:=KU (t:=t) (st:=st0 t ls) (W1 hlt')
    refine⟨_,[Fk (Ae t ls ds),Fk (.int n),Fk t.d,Fk (.tup (ls.map Ld.d)),Fk (.tup (ds.map Ab.d)),Fk (Bl (runs t (st0 t ls) (ds.take (i+1))).AE),Fk (K6 (runs t (st0 t ls) (ds.take (i+1))).AE),Fk (shD (runs t (st0 t ls) (ds.take (i+1))).hold),Fk ds[i].d],T2,by simp;rfl,?_,i+1,Fk ds[i].d,rfl,hin,rfl,(i3.trans s1).trans s2⟩
    rw[rt]
    rw[<-XQ]at e1
    simp[e1,e2,e3])
 have hz:i=n:=by
  have:=congrArg xf f1
  simp at this
  lia
 subst hz
 refine⟨S',?_,f3⟩
 have fh:=MX (S:=S) (ls:=ls) (x:=t.d) (y:=.tup (ds.map Ab.d)) (by lia)
 have fo:=YT (S:=S) (ls:=ls) (by lia)
 have fo':D.lst (ls.map λx=>shD x.ow)=K6 ls:=rfl
 have th:atI [D.int t.p,D.int t.k,D.int t.b,shD t.ho,D.int t.h,D.int t.l] 3=Fk (shD t.ho):=by simp
 simp only[Ae]at ef⊢
 have td:wIx (.val t.d) (.val (.int 3))=Fk (.val (shD t.ho)):=by simp[Tr.d]
 have dt:dr S t.d=.val t.d:=rfl
 rw[zu]at ef ct
 simp[GS,NO,fh,fo,fo',-gJ,td,dt,ct,ef]
theorem PZ{ls:Gc Ld}{ds:Gc Ab}(h:BP t ls ds):FQ [Ae t ls ds] S=Fk (.non,S):=by
 have hl0:ls.length<=4:=h.inv.len
 have hd:=h.len
 obtain⟨E',S',ef,i,o1,o2,f1,f2,rfl,rfl⟩:=EI (gs:=[]) (t:=tTp [tNm 3,tNm 4]) (b:=Aa (xIf (Tg (AJ C4 [eV 1,eOp (Kq false true) [eV 2,eV 3],eV 4])) (BI (eV 3)) D5)
  (BQ 1 (AJ Aq [eV 1,eV 4])))
  (I:=λrs E S'=>∃(i:Nat) (o1 o2:uD D),rs=(Rl 0 (ds.map Ab.d)).drop i/\i<=ds.length/\E=[Fk (Ae t ls ds),Fk (Bl (runs t (st0 t ls) (ds.take i)).AE),Fk (.tup (ds.map Ab.d)),o1,o2]/\S'=S)
  (λ_ _ _ _=>Au) (ds:=Rl 0 (ds.map Ab.d)) (E:=[Fk (Ae t ls ds),Fk (Bl ls),Fk (.tup (ds.map Ab.d)),uC,uC]) (S:=S)
  ⟨0,uC,uC,by simp,wR _,by simp[runs,st0],rfl⟩ (by
    rintro dd rs E T ⟨i,o1,o2,i1,i2,rfl,rfl⟩
    have el:(Rl 0 (ds.map Ab.d)).length=ds.length:=by rw[Lz];simp
    have hlt:i<ds.length:=by
     rcases xQ i ds.length with w|w
     .exact w
     .rw[vX (by lia)]at i1;cases i1
    rw[uy (by lia)]at i1
    injection i1 with z1 z2
    have hd1:dd=.tup [.int i,ds[i].d]:=by
     have:=Nb (ds:=ds.map Ab.d) (k:=0) (i:=i)
     rw[W1 (by lia),<-z1,uQ,W1 hlt]at this
     simpa using this
    subst z2
    subst hd1
    have inv:=h.at i
    have il:(ds.take i).length<=16:=by simp;lia
    have can:=GD h.good (W1 hlt)
    have cd:=YO (S:=T) (ds:=ds.take i) (by lia) W4 can
    have e3:=N7 (S:=T) inv (by lia) can
    have rt:=KU (t:=t) (st:=st0 t ls) (W1 hlt)
    have ct:=Nd (ds:=ds.map Ab.d) (n:=i) (by simp;lia)
    rw[zu]at cd
    refine⟨_,[Fk (Ae t ls ds),Fk (Bl (runs t (st0 t ls) (ds.take (i+1))).AE),Fk (.tup (ds.map Ab.d)),Fk (.int i),Fk ds[i].d],T,by simp;rfl,?_,i+1,Fk (.int i),Fk ds[i].d,rfl,hlt,rfl,rfl⟩
    rw[rt]
    simp[ct,cd,e3])
 have fh:=MX (S:=S') (ls:=ls) (x:=t.d) (y:=.tup (ds.map Ab.d)) (by lia)
 simp only[Ae]at ef⊢
 simp[FQ,Jy,fh,ef]
theorem JA{ls:Gc Ld}{ds:Gc Ab}(h:BP t ls ds):Ay [Ae t ls ds] S=Fk (.non,S):=by
 have e:=PZ (S:=S) h
 simp[Ay,Iu,e,isN]
end
section
variable{S:Sto}
theorem fG{ns:Gc Int}{k:Nat}:∃c,D7 [.scr ns,.int k] S=Fk (.int c,S):=by
 by_cases h:k<ns.length
 .have h':(k:Int)<ns.length:=by lia
  refine⟨ns[k],?_⟩
  have e:atI (ns.map D.int) (k:Int)=Fk (.int ns[k]):=CH (by rw[uQ,W1 h];rfl)
  simp[D7,JI,h,h',e]
 .have h':¬(k:Int)<ns.length:=by lia
  exact⟨0,by simp[D7,JI,h,h']⟩
end
theorem Ok.add{G B C:Nat}{r q:Rat}(h:Ok G B r)(g:Ok G C q):Ok G (B+C) (r+q):=by
 obtain⟨z,e1,h1⟩:=h
 obtain⟨y,e2,h2⟩:=g
 refine⟨z+y,?_,Nat.add_le_add h1 h2⟩
 push_cast
 rw[<-e1,<-e2]
 grind
theorem Ok.mono{G B C:Nat}{r:Rat}(h:Ok G B r)(g:B<=C):Ok G C r:=by
 obtain⟨z,e,hz⟩:=h
 exact⟨z,e,uO hz g⟩
theorem Ok.pF{G B N:Nat}{r:Rat}{n:Int}(h:Ok G B r)(h0:0<=n)(h1:n<=N):Ok G (B*N) ((n:Rat)*r):=by
 obtain⟨z,e,hz⟩:=h
 refine⟨z*n.toNat,?_,zY hz (by lia)⟩
 push_cast
 rw[KS h0,<-e]
 grind
theorem Ok.int{G:Nat}{n:Int}{N:Nat}(h0:0<=n)(h1:n<=N):Ok G (G*N) (n:Rat):=by
 have:=(Ok.one (G:=G) (B:=G) (uN _)).pF (N:=N) h0 h1
 have e:(n:Rat)*1=(n:Rat):=by grind
 rwa [e]at this
theorem Qy{F:Fn}(hF:∀{j k:Nat} {p q:Rat} (S:Sto),Sz j p->Sz k q->j+k<=7990->F [aD p,aD q] S=Fk (aD (p+q),S)){gs:Gd}{S:Sto}(hg:gOk gs S){X:uD D}{G B K:Nat}(hG:0<G)(gK:G<2^K)(hK:2*K<=7990):∀{rs:Gc Rat} {acc:Rat} {m:Nat} {o:uD D},Ok G (m*B) acc->(∀r∈rs,Ok G B r)->(m+rs.length)*B<2^K->∃o',Ni gs (tNm 2) (BQ 1 (AJ F [eV 1,eV 2])) (rs.map aD) [X,Fk (aD acc),o] S=Fk (.nx,[X,Fk (aD (acc+rs.sum)),o'],S)
 | [],acc,m,o,ha,hr,hb=>⟨o,by
     rw[vy,Qt hg,List.sum_nil]
     have:acc+0=acc:=by grind
     rw[this]⟩
 |r::rs,acc,m,o,ha,hr,hb=>by
  have h1:=hr r uP
  have b1:(m+1)*B<=(m+(r::rs).length)*B:=vA _ (by simp)
  have mb:(m+1)*B=m*B+B:=by rw[Nat.succ_mul]
  have za:Sz K acc:=ha.sz hG gK (by lia)
  have zr:Sz K r:=h1.sz hG gK (by lia)
  have e:=hF S za zr (by lia)
  have ha2:Ok G ((m+1)*B) (acc+r):=by rw[mb];exact ha.add h1
  obtain⟨o',ih⟩:=Qy hF hg hG gK hK (X:=X) (B:=B) (rs:=rs) (acc:=acc+r) (m:=m+1) (o:=Fk (aD r)) ha2 (λq hq=>hr q (uJ _ hq)) (by
   have:m+1+rs.length=m+(r::rs).length:=by simp;lia
   rw[this];exact hb)
  refine⟨o',?_⟩
  have ea:acc+(r::rs).sum=acc+r+rs.sum:=by rw[wZ];grind
  rw[ui,Mb hg,ea,<-ih]
  simp[e]
theorem Wa:aD 0=.tup [.int 0,.int 1]:=rfl
noncomputable def ownAt(x:Ld)(p:Nat):Rat:=x.ow.getD p 0
structure Bd(ls:Gc Ld)(G B N K:Nat):Prop where
 g0:0<G
 gK:G<2^K
 hK:2*K<=7000
 own:∀l∈ls,∀r∈l.ow,Ok G B r
 pcs:∀l∈ls,0<=l.n/\l.n<=N
 hB:B<2^K
 hN:N<2^K
 hb:200*(B*N)<2^K
 len:ls.length<=30
section
variable{S:Sto}{ls:Gc Ld}{G B N K:Nat}
theorem Bd.at(h:Bd ls G B N K){x:Ld}(hx:x∈ls)(p:Nat):Ok G B (ownAt x p):=by
 unfold ownAt
 rw[uM]
 cases e:x.ow[p]? with
 |none=>exact Ok.zero
 |some r=>exact h.own x hx r (uY e)
theorem Bd.mul(h:Bd ls G B N K){x:Ld}(hx:x∈ls)(p:Nat):Ok G (B*N) ((x.n:Rat)*ownAt x p):=(h.at hx p).pF (h.pcs x hx).1 (h.pcs x hx).2
theorem Bd.nSz(h:Bd ls G B N K){x:Ld}(hx:x∈ls):Sz K (x.n:Rat):=by
 have o:=Ok.int (G:=1) (h.pcs x hx).1 (h.pcs x hx).2
 refine o.sz (by decide) ?_ (by rw[Nat.one_mul];exact h.hN)
 have:=h.gK;have:=h.g0;lia
theorem YU{n:Nat}:J6 0 (n:Int).toNat=(uU n).map λ(i:Nat)=>D.int i:=by simp[J6]
end
section
variable{S:Sto}{t:Tr}{ls:Gc Ld}{ds:Gc Ab}{n:Nat}
theorem cc{x:Ld}{p:Nat}(h:p<x.ow.length):atI (x.ow.map aD) (p:Int)=Fk (aD (ownAt x p)):=CH (by
 rw[uQ,W1 h]
 simp[ownAt,uM,W1 h])
end
section
variable{S:Sto}
theorem aJ{rs:Gc Rat}{G B K:Nat}(hG:0<G)(gK:G<2^K)(hK:2*K<=7990)(hr:∀r∈rs,Ok G B r)(hb:rs.length*B<2^K):L3 [.lst (rs.map aD)] S=Fk (aD rs.sum,S):=by
 obtain⟨o',e⟩:=Qy (F:=Gz) (λS h1 h2 h3=>fO h1 h2 h3) (gs:=[]) (S:=S) Au (X:=Fk (.lst (rs.map aD))) (B:=B) hG gK hK (rs:=rs) (acc:=0) (m:=0) (o:=uC) (by rw[Nat.zero_mul];exact Ok.zero) hr (by simpa using hb)
 have ez:(0:Rat)+rs.sum=rs.sum:=by grind
 rw[ez,Wa]at e
 simp[L3,Rg,GY,e]
end
section
variable{S:Sto}
theorem dq{rs:Gc Rat}{G B K:Nat}(hG:0<G)(gK:G<2^K)(hK:2*K<=7990)(hr:∀r∈rs,Ok G B r)(hb:rs.length*B<2^K):MF [.lst (rs.map aD)] S=Fk (aD rs.sum,S):=by
 obtain⟨o',e⟩:=Qy (F:=CO) (λS h1 h2 h3=>TB h1 h2 h3) (gs:=[]) (S:=S) Au (X:=Fk (.lst (rs.map aD))) (B:=B) hG gK hK (rs:=rs) (acc:=0) (m:=0) (o:=uC) (by rw[Nat.zero_mul];exact Ok.zero) hr (by simpa using hb)
 have ez:(0:Rat)+rs.sum=rs.sum:=by grind
 rw[ez,Wa]at e
 simp[MF,Ry,e]
end
noncomputable def wl(ws:Gc Int)(L:Gc Ld):Gc Ld:=L.map λx=>{x with n:=x.n*ws.getD x.k 0}
noncomputable def cV(L:Gc Ld)(p:Nat):Rat:=(L.map λx=>(x.n:Rat)*ownAt x p).sum
noncomputable def bw(t:Tr)(ws:Gc Int):Int:=t.b*ws.getD t.k 0
noncomputable def FV(t:Tr)(s:Stt)(ws:Gc Int)(p:Nat):Rat:=cV (wl ws s.AE) p+(bw t ws:Rat)*s.hold.getD p 0
structure Tw(t:Tr)(ws:Gc Int):Prop where
 len:ws.length=t.k+1
 b:∀w∈ws,1<=w/\w<=99
section
variable{S:Sto}{t:Tr}{ls L:Gc Ld}{ds:Gc Ab}{s:Stt}{ws:Gc Int}{k n p:Nat}
theorem Tw.at(h:Tw t ws){j:Nat}(hj:j<=t.k):atI (ws.map D.int) (j:Int)=Fk (.int (ws.getD j 0))/\1<=ws.getD j 0/\ws.getD j 0<=99:=by
 have hl:j<ws.length:=by rw[h.len];omega
 have e:ws.getD j 0=ws[j]:=by rw[uM,W1 hl];rfl
 refine⟨CH (by rw[uQ,W1 hl,e];rfl),?_⟩
 rw[e]
 exact h.b _ (v3 hl)
theorem Tw.last(h:Tw t ws):atI (ws.map D.int) (-1)=Fk (.int (ws.getD t.k 0)):=by
 have ix:ixN (ws.map D.int).length (-1)=Fk t.k:=by
  rw[vL,h.len]
  unfold ixN
  simp
  omega
 have hl:t.k<ws.length:=by rw[h.len];omega
 unfold atI
 rw[ix]
 show(ws.map D.int)[t.k]?=_
 rw[uQ,W1 hl,uM,W1 hl]
 rfl
structure WBd(t:Tr)(s:Stt)(ws:Gc Int)(G B N K:Nat):Prop where
 bd:Bd (wl ws s.AE) G B N K
 ho:∀r∈s.hold,Ok G B r
 n2:2000<=N
theorem GC.wbd(h:GC t k s)(hk:k<=16)(hw:Tw t ws):∃G B N K,WBd t s ws G B N K:=by
 obtain⟨G,B,g0,gb,b,h1,h2⟩:=h.gb
 have hB:B<2^2750:=uG b (um (by decide) (by omega))
 have hB':B<2^3000:=uG hB (um (by decide) (by decide))
 have hN:(2^154:Nat)<2^155:=AA2 (by decide) (by decide)
 refine⟨G,B,2^154,3000,⟨g0,vT gb hB',by decide,λl hl=>?_,λl hl=>?_,hB',uG hN (um (by decide) (by decide)),?_,by have:=h.len;simp[wl];omega⟩,h2,by decide⟩
 .obtain⟨x,hx,rfl⟩:=uk.mp hl
  exact h1 x hx
 .obtain⟨x,hx,rfl⟩:=uk.mp hl
  have:=h.pcs x hx
  obtain⟨_,w1,w2⟩:=hw.at (j:=x.k) (by have:=h.kind x hx;omega)
  have e:(2:Int)^(131+k)<=2^147:=by
   have:(2:Nat)^(131+k)<=2^147:=um (by decide) (by omega)
   exact_mod_cast this
  generalize ws.getD x.k 0=w at*
  refine⟨yk this.1 (by omega),?_⟩
  have:x.n*w<=2^147*99:=yl (by omega) w2 (by omega) (by decide)
  have h3:(2:Int)^147*99<=((2^154:Nat):Int):=by exact_mod_cast (show(2:Nat)^147*99<=2^154 by decide)
  exact Int.le_trans this h3
 .have:=Cv (show 200<2^8 by decide) (Cv hB hN)
  exact uG this (um (by decide) (by decide))
theorem YK{x:Ld}:cV (x::L) p=(x.n:Rat)*ownAt x p+cV L p:=by
 unfold cV
 rw[ui,wZ]
theorem YE{G C:Nat}:∀{L:Gc Ld},(∀l∈L,Ok G C ((l.n:Rat)*ownAt l p))->Ok G (L.length*C) (cV L p)
 | [],_=>Ok.zero
 |x::L,h=>by
  rw[YK]
  have ih:=YE (L:=L) λl hl=>h l (uJ _ hl)
  have:=(h x uP).add ih
  rw[vJ,Nat.succ_mul,AAM]
  exact this
theorem WBd.all{G B N K:Nat}(h:WBd t s ws G B N K):Ok G (30*(B*N)) (cV (wl ws s.AE) p):=(YE λl hl=>h.bd.mul hl p).mono (vA _ h.bd.len)
theorem WBd.hAt{G B N K:Nat}(h:WBd t s ws G B N K):Ok G B (s.hold.getD p 0):=by
 rw[uM]
 cases e:s.hold[p]? with
 |none=>exact Ok.zero
 |some r=>exact h.ho r (uY e)
theorem ZF(ht:Kg t)(hw:Tw t ws):0<=bw t ws/\bw t ws<=2000:=by
 obtain⟨t1,t2,t3,t4,t5,t6⟩:=ht
 obtain⟨_,w1,w2⟩:=hw.at (j:=t.k) (uN _)
 unfold bw
 generalize ws.getD t.k 0=w at*
 refine⟨yk (by omega) (by omega),?_⟩
 have:(t.b:Int)*w<=20*99:=yl (by omega) w2 (by omega) (by decide)
 omega
theorem WBd.hol{G B N K:Nat}(h:WBd t s ws G B N K)(ht:Kg t)(hw:Tw t ws):Ok G (B*N) ((bw t ws:Rat)*s.hold.getD p 0):=h.hAt.pF (N:=N) (ZF ht hw).1 (by have:=(ZF ht hw).2;have:=h.n2;omega)
theorem WBd.worth{G B N K:Nat}(h:WBd t s ws G B N K)(ht:Kg t)(hw:Tw t ws):Ok G (31*(B*N)) (FV t s ws p):=by
 have:=h.all (p:=p)|>.add (h.hol ht hw (p:=p))
 rw[show 31*(B*N)=30*(B*N)+B*N by omega]
 exact this
theorem RX{G B N K:Nat}(ht:Kg t)(hw:Tw t ws)(hv:GC t k s)(h:WBd t s ws G B N K)(hp:p<t.p):B8 [t.d,.tup [Bl s.AE,K6 s.AE,shD s.hold],.tup (ws.map .int),.int p] S=Fk (aD (FV t s ws p),S):=by
 have hK:=h.bd.hK
 have e:=Ea (gs:=[]) (t:=tTp [tTp [tNm 3,tNm 4],tNm 2]) (f:=AJ ES [Cm [eOp (o2 CD) [eV 4,eOp (o2 wIx) [eV 0,eV 3]],eC (.int 1)],eOp (o2 wIx) [eV 2,eV 1]]) (C:=[Fk (.tup (ws.map .int)),Fk (.int p)]) (m:=3) (e:=λx:Ld=>D.tup [hD x,shD x.ow]) (g:=λx=>aD (((x.n*ws.getD x.k 0:Int):Rat)*ownAt x p)) (S:=S) Au (xs:=s.AE) (acc:=[]) (os:=[uC,uC,uC]) rfl (uO (show _<=50 by have:=h.bd.len;simp[wl]at this;simp;omega) (AN (by decide))) (by
  intro x hx os ho
  obtain⟨o1,o2,o3,rfl⟩:∃o1 o2 o3,os=[o1,o2,o3]:=by
   match os,ho with
   | [a,b,c],_=>exact⟨a,b,c,rfl⟩
  obtain⟨a1,w1,w2⟩:=hw.at (j:=x.k) (by have:=hv.kind x hx;omega)
  have hy:({x with n:=x.n*ws.getD x.k 0}:Ld)∈wl ws s.AE:=uk.mpr ⟨x,hx,rfl⟩
  have tm:=Xe (S:=S) (h.bd.nSz hy) ((h.bd.at hy p).sz h.bd.g0 h.bd.gK h.bd.hB) (by omega)
  rw[Rm]at tm
  have a2:=cc (x:=x) (p:=p) (by rw[hv.own x hx];exact hp)
  have m1:DZ x.n (ws.getD x.k 0)=true:=mulR (by omega) (by omega)
  refine⟨[Fk (shD x.ow),Fk (.int x.k),Fk (.int x.n)],rfl,by simp,?_⟩
  simp only[shD]at*
  have tm':ES [.tup [.int (x.n*ws.getD x.k 0),.int 1],aD (ownAt x p)] S=Fk (aD (((x.n*ws.getD x.k 0:Int):Rat)*ownAt x p),S):=tm
  generalize aD (((x.n*ws.getD x.k 0:Int):Rat)*ownAt x p)=D1 at*
  generalize aD (ownAt x p)=D2 at*
  generalize ws.getD x.k 0=w at*
  simp[a1,m1,a2,tm'])
 have ez:Nt (s.AE.map hD) (s.AE.map λx=>shD x.ow)=s.AE.map λx=>.tup [hD x,shD x.ow]:=by
  unfold Nt
  rw[List.zip_map',vZ]
  rfl
 rw[<-ez]at e
 have em:s.AE.map (λx=>aD (((x.n*ws.getD x.k 0:Int):Rat)*ownAt x p))=((wl ws s.AE).map λx=>(x.n:Rat)*ownAt x p).map aD:=by
  unfold wl
  rw[vZ,vZ]
  rfl
 rw[em]at e
 have tt:=aJ (S:=S) (rs:=(wl ws s.AE).map λx=>(x.n:Rat)*ownAt x p) (B:=B*N) h.bd.g0 h.bd.gK (by omega) (λr hr=>by
  obtain⟨x,hx,rfl⟩:=uk.mp hr
  exact h.bd.mul hx p) (by
  have l1:=h.bd.len
  have:=vA (B*N) l1
  have:=h.bd.hb
  rw[vL]
  omega)
 obtain⟨_,w1,w2⟩:=hw.at (j:=t.k) (uN _)
 have la:=hw.last
 obtain⟨b0,b1⟩:=ZF ht hw
 have ah:atI (s.hold.map aD) (p:Int)=Fk (aD (s.hold.getD p 0)):=CH (by
  have hl:p<s.hold.length:=by rw[hv.hold];exact hp
  rw[uQ,W1 hl,uM,W1 hl];rfl)
 have zN:B*N<2^K:=by have:=h.bd.hb;omega
 have t2:=Xe (S:=S) (Um (n:=bw t ws) (k:=11) (show _<2048 by omega) (by decide)) (h.hAt (p:=p)|>.sz h.bd.g0 h.bd.gK h.bd.hB) (by omega)
 rw[Rm]at t2
 have pl:=fO (S:=S) (h.all (p:=p)|>.sz h.bd.g0 h.bd.gK (by have:=h.bd.hb;omega)) (h.hol ht hw (p:=p)|>.sz h.bd.g0 h.bd.gK zN) (by omega)
 have m2:DZ (t.b:Int) (ws.getD t.k 0)=true:=mulR (by omega) (by omega)
 have pl':Gz [aD (((wl ws s.AE).map λx=>(x.n:Rat)*ownAt x p).sum),aD ((bw t ws:Rat)*s.hold.getD p 0)] S=Fk (aD (FV t s ws p),S):=pl
 have dh:∀T,sqD T (Bl s.AE)=Fk (s.AE.map hD,[]):=λ_=>nr rfl
 have dO:∀T,sqD T (K6 s.AE)=Fk (s.AE.map (λx=>shD x.ow),[]):=λ_=>nr rfl
 have t2':ES [.tup [.int ((t.b:Int)*ws.getD t.k 0),.int 1],aD (s.hold.getD p 0)] S=Fk (aD ((bw t ws:Rat)*s.hold.getD p 0),S):=t2
 have as1:asS (.val t.d)=Fk [.int t.p,.int t.k,.int t.b,shD t.ho,.int t.h,.int t.l]:=rfl
 have dt:∀T,dr T t.d=.val t.d:=λ_=>rfl
 simp only[vK,uz]at e
 generalize aD (FV t s ws p)=D1 at*
 generalize aD ((bw t ws:Rat)*s.hold.getD p 0)=D2 at*
 generalize aD (s.hold.getD p 0)=D3 at*
 generalize aD (((wl ws s.AE).map λx=>(x.n:Rat)*ownAt x p).sum)=D4 at*
 generalize ((wl ws s.AE).map λx=>(x.n:Rat)*ownAt x p).map aD=V at*
 generalize ws.getD t.k 0=w at*
 rw[show shD s.hold=.tup (s.hold.map aD)from rfl]
 generalize s.hold.map aD=HM at*
 simp[B8,Jj,dh,dO,Pa,e,tt,as1,dt,la,m2,ah,t2',pl']
end
section
variable{S:Sto}{t:Tr}{ls L:Gc Ld}{ds:Gc Ab}{n i l:Nat}{m:Int}{ws:Gc Int}
theorem Vs(h:BP t ls ds)(hn:n<=ds.length):JR [Ae t ls ds,.int n] S=Fk (Bl (runs t (st0 t ls) (ds.take n)).AE,S):=by
 have hl0:ls.length<=4:=h.inv.len
 have hd:=h.len
 have ct:=Nd (ds:=ds.map Ab.d) (n:=n) (by simp;omega)
 obtain⟨E',S',ef,i,o,f1,f2,rfl,rfl⟩:=EI (gs:=[]) (t:=tNm 3) (b:=BQ 2 (AJ Aq [eV 2,eV 3]))
  (I:=λrs E S'=>∃(i:Nat) (o:uD D),rs=((ds.take n).drop i).map Ab.d/\i<=n/\E=[Fk (Ae t ls ds),Fk (.int n),Fk (Bl (runs t (st0 t ls) (ds.take i)).AE),o]/\S'=S)
  (λ_ _ _ _=>Au) (ds:=(ds.take n).map Ab.d) (E:=[Fk (Ae t ls ds),Fk (.int n),Fk (Bl ls),uC]) (S:=S)
  ⟨0,uC,by simp,wR _,by simp[runs,st0],rfl⟩ (by
    rintro dd rs E T ⟨i,o,i1,i2,rfl,rfl⟩
    have hlt:i<(ds.take n).length:=by
     rcases xQ i (ds.take n).length with w|w
     .exact w
     .rw[vX w]at i1;cases i1
    rw[uy hlt,ui]at i1
    injection i1 with z1 z2
    subst z1 z2
    have hlt':i<ds.length:=by simp at hlt;omega
    have hin:i<n:=by simp at hlt;omega
    have hg:(ds.take n)[i]=ds[i]:=List.getElem_take
    rw[hg]
    have can:=GD h.good (W1 hlt')
    have il:(ds.take i).length<=16:=by simp;omega
    have e3:=N7 (S:=T) (h.at i) (by omega) can
    have rt:=KU (t:=t) (st:=st0 t ls) (W1 hlt')
    refine⟨_,[Fk (Ae t ls ds),Fk (.int n),Fk (Bl (runs t (st0 t ls) (ds.take (i+1))).AE),Fk ds[i].d],T,by simp;rfl,?_,i+1,Fk ds[i].d,rfl,hin,rfl,rfl⟩
    rw[rt]
    simp[e3])
 have hz:i=n:=by
  have:=congrArg xf f1
  simp at this
  omega
 subst hz
 have fh:=MX (S:=S') (ls:=ls) (x:=t.d) (y:=.tup (ds.map Ab.d)) (by omega)
 simp only[Ae]at ef⊢
 rw[zu]at ef
 simp[JR,OH,fh,ct,ef]
theorem Va{n l:Nat}{m:Int}{ws:Gc Int}(h:BP t ls ds)(hn:ds[n]?=Fk (.thr l m ws)):DM [Ae t ls ds,.int n] S=Fk (aD (KQ t (runs t (st0 t ls) (ds.take n)).AE l m ws),S):=by
 have hlt:n<ds.length:=(uL.mp hn).1
 have hb:=Vs (S:=S) h (n:=n) (by omega)
 have r1:=JA (S:=S) h
 have inv:=h.at n
 have il:(ds.take n).length<=16:=by have:=h.len;simp;omega
 have pt:=Wf (S:=S) h.tr inv (by omega) (GD h.good hn)
 have k1:St.Kd.int.isA "int"=true:=by decide
 have k2:St.Kd.int.isA "bool"=false:=by decide
 have h1:(n:Int)<=ds.length-1:=by omega
 have at1:atI (ds.map Ab.d) (n:Int)=Fk (Ab.thr l m ws).d:=CH (by rw[uQ,hn];rfl)
 generalize KQ t (runs t (st0 t ls) (ds.take n)).AE l m ws=X at*
 have rf:Ag [Ae t ls ds,.int n] S=Fk (.non,S):=by
  simp[Ag,DF,Bk,Dq,E9,ID,k1,k2,DH,FK,Fi,JY,Ck,GQ,Ae,kdW,h1,at1,Ab.d]
 simp only[Ae]at hb r1 rf⊢
 simp[DM,LK,r1,rf,hb,at1,pt]
theorem OK(hn:ds[i]?=Fk (.thr l m ws)):Ag [Ae t ls ds,.int i] S=Fk (.non,S):=by
 have hlt:i<ds.length:=(uL.mp hn).1
 have k1:St.Kd.int.isA "int"=true:=by decide
 have k2:St.Kd.int.isA "bool"=false:=by decide
 have h1:(i:Int)<=ds.length-1:=by omega
 have at1:atI (ds.map Ab.d) (i:Int)=Fk (Ab.thr l m ws).d:=CH (by rw[uQ,hn];rfl)
 simp[Ag,DF,Bk,Dq,E9,ID,k1,k2,DH,FK,Fi,JY,Ck,GQ,Ae,kdW,h1,at1,Ab.d]
noncomputable def pairD(t:Tr)(s s':Stt)(ws:Gc Int)(p:Nat):D:=.tup [aD (FV t s ws p),aD (FV t s' ws p)]
theorem Kc(h:BP t ls ds)(hn:ds[i]?=Fk (.thr l m ws)):∃S',CZ [Ae t ls ds,.int i] S=Fk (.tup ((uU t.p).map (pairD t (runs t (st0 t ls) (ds.take i)) (runs t (st0 t ls) (ds.take (i+1))) ws)),S')/\Ce [] S S':=by
 have hlt:i<ds.length:=(uL.mp hn).1
 obtain⟨S1,e1,s1⟩:=VP (S:=S) h (n:=i) (by omega)
 obtain⟨S2,e2,s2⟩:=VP (S:=S1) h (n:=i+1) (by omega)
 have can:=GD h.good hn
 have hw:Tw t ws:=⟨can.2.2.2.1,can.2.2.2.2⟩
 have inv:=h.at i
 have inv':=h.at (i+1)
 have il:(ds.take i).length<=16:=by have:=h.len;simp;omega
 have il':(ds.take (i+1)).length<=16:=by have:=h.len;simp;omega
 obtain⟨G,B,N,K,bd⟩:=inv.wbd il hw
 obtain⟨G',B',N',K',bd'⟩:=inv'.wbd il' hw
 generalize runs t (st0 t ls) (ds.take i)=st at*
 generalize runs t (st0 t ls) (ds.take (i+1))=st' at*
 obtain⟨t1,t2,t3,t4,t5,t6⟩:=h.tr
 have hq:(S2++[Cl.lst []])[S2.length]?=Fk (.lst []):=ua
 have lS:=(s1.trans s2).len
 generalize hQ:S2.length=q at*
 have at1:atI (ds.map Ab.d) (i:Int)=Fk (Ab.thr l m ws).d:=CH (by rw[uQ,hn];rfl)
 obtain⟨E',S',ef,j,o,f1,f2,rfl,f3,f4⟩:=EI (gs:=[]) (t:=tNm 7) (b:=Bm (Le L9 (eV 6) [Cm [AJ B8 [eV 2,eV 4,eV 3,eV 7],AJ B8 [eV 2,eV 5,eV 3,eV 7]]]))
  (I:=λrs E S'=>∃(j:Nat) (o:uD D),rs=((uU t.p).drop j).map (λ(i:Nat)=>D.int i)/\j<=t.p/\E=[Fk (Ae t ls ds),Fk (.int i),Fk t.d,Fk (.tup (ws.map .int)),Fk (.tup [Bl st.AE,K6 st.AE,shD st.hold]),Fk (.tup [Bl st'.AE,K6 st'.AE,shD st'.hold]),Fk (.ref q),o]/\S'[q]?=Fk (.lst ((uU j).map (pairD t st st' ws)))/\Ce [] S S')
  (λ_ _ _ _=>Au) (ds:=(uU t.p).map λ(i:Nat)=>D.int i) (E:=[Fk (Ae t ls ds),Fk (.int i),Fk t.d,Fk (.tup (ws.map .int)),Fk (.tup [Bl st.AE,K6 st.AE,shD st.hold]),Fk (.tup [Bl st'.AE,K6 st'.AE,shD st'.hold]),Fk (.ref q),uC]) (S:=S2++[Cl.lst []])
  ⟨0,uC,by simp,wR _,rfl,by simpa using hq,(s1.trans s2).trans .app⟩ (by
    rintro dd rs E T ⟨j,o,i1,i2,rfl,i3,i4⟩
    have hlt:j<t.p:=by
     rcases xQ j t.p with w|w
     .exact w
     .rw[vX (by simpa using w)]at i1;cases i1
    rw[uy (by simpa using hlt),ui,ABU]at i1
    injection i1 with z1 z2
    subst z1 z2
    have w1:=RX (S:=T) h.tr hw inv bd hlt
    have w2:=RX (S:=T) h.tr hw inv' bd' hlt
    have cq:=AY i3
    have e3:(uU (j+1)).map (pairD t st st' ws)=(uU j).map (pairD t st st' ws)++[pairD t st st' ws j]:=by
     rw[AAc,wU];rfl
    have hz:((uU j).map (pairD t st st' ws)).length<sizeLine:=uG (show _<50 by simp;omega) (AN (by decide))
    have lq:=i4.len
    refine⟨_,[Fk (Ae t ls ds),Fk (.int i),Fk t.d,Fk (.tup (ws.map .int)),Fk (.tup [Bl st.AE,K6 st.AE,shD st.hold]),Fk (.tup [Bl st'.AE,K6 st'.AE,shD st'.hold]),Fk (.ref q),Fk (.int j)],T.set q (.lst ((uU (j+1)).map (pairD t st st' ws))),by simp;rfl,?_,j+1,_,rfl,hlt,rfl,uS (Ad i3),Ce.new (A:=[]) (B:=[q]) i4 (.set (by simp)) (by intro n hn';simp at hn';omega)⟩
    rw[e3]
    unfold pairD at hz cq⊢
    generalize aD (FV t st ws j)=D1 at*
    generalize aD (FV t st' ws j)=D2 at*
    generalize ((uU j).map λp=>D.tup [aD (FV t st ws p),aD (FV t st' ws p)])=V at*
    simp[cq,w1,w2,hz])
 have hz:j=t.p:=by
  have:=congrArg xf f1
  simp at this
  omega
 subst hz
 have df:=BE f3
 refine⟨S',?_,f4⟩
 have rk:Jn (t.p:Int)=true:=DY (by omega) (by omega)
 have as1:asS (.val t.d)=Fk [.int t.p,.int t.k,.int t.b,shD t.ho,.int t.h,.int t.l]:=rfl
 have dt:∀T,dr T t.d=.val t.d:=λ_=>rfl
 rw[<-YU]at ef
 simp only[xp]at ef
 rw[show((i+1:Nat):Int)=(i:Int)+1 from rfl]at e2
 simp only[Ae]at e1 e2 ef⊢
 simp only[Ab.d]at at1
 generalize (uU t.p).map (pairD t st st' ws)=V at*
 simp[CZ,Je,at1,e1,e2,hQ,as1,dt,rk,ef,df]
theorem VY(h:BP t ls ds)(hn:ds[i]?=Fk (.thr l m ws)):∃S',DN [Ae t ls ds,.int i] S=Fk (.tup ((uU t.p).map (pairD t (runs t (st0 t ls) (ds.take i)) (runs t (st0 t ls) (ds.take (i+1))) ws)),S')/\Ce [] S S':=by
 obtain⟨S1,e1,s1⟩:=Kc (S:=S) h hn
 have r1:=JA (S:=S) h
 have r2:=OK (S:=S) (t:=t) (ls:=ls) hn
 exact⟨S1,by simp[DN,LI,r1,r2,e1],s1⟩
end
section
variable{S:Sto}{t:Tr}{ls:Gc Ld}{ds:Gc Ab}{st:Stt}{p s l m k q:Nat}{as:Gc Nat}
def Xn:Ex:=(Aa (BQ 8 (C9 [] 2 (YZ (eOp (o2 wIx) [eV 5,eC (.int 0)])) (tTp [tNm 0,tNm 1]) (eOp (o2 wGt) [eOp (o2 wIx) [eV 1,eC (.int 1)],eC (.int 0)]) (eV 0)))
    (Aa (BQ 6 (Cm [eC (.str "bring"),AJ AI [eV 0,eOp (o2 wIx) [eV 2,eC (.int 0)]],AJ AI [eV 0,eOp (o2 wIx) [eV 2,eC (.int 1)]],AJ BL [eV 0]]))
    (xIf (eOp (o2 wNe) [eV 8,Fh []]) (Aa (BQ 9 (eOp (o2 wIx) [eV 8,AJ AI [eV 0,eOp (o1 Jq) [eV 8]]]))
    (Aa (BQ 10 (eOp (o2 wIx) [Fh [eOp (o2 CJ) [eC (.int 1),AJ AI [eV 0,eOp (o2 Z0) [eOp (o2 wIx) [eOp (o2 wIx) [eOp (o2 wIx) [eV 5,eC (.int 0)],eV 9],eC (.int 1)],eC (.int 999)]]],eOp (o2 wIx) [eOp (o2 wIx) [eOp (o2 wIx) [eV 5,eC (.int 0)],eV 9],eC (.int 1)]],AJ AI [eV 0,eC (.int 2)]]))
    (BQ 6 (Cm [eC (.str "throw"),eV 9,eV 10,AJ Cj [eV 0,eOp (o2 CJ) [eOp (o2 wIx) [eV 2,eC (.int 1)],eC (.int 1)]]])))) D5)))
theorem eR(hp:CQ p S)(hS:SAt S s l m as st)(hps:p∉s::l::m::as)(ht:Kg t)(h:GC t k st)(hk:k<=16){a1 a3 a4 o6 o7 o8 o9 o10:uD D}:∃d u8 u9 u10 S',Xn [Fk (.ref p),a1,Fk t.d,a3,a4,Fk (.ref s),o6,o7,o8,o9,o10] S=Fk (.nx,[Fk (.ref p),a1,Fk t.d,a3,a4,Fk (.ref s),Fk (Ab.d d),o7,u8,u9,u10],S')/\Pn p S S'/\Can t st d:=by
 obtain⟨t1,t2,t3,t4,t5,t6⟩:=ht
 have hlen:=h.len
 have st':∀{S':Sto},Pn p S S'->SAt S' s l m as st:=λg=>hS.same g.same (by simpa using hps)
 have r0:=BE hS.root
 have cf:=Xy hS (by omega)
 have fl:=Nm (st:=st)
 have sq:=Hh hS.lo
 have okF:=ML (is:=By st)
 have dqF:=Nj (is:=By st)
 obtain⟨x2,S2,e2,a2,b2,p2⟩:=Aj hp (n:=t.p) (by omega) (by omega)
 obtain⟨x3,S3,e3,a3',b3,p3⟩:=Aj p2.pen (n:=t.k) (by omega) (by omega)
 obtain⟨x4,S4,e4,p4,a4',b4⟩:=Kh p3.pen
 obtain⟨x2,rfl⟩:=HJ a2
 obtain⟨x3,rfl⟩:=HJ a3'
 have p24:=(p2.trans p3).trans p4
 have as1:asS (.val t.d)=Fk [.int t.p,.int t.k,.int t.b,shD t.ho,.int t.h,.int t.l]:=rfl
 have dt:∀T,dr T t.d=.val t.d:=λ_=>rfl
 cases hf:(By st).isEmpty with
 |true=>
  refine⟨.Iq x2 x3 x4,Fk (.lst (Ht (By st))),o9,o10,S4,?_,p24,by omega,by omega,a4',b4⟩
  simp[Xn,r0,sq,Pa,cf,as1,dt,e2,e3,e4,okF,dqF,hf,Ab.d]
 |false=>
  have hfl:0<(By st).length:=by
   cases z:By st with
   |nil=>rw[z]at hf;cases hf
   |cons a b=>simp
  obtain⟨rl,S5,e5,a5,b5,p5⟩:=Aj p4.pen (n:=(By st).length) (by omega) (by omega)
  obtain⟨i,mi,ei⟩:=Ls a5 b5
  have fi:=Lo mi
  have n1:=fi.2
  have hS5:=st' (p24.trans p5)
  obtain⟨a,x1,y2,y3⟩:=hS5.at fi.1
  obtain⟨rs,S6,e6,a6,b6,p6⟩:=Aj p5.pen (n:=if 999<(AU st.AE i).n then 999 else(AU st.AE i).n) (by split<;>omega) (by split<;>omega)
  have hS6:=st' ((p24.trans p5).trans p6)
  obtain⟨r2,S7,e7,a7,b7,p7⟩:=Aj p6.pen (n:=2) (by decide) (by decide)
  obtain⟨ws,S8,e8,p8,w1,w2⟩:=SF p7.pen (n:=t.k+1) (by omega)
  rw[show((t.k+1:Nat):Int)=(t.k:Int)+1 from rfl]at e8
  have lo5:=BE hS5.lo
  have lo6:=BE hS6.lo
  have root5:=BE hS5.root
  have root6:=BE hS6.root
  have y2':=BE y2
  have y4:S6[a]?=Fk (Cq (AU st.AE i)):=hS6.ld i a _ x1 (G4 fi.1)
  have y4':=BE y4
  have nl:=J0 (is:=By st)
  obtain⟨v,ev,v1,v2⟩:∃v:Int,atI [D.int (1+rs),.int (AU st.AE i).n] r2=Fk (.int v)/\1<=v/\v<=(AU st.AE i).n:=by
   have hr:r2=0\/r2=1:=by omega
   rcases hr with rfl|rfl
   .exact⟨1+rs,by simp,by omega,by split at b6<;>omega⟩
   .exact⟨_,by simp,by omega,zm _⟩
  refine⟨.thr i v ws,Fk (.lst (Ht (By st))),Fk (.int i),Fk (.int v),S8,?_,(((p24.trans p5).trans p6).trans p7).trans p8,fi.1,v1,v2,w1,w2⟩
  simp[Xn,r0,sq,Pa,cf,as1,dt,e2,e3,e4,okF,dqF,hf,nl,e5,ei,root5,lo5,y3,y2',e6,root6,lo6,y4',Cq,e7,ev,e8,Ab.d]
end
section
variable{S:Sto}{t:Tr}{ls:Gc Ld}{ds:Gc Ab}{st:Stt}{p s l m k q:Nat}{as:Gc Nat}
theorem CQ.keep{A:Gc Nat}{S':Sto}(h:CQ p S)(g:Ce A S S')(hp:p∉A):CQ p S':=by
 obtain⟨ds,e,hd⟩:=h
 exact⟨ds,g.get e hp,hd⟩
theorem ME{as2:Gc Nat}(hp:p∉s::l::m::as)(hl:p<S.length)(h:∀n∈as2,n∈as\/S.length<=n):p∉s::l::m::as2:=by
 intro z
 simp only[uI]at z hp
 rcases z with z|z|z|z
 .exact hp (.inl z)
 .exact hp (.inr (.inl z))
 .exact hp (.inr (.inr (.inl z)))
 .rcases h _ z with w|w
  .exact hp (.inr (.inr (.inr w)))
  .omega
def ZG:Ex:=(Aa (BQ 8 (C9 [] 2 (YZ (eOp (o2 wIx) [eV 5,eC (.int 0)])) (tTp [tNm 0,tNm 1]) (eOp (o2 wGt) [eOp (o2 wIx) [eV 1,eC (.int 1)],eC (.int 0)]) (eV 0)))
    (Aa (BQ 6 (Cm [eC (.str "bring"),AJ AI [eV 0,eOp (o2 wIx) [eV 2,eC (.int 0)]],AJ AI [eV 0,eOp (o2 wIx) [eV 2,eC (.int 1)]],AJ BL [eV 0]]))
    (Aa (xIf (eOp (o2 wNe) [eV 8,Fh []]) (Aa (BQ 9 (eOp (o2 wIx) [eV 8,AJ AI [eV 0,eOp (o1 Jq) [eV 8]]]))
    (Aa (BQ 10 (eOp (o2 wIx) [Fh [eOp (o2 CJ) [eC (.int 1),AJ AI [eV 0,eOp (o2 Z0) [eOp (o2 wIx) [eOp (o2 wIx) [eOp (o2 wIx) [eV 5,eC (.int 0)],eV 9],eC (.int 1)],eC (.int 999)]]],eOp (o2 wIx) [eOp (o2 wIx) [eOp (o2 wIx) [eV 5,eC (.int 0)],eV 9],eC (.int 1)]],AJ AI [eV 0,eC (.int 2)]]))
    (BQ 6 (Cm [eC (.str "throw"),eV 9,eV 10,AJ Cj [eV 0,eOp (o2 CJ) [eOp (o2 wIx) [eV 2,eC (.int 1)],eC (.int 1)]]])))) D5)
    (Aa (Bm (AJ BH [eV 2,eV 5,eV 6]))
    (Bm (Le L9 (eV 4) [eV 6]))))))
theorem seq_assoc{x y z:Ex}{E:En}:Aa (Aa x y) z E S=Aa x (Aa y z) E S:=by
 rw[IF,IF,IF]
 cases e:x E S with
 |none=>rfl
 |some r=>
  obtain⟨f,E1,S1⟩:=r
  cases f with
  |nx=>rw[Bx,Bx,OV,OV,IF]
  |ret w=>rfl
theorem Zx{E:En}:ZG E S=Aa Xn (Aa (Bm (AJ BH [eV 2,eV 5,eV 6])) (Bm (Le L9 (eV 4) [eV 6]))) E S:=by
 unfold ZG Xn
 rw[seq_assoc,IF,IF]
 congr 1
 funext r
 obtain⟨f,E1,S1⟩:=r
 cases f with
 |nx=>rw[OV,OV,seq_assoc]
 |ret w=>rfl
theorem BP.snoc{d:Ab}(h:BP t ls ds)(hl:ds.length<16)(hc:Can t (runs t (st0 t ls) ds) d):BP t ls (ds++[d]):=⟨h.tr,h.inv,Mg h.good hc,by simp;omega⟩
theorem BP.fin(h:BP t ls ds):GC t ds.length (runs t (st0 t ls) ds):=by
 have:=h.at ds.length
 rwa [List.take_length]at this
end
def Pl:Nat->D->Prop
 |0,_=>wk
 |_+1,.int _=>True
 |m+1,.tup ds=>ds.length<=1000/\∀d∈ds,Pl m d
 |m+1,.lst ds=>ds.length<=1000/\∀d∈ds,Pl m d
 |_+1,_=>wk
theorem Ze{n:Nat}:IB (n+1)=Ar (A3 2 (Hx (Ec n))):=rfl
theorem To{n:Nat}:Ec (n+1)=Ar (A3 2 (Du (IB n))):=rfl
section
variable{S:Sto}
end
section
variable{S:Sto}{t:Tr}{ls L:Gc Ld}{ds:Gc Ab}{s:Stt}{ws:Gc Int}{k l p i:Nat}{n:Int}
theorem TF{G B N K:Nat}(ht:Kg t)(hw:Tw t ws)(hv:GC t k s)(h:WBd t s ws G B N K)(hp:p<t.p):Ee [t.d,.lst (s.AE.map Ld.d),shD s.hold,.tup (ws.map .int),.int p] S=Fk (aD (FV t s ws p),S):=by
 have hK:=h.bd.hK
 have e:=Ea (gs:=[]) (t:=tTp [tNm 2,tNm 3,tNm 4]) (f:=AJ Ax [Cm [eOp (o2 CD) [eV 3,eOp (o2 wIx) [eV 0,eV 2]],eC (.int 1)],eOp (o2 wIx) [eV 4,eV 1]]) (C:=[Fk (.tup (ws.map .int)),Fk (.int p)]) (m:=3) (e:=Ld.d) (g:=λx=>aD (((x.n*ws.getD x.k 0:Int):Rat)*ownAt x p)) (S:=S) Au (xs:=s.AE) (acc:=[]) (os:=[uC,uC,uC]) rfl (uO (show _<=50 by have:=h.bd.len;simp[wl]at this;simp;omega) (AN (by decide))) (by
  intro x hx os ho
  obtain⟨o1,o2,o3,rfl⟩:∃o1 o2 o3,os=[o1,o2,o3]:=by
   match os,ho with
   | [a,b,c],_=>exact⟨a,b,c,rfl⟩
  obtain⟨a1,w1,w2⟩:=hw.at (j:=x.k) (by have:=hv.kind x hx;omega)
  have hy:({x with n:=x.n*ws.getD x.k 0}:Ld)∈wl ws s.AE:=uk.mpr ⟨x,hx,rfl⟩
  have tm:=KO (S:=S) (h.bd.nSz hy) ((h.bd.at hy p).sz h.bd.g0 h.bd.gK h.bd.hB) (by omega)
  rw[Rm]at tm
  have a2:=cc (x:=x) (p:=p) (by rw[hv.own x hx];exact hp)
  have m1:DZ x.n (ws.getD x.k 0)=true:=mulR (by omega) (by omega)
  refine⟨[Fk (.int x.k),Fk (.int x.n),Fk (shD x.ow)],rfl,by simp[Ld.d],?_⟩
  simp only[shD]at*
  have tm':Ax [.tup [.int (x.n*ws.getD x.k 0),.int 1],aD (ownAt x p)] S=Fk (aD (((x.n*ws.getD x.k 0:Int):Rat)*ownAt x p),S):=tm
  generalize aD (((x.n*ws.getD x.k 0:Int):Rat)*ownAt x p)=D1 at*
  generalize aD (ownAt x p)=D2 at*
  generalize ws.getD x.k 0=w at*
  simp[a1,m1,a2,tm'])
 have em:s.AE.map (λx=>aD (((x.n*ws.getD x.k 0:Int):Rat)*ownAt x p))=((wl ws s.AE).map λx=>(x.n:Rat)*ownAt x p).map aD:=by
  unfold wl
  rw[vZ,vZ]
  rfl
 rw[em]at e
 obtain⟨_,w1,w2⟩:=hw.at (j:=t.k) (uN _)
 have la:=hw.last
 obtain⟨b0,b1⟩:=ZF ht hw
 have tt:=dq (S:=S) (rs:=((wl ws s.AE).map λx=>(x.n:Rat)*ownAt x p)++[(bw t ws:Rat)*s.hold.getD p 0]) (B:=B*N) h.bd.g0 h.bd.gK (by omega) (λr hr=>by
  rcases ub.mp hr with hr|hr
  .obtain⟨x,hx,rfl⟩:=uk.mp hr
   exact h.bd.mul hx p
  .rw[uo.mp hr]
   exact h.hol ht hw) (by
  have l1:=h.bd.len
  have:(((wl ws s.AE).map λx=>(x.n:Rat)*ownAt x p)++[(bw t ws:Rat)*s.hold.getD p 0]).length<=31:=by simp;omega
  have:=vA (B*N) this
  have:=h.bd.hb
  omega)
 have ev:(((wl ws s.AE).map λx=>(x.n:Rat)*ownAt x p)++[(bw t ws:Rat)*s.hold.getD p 0]).sum=FV t s ws p:=by
  rw[List.sum_append]
  show cV (wl ws s.AE) p+_=cV (wl ws s.AE) p+_
  rw[wZ,List.sum_nil]
  grind
 rw[ev,wU]at tt
 have ah:atI (s.hold.map aD) (p:Int)=Fk (aD (s.hold.getD p 0)):=CH (by
  have hl:p<s.hold.length:=by rw[hv.hold];exact hp
  rw[uQ,W1 hl,uM,W1 hl];rfl)
 have t2:=KO (S:=S) (Um (n:=bw t ws) (k:=11) (show _<2048 by omega) (by decide)) (h.hAt (p:=p)|>.sz h.bd.g0 h.bd.gK h.bd.hB) (by omega)
 rw[Rm]at t2
 have m2:DZ (t.b:Int) (ws.getD t.k 0)=true:=mulR (by omega) (by omega)
 have t2':Ax [.tup [.int ((t.b:Int)*ws.getD t.k 0),.int 1],aD (s.hold.getD p 0)] S=Fk (aD ((bw t ws:Rat)*s.hold.getD p 0),S):=t2
 have as1:asS (.val t.d)=Fk [.int t.p,.int t.k,.int t.b,shD t.ho,.int t.h,.int t.l]:=rfl
 have dt:∀T,dr T t.d=.val t.d:=λ_=>rfl
 have hz:(((wl ws s.AE).map λx=>(x.n:Rat)*ownAt x p).map aD).length+1<=sizeLine:=uO (show _<=50 by have:=h.bd.len;simp;omega) (AN (by decide))
 simp only[vK,uz,ui,vy]at e tt
 generalize aD (FV t s ws p)=D1 at*
 generalize aD ((bw t ws:Rat)*s.hold.getD p 0)=D2 at*
 generalize aD (s.hold.getD p 0)=D3 at*
 generalize ((wl ws s.AE).map λx=>(x.n:Rat)*ownAt x p).map aD=V at*
 generalize ws.getD t.k 0=w at*
 rw[show shD s.hold=.tup (s.hold.map aD)from rfl]
 generalize s.hold.map aD=HM at*
 generalize s.AE.map Ld.d=LD at*
 simp[Ee,OP,Pa,e,as1,dt,la,m2,ah,t2',hz,tt]
end
section
variable{S:Sto}{t:Tr}{ls:Gc Ld}{ds:Gc Ab}{ws:Gc Int}{l i:Nat}{n:Int}
theorem YV(h:BP t ls ds):∃q S' L,GF [Ae t ls ds] S=Fk (.ref q,S')/\S'[q]?=Fk (.lst L)/\(∀j,j<=ds.length->atI L (j:Int)=Fk (.tup [.lst ((runs t (st0 t ls) (ds.take j)).AE.map Ld.d),shD (runs t (st0 t ls) (ds.take j)).hold]))/\Ce [] S S':=by
 obtain⟨q,S',e,hq,sm⟩:=Vk (S:=S) h
 refine⟨q,S',_,e,hq,λj hj=>CH ?_,sm⟩
 rw[uQ,yG (by omega)]
 rfl
theorem UG(h:BP t ls ds)(hn:ds[i]?=Fk (.thr l n ws)):∃S',CI [Ae t ls ds,.int i] S=Fk (.tup ((uU t.p).map (pairD t (runs t (st0 t ls) (ds.take i)) (runs t (st0 t ls) (ds.take (i+1))) ws)),S')/\Ce [] S S':=by
 have hlt:i<ds.length:=(uL.mp hn).1
 obtain⟨qs,S1,L,e1,hqs,hL,s1⟩:=YV (S:=S) h
 have can:=GD h.good hn
 have hw:Tw t ws:=⟨can.2.2.2.1,can.2.2.2.2⟩
 have inv:=h.at i
 have inv':=h.at (i+1)
 have il:(ds.take i).length<=16:=by have:=h.len;simp;omega
 have il':(ds.take (i+1)).length<=16:=by have:=h.len;simp;omega
 obtain⟨G,B,N,K,bd⟩:=inv.wbd il hw
 obtain⟨G',B',N',K',bd'⟩:=inv'.wbd il' hw
 have L1:=hL i (by omega)
 have L2:=hL (i+1) (by omega)
 rw[show((i+1:Nat):Int)=(i:Int)+1 from rfl]at L2
 generalize runs t (st0 t ls) (ds.take i)=st at*
 generalize runs t (st0 t ls) (ds.take (i+1))=st' at*
 obtain⟨t1,t2,t3,t4,t5,t6⟩:=h.tr
 have hq:(S1++[Cl.lst []])[S1.length]?=Fk (.lst []):=ua
 have lS:=s1.len
 have lqs:=Ad hqs
 have hqs':(S1++[Cl.lst []])[qs]?=Fk (.lst L):=by rw[uH lqs];exact hqs
 generalize hQ:S1.length=q at*
 have hne:qs≠q:=by omega
 have at1:atI (ds.map Ab.d) (i:Int)=Fk (Ab.thr l n ws).d:=CH (by rw[uQ,hn];rfl)
 have as1:asS (.val t.d)=Fk [.int t.p,.int t.k,.int t.b,shD t.ho,.int t.h,.int t.l]:=rfl
 have dt:∀T,dr T t.d=.val t.d:=λ_=>rfl
 obtain⟨E',S',ef,j,o,o6,f1,f2,rfl,f3,f4,f5⟩:=EI (gs:=[]) (t:=tNm 5) (b:=(Aa (BQ 6 (AJ Ee [eOp (o2 wIx) [eV 0,eC (.int 0)],eOp (o2 wIx) [eOp (o2 wIx) [eV 2,eV 1],eC (.int 0)],eOp (o2 wIx) [eOp (o2 wIx) [eV 2,eV 1],eC (.int 1)],eV 3,eV 5]))
  (Bm (Le L9 (eV 4) [Cm [eV 6,AJ Ee [eOp (o2 wIx) [eV 0,eC (.int 0)],eOp (o2 wIx) [eOp (o2 wIx) [eV 2,eOp (o2 CJ) [eV 1,eC (.int 1)]],eC (.int 0)],eOp (o2 wIx) [eOp (o2 wIx) [eV 2,eOp (o2 CJ) [eV 1,eC (.int 1)]],eC (.int 1)],eV 3,eV 5]]]))))
  (I:=λrs E S'=>∃(j:Nat) (o o6:uD D),rs=((uU t.p).drop j).map (λ(i:Nat)=>D.int i)/\j<=t.p/\E=[Fk (Ae t ls ds),Fk (.int i),Fk (.ref qs),Fk (.tup (ws.map .int)),Fk (.ref q),o,o6]/\S'[q]?=Fk (.lst ((uU j).map (pairD t st st' ws)))/\S'[qs]?=Fk (.lst L)/\Ce [] S S')
  (λ_ _ _ _=>Au) (ds:=(uU t.p).map λ(i:Nat)=>D.int i) (E:=[Fk (Ae t ls ds),Fk (.int i),Fk (.ref qs),Fk (.tup (ws.map .int)),Fk (.ref q),uC,uC]) (S:=S1++[Cl.lst []])
  ⟨0,uC,uC,by simp,wR _,rfl,by simpa using hq,hqs',s1.trans .app⟩ (by
    rintro dd rs E T ⟨j,o,o6,i1,i2,rfl,i3,i4,i5⟩
    have hlt:j<t.p:=by
     rcases xQ j t.p with w|w
     .exact w
     .rw[vX (by simpa using w)]at i1;cases i1
    rw[uy (by simpa using hlt),ui,ABU]at i1
    injection i1 with z1 z2
    subst z1 z2
    have w1:=TF (S:=T) h.tr hw inv bd hlt
    have w2:=TF (S:=T) h.tr hw inv' bd' hlt
    have cq:=AY i3
    have ds':=BE i4
    have e3:(uU (j+1)).map (pairD t st st' ws)=(uU j).map (pairD t st st' ws)++[pairD t st st' ws j]:=by
     rw[AAc,wU];rfl
    have hz:((uU j).map (pairD t st st' ws)).length<sizeLine:=uG (show _<50 by simp;omega) (AN (by decide))
    have lq:=i5.len
    refine⟨_,[Fk (Ae t ls ds),Fk (.int i),Fk (.ref qs),Fk (.tup (ws.map .int)),Fk (.ref q),Fk (.int j),Fk (aD (FV t st ws j))],T.set q (.lst ((uU (j+1)).map (pairD t st st' ws))),by simp;rfl,?_,j+1,_,_,rfl,hlt,rfl,uS (Ad i3),by rw[uK (by omega)];exact i4,Ce.new (A:=[]) (B:=[q]) i5 (.set (by simp)) (by intro n hn';simp at hn';omega)⟩
    rw[e3]
    unfold pairD at hz cq⊢
    generalize aD (FV t st ws j)=D1 at*
    generalize aD (FV t st' ws j)=D2 at*
    generalize ((uU j).map λp=>D.tup [aD (FV t st ws p),aD (FV t st' ws p)])=V at*
    simp only[Ae]
    generalize st.AE.map Ld.d=LD at*
    generalize st'.AE.map Ld.d=LD2 at*
    generalize shD st.hold=HD at*
    generalize shD st'.hold=HD2 at*
    simp[ds',L1,L2,w1,cq,w2,hz])
 have hz:j=t.p:=by
  have:=congrArg xf f1
  simp at this
  omega
 subst hz
 have df:=BE f3
 refine⟨S',?_,f5⟩
 have rk:Jn (t.p:Int)=true:=DY (by omega) (by omega)
 rw[<-YU]at ef
 simp only[xp]at ef
 simp only[Ae]at e1 ef⊢
 simp only[Ab.d]at at1
 generalize (uU t.p).map (pairD t st st' ws)=V at*
 simp[CI,MA,e1,at1,hQ,as1,dt,rk,ef,df]
theorem Zw{s s':Stt}(hp:t.p<=4):Pl 4 (.tup ((uU t.p).map (pairD t s s' ws))):=by
 have pa:∀r:Rat,Pl 2 (aD r):=λr=>⟨by simp,λd hd=>by
  simp only[uI,uX,vV]at hd
  rcases hd with rfl|rfl<;>exact trivial⟩
 refine⟨by simp;omega,λd hd=>?_⟩
 obtain⟨p,_,rfl⟩:=uk.mp hd
 refine⟨by simp,λd hd=>?_⟩
 simp only[uI,uX,vV]at hd
 rcases hd with rfl|rfl<;>exact pa _
end
theorem kK{gs:Gd}{t:Tf}{b:Ex}{Iv:Nat->En->Sto->Prop}{L:Gc D}(hg:∀i E S,Iv i E S->gOk gs S){E:En}{S:Sto}(h0:Iv 0 E S)(hs:∀i d E S,L[i]?=Fk d->Iv i E S->∃E1 E2 S2,t d E S=Fk E1/\b E1 S=Fk (.nx,E2,S2)/\Iv (i+1) E2 S2):∃E' S',Ni gs t b L E S=Fk (.nx,E',S')/\Iv L.length E' S':=by
 obtain⟨E',S',e,i,f1,f2,f3⟩:=EI (gs:=gs) (t:=t) (b:=b) (I:=λrs E S=>∃i,rs=L.drop i/\i<=L.length/\Iv i E S) (λds E S ⟨i,_,_,h⟩=>hg i E S h) (ds:=L) (E:=E) (S:=S) ⟨0,rfl,wR _,h0⟩ (by
  rintro d ds E S ⟨i,e,hi,h⟩
  have hlt:i<L.length:=by
   rcases xQ i L.length with w|w
   .exact w
   .rw[vX w]at e;cases e
  rw[uy hlt]at e
  injection e with z1 z2
  obtain⟨E1,E2,S2,a,b,c⟩:=hs i d E S (by rw[z1];exact W1 hlt) h
  exact⟨E1,E2,S2,a,b,i+1,z2,hlt,c⟩)
 have:i=L.length:=by
  have:=congrArg xf f1
  simp at this
  lia
 subst this
 exact⟨E',S',e,f3⟩
theorem ju{n i:Nat}{d:D}(h:(J6 0 n)[i]?=Fk d):d=.int i/\i<n:=by
 unfold J6 at h
 have hi:=(uL.mp h).1
 simp at hi
 rw[uQ,yG hi]at h
 simp at h
 exact⟨h.symm,hi⟩
section
variable{E:En}{S:Sto}{f g k o:Ev}{d:D}{es:Gc (Key×D)}
@[simp] theorem pL:evP [] E S=some ([],S):=nr rfl
@[simp] theorem ml{r:List (Ev×Ev)}:evP ((k,f)::r) E S=(k E S).bind λa=>(lM a.1).bind λkk=>(f E a.2).bind λb=>(evP r E b.2).map λq=>((kk,b.1)::q.1,q.2):=nr rfl
@[simp] theorem mV{x:Str}:lM (.str x)=some (.inr x):=nr rfl
@[simp] theorem iX{cf:Bool}{fs:List (Ev×Ev)}:Wq cf fs E S=(evP fs E S).map λr=>aA cf (Oa [] r.1) r.2:=nr rfl
@[simp] theorem qT:aA false es S=(.dct es,S):=nr rfl
end
inductive Pt:D->Prop
 |non:Pt .non
 |bl (b:vE):Pt (.bl b)
 |int (i:Int):Pt (.int i)
 |str (x:Str):Pt (.str x)
 |tup (ds:Gc D):Pt (.tup ds)
 |lst (ds:Gc D):Pt (.lst ds)
 |dct (kvs:Gc (Key×D)):Pt (.dct kvs)
noncomputable def ptI:D->vE
 | .int _=>true
 |_=>false
noncomputable def ptF(lo:Int):D->vE
 | .int i=>decide (lo<=i)
 |_=>false
noncomputable def ptW(lo hi:Int):D->vE
 | .int i=>decide (lo<=i) && decide (i<=hi)
 |_=>false
section
variable{S:Sto}{d:D}{p:Nat}
@[simp] theorem og:kdW (.val .non)=some .non:=nr rfl
@[simp] theorem qZ{b:Bool}:kdW (.val (.bl b))=some .bl:=nr rfl
@[simp] theorem oI{i:Int}:kdW (.val (.int i))=some .int:=nr rfl
@[simp] theorem oB{x:Str}:kdW (.val (.str x))=some .str:=nr rfl
@[simp] theorem oa{ds:List D}:kdW (.val (.tup ds))=some .tup:=nr rfl
@[simp] theorem ou{ds:List D}:kdW (.val (.lst ds))=some .lst:=nr rfl
@[simp] theorem oQ{ds:List (Key×D)}:kdW (.val (.dct ds))=some .dct:=nr rfl
theorem XE(h:Pt d):Ck [d] S=Fk ((.bl (ptI d)),S):=by
 cases h<;>simp[Ck,GQ,St.Kd.isA,ptI]
theorem Z1(h:Pt d)(lo:Int):Fi [d,.int lo] S=Fk ((.bl (ptF lo d)),S):=by
 have w:=XE (S:=S) h
 cases h<;>simp[Fi,JY,w,ptI,ptF]
theorem Vw(h:Pt d)(lo hi:Int):DH [d,.int lo,.int hi] S=Fk ((.bl (ptW lo hi d)),S):=by
 have w:=Z1 (S:=S) h lo
 cases h with
 |int i=>by_cases c:lo<=i<;>simp[DH,FK,w,ptF,ptW,c]
 |_=>simp[DH,FK,w,ptF,ptW]
theorem T8{n:Nat}:Al (n+1)=Ar (A3 4 (HP (Al n))):=rfl
noncomputable def MP:Gc D:=[.non,.bl true,.bl false,.int 0,.int 1,.int (-1),.int 9,.int (10^39),.str "",.str "a",.tup [],.lst []]
theorem Vq:∀x∈MP,Pt x:=by
 intro x hx
 simp only[MP,uI,uX,vV]at hx
 rcases hx with rfl|rfl|rfl|rfl|rfl|rfl|rfl|rfl|rfl|rfl|rfl|rfl
 all_goals constructor
def Tz:Ev:=(Fh [eC .non,eC (.bl true),eC (.bl false),eC (.int 0),eC (.int 1),eOp (o1 Nk) [eC (.int 1)],eC (.int 9),eOp (o2 YM) [eC (.int 10),eC (.int 39)],eC (.str ""),eC (.str "a"),Cm [],Fh []])
theorem qU:YM (.val (.int 10)) (.val (.int 39))=Fk (.val (.int (10^39))):=by with_unfolding_all rfl
theorem Vx{E:En}:Tz E S=Fk (.lst MP,S):=by
 have n1:Nk (.val (.int 1))=Fk (.val (.int (-1))):=rfl
 have sz:(12:Nat)<=sizeLine:=AN (by decide)
 simp[Tz,n1,qU,MP,sz]
theorem SW:∀{n d:Nat},d<n->∀{S:Sto},CQ p S->∃X S',Al n [.ref p,.int d] S=Fk (X,S')/\Pt X/\Pn p S S'
 |0,d,h,_,_=>absurd h (by omega)
 |n+1,d,h,S,hp=>by
  obtain⟨way,S1,e1,w0,w1,p1⟩:=Aj hp (n:=12) (by decide) (by decide)
  rw[T8]
  have eb:HP (Al n)=(Aa (BQ 2 (AJ AI [eV 0,eC (.int 12)]))
  (Aa (xIf (eOr (eOp (o2 wLt) [eV 2,eC (.int 8)]) (eOp (o2 wEq) [eV 1,eC (.int 0)])) (BI (eOp (o2 wIx) [Tz,AJ AI [eV 0,eC (.int 12)]])) D5)
  (Aa (BQ 3 (C9 [0,1] 1 (PM [AJ AI [eV 0,eC (.int 4)]]) (tNm 2) Cr (AJ (Al n) [eV 0,eOp (o2 OG) [eV 1,eC (.int 1)]])))
  (Aa (xIf (eOp (o2 wEq) [eV 2,eC (.int 8)]) (BI (eV 3)) D5)
  (Aa (xIf (eOp (o2 wEq) [eV 2,eC (.int 9)]) (BI (eY [((eC (.str "a")),(eV 3))])) D5)
  (BI (eOp (o1 CS) [eV 3]))))))):=rfl
  rw[eb]
  by_cases c:way<8\/d=0
  .obtain⟨r,S2,e2,r0,r1,p2⟩:=Aj p1.pen (n:=12) (by decide) (by decide)
   obtain⟨x,ax,hx⟩:=pick (xs:=MP) r0 (by simpa[MP]using r1)
   refine⟨x,S2,?_,Vq x hx,p1.trans p2⟩
   have k:=λE=>Vx (S:=S1) (E:=E)
   rcases Decidable.em (way<8)with c1|c1
   .simp[e1,c1,k,e2,ax]
   .have c2:d=0:=c.resolve_left c1
    subst c2
    simp[e1,c1,k,e2,ax]
  .have c1:¬way<8:=λz=>c (.inl z)
   have c2:¬d=0:=λz=>c (.inr z)
   obtain⟨r,S2,e2,r0,r1,p2⟩:=Aj p1.pen (n:=4) (by decide) (by decide)
   obtain⟨k,rfl⟩:=HJ r0
   have rk:Jn (k:Int)=true:=DY (by omega) (by omega)
   obtain⟨ys,S3,e3,i3,l3,r3⟩:=Lj (gs:=[]) (t:=tNm 2) (f:=AJ (Al n) [eV 0,eOp (o2 OG) [eV 1,eC (.int 1)]]) (C:=[Fk (.ref p),Fk (.int d)]) (m:=1) (I:=λT=>Pn p S2 T) (R:=λ_ y=>True) (λ_ _=>Au) (ds:=J6 0 k) (acc:=[]) (os:=[uC]) (S:=S2) rfl (.refl p2.pen) (AN (by simp[D9];omega)) (by
    intro dd hd os T ho hI
    match os,ho with
    | [a],_=>
    obtain⟨X,T',ex,hX,hP⟩:=SW (n:=n) (d:=d-1) (by omega) hI.pen
    refine⟨[Fk dd],X,T',rfl,by simp,?_,hI.trans hP,trivial⟩
    have ec:(d:Int)-1=((d-1:Nat):Int):=by omega
    simp[ec,ex])
   have pn:=(p1.trans p2).trans i3
   simp only[uz,vK]at e3
   have c2':((d:Int)==0)=false:=by simpa using c2
   have tn:(k:Int).toNat=k:=by omega
   by_cases w8:way=8
   .subst w8
    refine⟨.lst ys,S3,?_,.lst _,pn⟩
    simp[e1,c2',e2,rk,Pa,e3,tn]
   .have w8':(way==8)=false:=by simpa using w8
    by_cases w9:way=9
    .subst w9
     refine⟨.dct (Oa [] [(.inr "a",.lst ys)]),S3,?_,.dct _,pn⟩
     simp[e1,c2',e2,rk,Pa,e3,tn]
    .have w9':(way==9)=false:=by simpa using w9
     refine⟨.tup ys,S3,?_,.tup _,pn⟩
     simp[e1,c1,c2',e2,rk,Pa,e3,tn,w8',w9']
end
section
end
section
variable{S:Sto}{t:Tr}{ls:Gc Ld}{ds:Gc Ab}
theorem U7{d:Ab}(h:F4 d=true):∃l n ws,d=.thr l n ws:=by
 cases d with
 |thr l n ws=>exact⟨l,n,ws,rfl⟩
 |_=>cases h
noncomputable def GI(ds:Gc Ab):D->vE
 | .int i=>decide (0<=i) && decide (i<=(ds.length:Int)-1) && F4 (ds.getD i.toNat (.K7 0 0))
 |_=>false
theorem QW{X:D}(h:GI ds X=true):∃(i l:Nat) (n:Int) (ws:Gc Int),X=.int i/\ds[i]?=Fk (.thr l n ws):=by
 cases X with
 |int i=>
  simp only[GI,uT,xR]at h
  obtain⟨⟨h0,h1⟩,h2⟩:=h
  obtain⟨n,rfl⟩:=yT h0
  have hn:n<ds.length:=by lia
  obtain⟨p,q,x,e⟩:=U7 h2
  refine⟨n,p,q,x,rfl,?_⟩
  rw[uM]at e
  rw[W1 hn]
  have hz:((n:Int).toNat)=n:=rfl
  rw[hz,W1 hn]at e
  exact congrArg Fk e
 |_=>cases h
theorem bI{X:D}(h:Pt X):E9 [Ae t ls ds,X] S=Fk (.bl (ptW 0 ((ds.length:Int)-1) X),S):=by
 have w:=Vw (S:=S) h 0 ((ds.length:Int)-1)
 simp[E9,ID,Ae,w]
theorem Tt{X:D}(h:Pt X):Bk [Ae t ls ds,.str "throw",X] S=Fk (.bl (GI ds X),S):=by
 have pl:=bI (S:=S) (t:=t) (ls:=ls) (ds:=ds) h
 by_cases w:ptW 0 ((ds.length:Int)-1) X=true
 .cases X with
  |int i=>
   simp only[ptW,uT,xR]at w
   obtain⟨n,rfl⟩:=yT w.1
   have hn:n<ds.length:=by lia
   have a:atI (ds.map Ab.d) (n:Int)=Fk (ds.getD n (.K7 0 0)).d:=CH (by rw[uQ,uM,W1 hn];rfl)
   have hs:GI ds (.int n)=F4 (ds.getD n (.K7 0 0)):=by
    have h2:((n:Int)<=(ds.length:Int)-1):=w.2
    simp[GI,h2]
   rw[hs]
   have hw:ptW 0 ((ds.length:Int)-1) (.int n)=true:=by simp[ptW,w.2]
   rw[hw]at pl
   generalize ds.getD n (.K7 0 0)=dd at*
   simp only[Ae]at pl⊢
   cases dd<;>simp[Bk,Dq,pl,a,Ab.d,F4]
  |_=>cases w
 .have w':ptW 0 ((ds.length:Int)-1) X=false:=by simpa using w
  rw[w']at pl
  have hs:GI ds X=false:=by
   cases X with
   |int i=>
    simp only[ptW]at w'
    simp only[GI,w',AAl]
   |_=>rfl
  rw[hs]
  generalize Ae t ls ds=bk at*
  simp[Bk,Dq,pl]
theorem MU{X:D}(hX:Pt X)(w:GI ds X=false):Ag [Ae t ls ds,X] S=uC/\Ak [Ae t ls ds,X] S=Fk (("NoThrow":Str),S):=by
 have pl:=Tt (S:=S) (t:=t) (ls:=ls) (ds:=ds) hX
 rw[w]at pl
 generalize Ae t ls ds=bk at*
 constructor
 .have xs:∀E S,TJ E S=none:=λ_ _=>rfl
  simp[Ag,DF,pl,xs]
 .unfold Ak
  rw[KP]
  have e3:(Tg (AJ Bk [eV 0,eC (.str "throw"),eV 1])) [Fk bk,Fk X] S=Fk (.bl true,S):=by simp[pl]
  show(Eg [Fk bk,Fk X] S).map _=_
  unfold Eg rIf
  rw[e3]
  show yP _ (U0 _ _ _ _)=_
  unfold U0
  simp
theorem Xv{X:D}(h:BP t ls ds)(hX:Pt X)(w:GI ds X=false):DM [Ae t ls ds,X] S=uC/\F2 [Ae t ls ds,X] S=Fk (("NoThrow":Str),S):=by
 have r1:=JA (S:=S) h
 obtain⟨n1,n2⟩:=MU (S:=S) (t:=t) (ls:=ls) hX w
 generalize Ae t ls ds=bk at*
 constructor
 .simp[DM,LK,r1,n1]
 .unfold F2
  rw[KP]
  have e1:(Bm (AJ Ay [eV 0])) [Fk bk,Fk X] S=Fk (.nx,[Fk bk,Fk X],S):=by simp[r1]
  have e2:GW Ak [eV 0,eV 1] [Fk bk,Fk X] S=Fk (("NoThrow":Str),[Fk bk,Fk X],S):=by
   unfold GW
   simp[n2]
  show(LN [Fk bk,Fk X] S).map _=_
  unfold LN WX rNo
  dsimp only
  rw[e1]
  show yP _ (match GW Ak [eV 0,eV 1] [Fk bk,Fk X] S with|some z=>Fk z|none=>_)=_
  rw[e2]
  rfl
theorem W3{X:D}(h:BP t ls ds)(hX:Pt X)(w:GI ds X=false):DN [Ae t ls ds,X] S=uC/\F8 [Ae t ls ds,X] S=Fk (("NoThrow":Str),S):=by
 have r1:=JA (S:=S) h
 obtain⟨n1,n2⟩:=MU (S:=S) (t:=t) (ls:=ls) hX w
 generalize Ae t ls ds=bk at*
 constructor
 .simp[DN,LI,r1,n1]
 .unfold F8
  rw[KP]
  have e1:(Bm (AJ Ay [eV 0])) [Fk bk,Fk X] S=Fk (.nx,[Fk bk,Fk X],S):=by simp[r1]
  have e2:GW Ak [eV 0,eV 1] [Fk bk,Fk X] S=Fk (("NoThrow":Str),[Fk bk,Fk X],S):=by
   unfold GW
   simp[n2]
  show(LY [Fk bk,Fk X] S).map _=_
  unfold LY WX rNo
  dsimp only
  rw[e1]
  show yP _ (match GW Ak [eV 0,eV 1] [Fk bk,Fk X] S with|some z=>Fk z|none=>_)=_
  rw[e2]
  rfl
theorem OS{X:D}(h:BP t ls ds)(hX:Pt X)(w:GI ds X=false){Z:D}:BC [Ae t ls ds,X,Z] S=uC/\CN [Ae t ls ds,X,Z] S=Fk (("NoThrow":Str),S):=by
 have r1:=JA (S:=S) h
 obtain⟨n1,n2⟩:=MU (S:=S) (t:=t) (ls:=ls) hX w
 generalize Ae t ls ds=bk at*
 constructor
 .simp[BC,F6,r1,n1]
 .unfold CN
  rw[KP]
  have e1:(Bm (AJ Ay [eV 0])) [Fk bk,Fk X,Fk Z] S=Fk (.nx,[Fk bk,Fk X,Fk Z],S):=by simp[r1]
  have e2:GW Ak [eV 0,eV 1] [Fk bk,Fk X,Fk Z] S=Fk (("NoThrow":Str),[Fk bk,Fk X,Fk Z],S):=by
   unfold GW
   simp[n2]
  show(F7 [Fk bk,Fk X,Fk Z] S).map _=_
  unfold F7 WX rNo
  dsimp only
  rw[e1]
  show yP _ (match GW Ak [eV 0,eV 1] [Fk bk,Fk X,Fk Z] S with|some z=>Fk z|none=>_)=_
  rw[e2]
  rfl
end
inductive Th:D->Prop
 |non:Th .non
 |bl (b:vE):Th (.bl b)
 |int (i:Int):Th (.int i)
 |str (x:Str) (h:vi x=true):Th (.str x)
 |tup {ds:Gc D} (h:∀d∈ds,Th d) (l:ds.length<=1000):Th (.tup ds)
 |lst {ds:Gc D} (h:∀d∈ds,Th d) (l:ds.length<=1000):Th (.lst ds)
 |dct (kvs:Gc (Key×D)):Th (.dct kvs)
mutual
noncomputable def FO(x:D):D->vE
 | .int j=>match x with
   | .int i=>i==j
   |_=>false
 | .tup ts=>match x with
   | .tup xs=>Jr xs ts
   |_=>false
 | .lst ts=>match x with
   | .lst xs=>Jr xs ts
   |_=>false
 |_=>false
noncomputable def Jr:Gc D->Gc D->vE
 | [],[]=>true
 |x::xs,t::ts=>FO x t && Jr xs ts
 |_,_=>false
end
theorem TK:∀{xs ts:Gc D},Jr xs ts=true->xs.length=ts.length
 | [],[],_=>rfl
 |x::xs,t::ts,h=>by
  have h:(FO x t && Jr xs ts)=true:=by simpa[Jr]using h
  rw[uT]at h
  simp[TK h.2]
 | [],_::_,h=>by simp[Jr]at h
 |_::_,[],h=>by simp[Jr]at h
theorem RY:∀{xs ts:Gc D},xs.length=ts.length->Jr xs ts=(xs.zip ts).all λz=>FO z.1 z.2
 | [],[],_=>by simp[Jr]
 |x::xs,t::ts,h=>by
  rw[ABS,wy,<-RY (by simpa using h)]
  simp[Jr]
 | [],_::_,h=>by simp at h
 |_::_,[],h=>by simp at h
def As(w:Wv)(d:D):Prop:=w=.val d\/∃ds,d=.lst ds/\w=.own ds
theorem As.fz{w:Wv}{d:D}(h:As w d):fz w=d:=by
 rcases h with rfl|⟨ds,rfl,rfl⟩<;>rfl
theorem As.kd{w:Wv}{d:D}(h:As w d):kdW w=kdW (.val d):=by
 rcases h with rfl|⟨ds,rfl,rfl⟩<;>rfl
theorem As.len{w:Wv}{d:D}{xs:Gc D}(h:As w d)(e:d=.tup xs\/d=.lst xs):Jq w=Fk (.val (.int xs.length))/\asS w=Fk xs:=by
 rcases h with rfl|⟨ds,rfl,rfl⟩
 .rcases e with rfl|rfl<;>exact⟨rfl,rfl⟩
 .rcases e with e|e
  .cases e
  .cases e;exact⟨rfl,rfl⟩
structure Thg(S:Sto)(X x:D):Prop where
 th:Th x
 as:As (dr S X) x
 sq:∀xs,(x=.tup xs\/x=.lst xs)->∃gs,sqD S X=Fk (xs,gs)/\gOk gs S
section
variable{S:Sto}
theorem Th.dr{x:D}(h:Th x):dr S x=.val x:=by cases h<;>rfl
theorem Thg.plain{x:D}(h:Th x):Thg S x x:=⟨h,.inl h.dr,λxs e=>by
 rcases e with rfl|rfl<;>exact⟨[],rfl,Au⟩⟩
theorem TY:∀{m:Nat} {d:D},Pl m d->Th d
 |0,d,h=>by cases d<;>exact h.elim
 |m+1,.int i,h=>.int i
 |m+1,.tup ds,h=>.tup (λd hd=>TY (h.2 d hd)) h.1
 |m+1,.lst ds,h=>.lst (λd hd=>TY (h.2 d hd)) h.1
theorem WU:∀{m:Nat} {d:D},Pl m d->d.lay=true
 |0,d,h=>by cases d<;>exact h.elim
 |m+1,.int i,h=>rfl
 |m+1,.tup ds,h=>by
  show D.Ri ds=true
  have:=MM (f:=id) (xs:=ds) λd hd=>WU (h.2 d hd)
  simpa using this
 |m+1,.lst ds,h=>by
  show D.Ri ds=true
  have:=MM (f:=id) (xs:=ds) λd hd=>WU (h.2 d hd)
  simpa using this
@[simp] theorem rA:kdW (.val .non)=some .non:=nr rfl
@[simp] theorem rF{b:Bool}:kdW (.val (.bl b))=some .bl:=nr rfl
@[simp] theorem qr{i:Int}:kdW (.val (.int i))=some .int:=nr rfl
@[simp] theorem qK{x:Str}:kdW (.val (.str x))=some .str:=nr rfl
@[simp] theorem qJ{ds:List D}:kdW (.val (.tup ds))=some .tup:=nr rfl
@[simp] theorem ql{ds:List D}:kdW (.val (.lst ds))=some .lst:=nr rfl
@[simp] theorem qI{ds:List (Key×D)}:kdW (.val (.dct ds))=some .dct:=nr rfl
theorem kM{m:Nat}{x T:D}{wx wT:Wv}(hx:Th x)(hT:Pl (m+1) T)(ax:As wx x)(aT:As wT T)(hb:∀b,x≠.bl b)(hs:∀xs ts,¬((x=.tup xs\/x=.lst xs)/\(T=.tup ts\/T=.lst ts))):VO wx wT=Fk (.val (.bl (FO x T))):=by
 have lT:=WU hT
 have dead:(ED x T=true->deq x T=false)->FO x T=false->(ED x T=false->∃k j,kdW (.val x)=Fk k/\kdW (.val T)=Fk j/\unlike k j=true)->VO wx wT=Fk (.val (.bl (FO x T))):=λh1 h2 h3=>by
  unfold VO
  rw[ax.fz,aT.fz]
  cases ho:ED x T with
  |true=>rw[vD rfl,h1 ho,h2]
  |false=>
   obtain⟨k,j,e1,e2,e3⟩:=h3 ho
   rw[vH (by simp),ax.kd,aT.kd,e1,e2,Bx,Bx,vD e3,h2]
 have flat:x.lay=true->x.py.depth<=1->ED x T=true:=λl d=>by
  unfold ED
  rw[l,lT]
  simp only[Bool.true_and,xR]
  omega
 cases T with
 |int j=>
  cases hx with
  |non=>exact dead (λ_=>rfl) rfl λh=>by rw[flat rfl (by simp[D.py,xj])]at h;cases h
  |bl b=>exact absurd rfl (hb b)
  |int i=>
   unfold VO
   rw[ax.fz,aT.fz,vD ff,kg]
   simp[FO]
  |str y h=>exact dead (λ_=>rfl) rfl λh'=>by rw[flat h (by simp[D.py,xj])]at h';cases h'
  |tup h l=>exact dead (λ_=>rfl) rfl λ_=>⟨_,_,rfl,rfl,rfl⟩
  |lst h l=>exact dead (λ_=>rfl) rfl λ_=>⟨_,_,rfl,rfl,rfl⟩
  |dct k=>exact dead (λh=>by simp[ED,D.lay]at h) rfl λ_=>⟨_,_,rfl,rfl,rfl⟩
 |tup ts=>
  cases hx with
  |non=>exact dead (λ_=>rfl) rfl λh=>by rw[flat rfl (by simp[D.py,xj])]at h;cases h
  |bl b=>exact absurd rfl (hb b)
  |int i=>exact dead (λ_=>rfl) rfl λh=>by rw[flat rfl (by simp[D.py,xj])]at h;cases h
  |str y h=>exact dead (λ_=>rfl) rfl λh'=>by rw[flat h (by simp[D.py,xj])]at h';cases h'
  |tup h l=>exact absurd ⟨.inl rfl,.inl rfl⟩ (hs _ _)
  |lst h l=>exact absurd ⟨.inr rfl,.inl rfl⟩ (hs _ _)
  |dct k=>exact dead (λh=>by simp[ED,D.lay]at h) rfl λ_=>⟨_,_,rfl,rfl,rfl⟩
 |lst ts=>
  cases hx with
  |non=>exact dead (λ_=>rfl) rfl λh=>by rw[flat rfl (by simp[D.py,xj])]at h;cases h
  |bl b=>exact absurd rfl (hb b)
  |int i=>exact dead (λ_=>rfl) rfl λh=>by rw[flat rfl (by simp[D.py,xj])]at h;cases h
  |str y h=>exact dead (λ_=>rfl) rfl λh'=>by rw[flat h (by simp[D.py,xj])]at h';cases h'
  |tup h l=>exact absurd ⟨.inl rfl,.inr rfl⟩ (hs _ _)
  |lst h l=>exact absurd ⟨.inr rfl,.inr rfl⟩ (hs _ _)
  |dct k=>exact dead (λh=>by simp[ED,D.lay]at h) rfl λ_=>⟨_,_,rfl,rfl,rfl⟩
 |_=>exact hT.elim
end
section
variable{S:Sto}
theorem XM{α:Type}{p:α->vE}{xs:Gc α}:((bls (xs.map λx=>D.bl (p x))).map λbs=>Wv.val (.bl (bs.all id)))=Fk (.val (.bl (xs.all p))):=by
 rw[Wl p]
 simp[AAO]
theorem OR:∀{xs ts:Gc D},xs.length=ts.length->Jr xs ts=(uU xs.length).all λi=>FO (xs.getD i .non) (ts.getD i .non)
 | [],[],_=>by simp[Jr]
 |x::xs,t::ts,h=>by
  have ih:=OR (xs:=xs) (ts:=ts) (by simpa using h)
  rw[vJ,AAN,wy,AAO]
  simp only[Jr,ih]
  rfl
 | [],_::_,h=>by simp at h
 |_::_,[],h=>by simp at h
theorem Uc{xs ts:Gc D}(h:¬xs.length=ts.length):Jr xs ts=false:=by
 cases e:Jr xs ts with
 |false=>rfl
 |true=>exact absurd (TK e) h
theorem XX{n:Nat}{ts xs:Gc D}{X TT x T:D}(gx:Thg S X x)(gT:Thg S TT T)(ex:x=.tup xs\/x=.lst xs)(eT:T=.tup ts\/T=.lst ts)(lx:xs.length<=1000)(ih:∀(i:Nat) (h1:i<xs.length) (h2:i<ts.length),Ec n [xs[i],ts[i]] S=Fk (.bl (FO xs[i] ts[i]),S)):IB (n+1) [X,TT] S=Fk (.bl (Jr xs ts),S):=by
 obtain⟨gs,e1,e2⟩:=gx.sq xs ex
 obtain⟨e3,e4⟩:=gx.as.len ex
 obtain⟨e5,e6⟩:=gT.as.len eT
 rw[Ze]
 by_cases hlen:xs.length=ts.length
 .have c:=Ea (gs:=gs) (t:=tTp [tNm 1,tNm 2]) (f:=AJ (Ec n) [eV 2,eOp (o2 wIx) [eV 0,eV 1]]) (C:=[Fk TT]) (m:=2) (e:=λ(i:Nat)=>D.tup [.int i,xs.getD i .non]) (g:=λi=>D.bl (FO (xs.getD i .non) (ts.getD i .non))) (S:=S) e2 (xs:=uU xs.length) (acc:=[]) (os:=[uC,uC]) rfl (AN (by simpa using lx)) (by
   intro i hi os ho
   match os,ho with
   | [a,b],_=>
   have hi':i<xs.length:=by simpa using hi
   have hi2:i<ts.length:=by omega
   have eg:xs.getD i .non=xs[i]:=by rw[uM,W1 hi'];rfl
   have eg2:ts.getD i .non=ts[i]:=by rw[uM,W1 hi2];rfl
   have a:=CH (W1 hi2)
   have hs:=ih i hi' hi2
   refine⟨[Fk (.int i),Fk xs[i]],rfl,by rw[eg];simp,?_⟩
   rw[eg,eg2]
   simp[e6,a,hs])
  rw[<-Lz]at c
  simp only[uz,vK]at c
  have al:=OR hlen
  have bb:=XM (p:=λi=>FO (xs.getD i .non) (ts.getD i .non)) (xs:=uU xs.length)
  rw[<-al]at bb
  generalize (uU xs.length).map (λi=>D.bl (FO (xs.getD i .non) (ts.getD i .non)))=BB at*
  simp[Hx,e3,e5,hlen,e1,c,bb]
 .have hl:¬(xs.length:Int)=ts.length:=by omega
  have hb:((xs.length:Int)==ts.length)=false:=by simpa using hl
  rw[Uc hlen]
  simp[Hx,e3,e5,hb]
theorem WO{X x:D}(g:Thg S X x):Ck [X] S=Fk (.bl (match x with| .int _=>true|_=>false),S):=by
 have kx:=g.as.kd
 have th:=g.th
 cases th with
 |_=>simp[Ck,GQ,kx,St.Kd.isA]
theorem Nx:∀{m:Nat} {T:D},Pl m T->∀{n:Nat} {X x:D},2*m<=n->Thg S X x->Ec n [X,T] S=Fk (.bl (FO x T),S)
 |0,T,h,_,_,_,_,_=>by cases T<;>exact h.elim
 |m+1,.int j,h,n,X,x,hn,g=>by
  obtain⟨n',rfl⟩:∃n',n=n'+1:=⟨n-1,by omega⟩
  have fx:=g.as.fz
  have th:=g.th
  have w:=WO g
  rw[To]
  cases th with
  |int i=>simp[Du,St.Kd.isA,isN,w,fx,FO]
  |_=>simp[Du,St.Kd.isA,isN,w,FO]
 |m+1,.tup ts,h,n,X,x,hn,g=>by
  obtain⟨n',rfl⟩:∃n',n=n'+1+1:=⟨n-2,by omega⟩
  have kx:=g.as.kd
  have th:=g.th
  have gT:Thg S (.tup ts) (.tup ts):=.plain (TY h)
  rw[To]
  cases th with
  |tup hx lx=>
   rename_i xs
   have ar:=XX (n:=n') g gT (.inl rfl) (.inl rfl) lx λi h1 h2=>Nx (h.2 ts[i] (v3 h2)) (n:=n') (by omega) (Thg.plain (hx xs[i] (v3 h1)))
   simp[Du,kx,St.Kd.isA,ar,FO]
  |_=>simp[Du,kx,St.Kd.isA,FO]
 |m+1,.lst ts,h,n,X,x,hn,g=>by
  obtain⟨n',rfl⟩:∃n',n=n'+1+1:=⟨n-2,by omega⟩
  have kx:=g.as.kd
  have th:=g.th
  have gT:Thg S (.lst ts) (.lst ts):=.plain (TY h)
  rw[To]
  cases th with
  |lst hx lx=>
   rename_i xs
   have ar:=XX (n:=n') g gT (.inr rfl) (.inr rfl) lx λi h1 h2=>Nx (h.2 ts[i] (v3 h2)) (n:=n') (by omega) (Thg.plain (hx xs[i] (v3 h1)))
   simp[Du,kx,St.Kd.isA,ar,FO]
  |_=>simp[Du,kx,St.Kd.isA,FO]
end
theorem UR{x:Str}{JT:Gc Nat}{F:Ev}{R:Rx}{c0:D}{h:Str->Ex}{E:En}{S S':Sto}{d:D}(hT:S.any (Lp x)=true)(e:F (UH JT E) S=Fk (d,S')):WB x JT F R c0 h E S=Fk (c0,S'):=by
 unfold WB
 rw[vD hT,e]
theorem Td{x:Str}{JT:Gc Nat}{F:Ev}{R:Rx}{c0 d:D}{h:Str->Ex}{E E' E2:En}{S S1 S2:Sto}{y:Str}(hT:S.any (Lp x)=true)(e:F (UH JT E) S=uC)(e1:R (UH JT E) S=Fk (y,E',S1))(e2:h y [uC] S1=Fk (.ret d,E2,S2)):WB x JT F R c0 h E S=Fk (d,S2):=by
 unfold WB
 rw[vD hT,e]
 dsimp only
 rw[e1]
 show((h y [uC] S1).bind λz=>match z.1 with| .ret d=>Fk (d,z.2.2)| .nx=>uC)=_
 rw[e2]
 rfl
section
variable{S:Sto}
theorem call2{F:Fn}{a b:D}:AJ F [eV 0,eV 1] [Fk a,Fk b] S=F [a,b] S:=by simp
theorem cH{R:Rf}{a b:D}{y:Str}(h:R [a,b] S=Fk (y,S)):GW R [eV 0,eV 1] [Fk a,Fk b] S=Fk (y,[Fk a,Fk b],S):=by
 unfold GW
 simp[h]
theorem cK{F:Fn}{a b c:D}:AJ F [eV 0,eV 1,eC c] [Fk a,Fk b] S=F [a,b,c] S:=by simp
theorem gZ{R:Rf}{a b c:D}{y:Str}(h:R [a,b,c] S=Fk (y,S)):GW R [eV 0,eV 1,eC c] [Fk a,Fk b] S=Fk (y,[Fk a,Fk b],S):=by
 unfold GW
 simp[h]
theorem tab_of{x:Str}{n:Nat}(h:S[n]?=Fk (Cl.tab x)):S.any (Lp x)=true:=AAB.mpr ⟨_,uY h,by unfold Lp;simp⟩
theorem tab_keep{x:Str}{S':Sto}(h:S.any (Lp x)=true)(g:Ce [] S S'):S'.any (Lp x)=true:=by
 obtain⟨n,e⟩:=Qd h
 exact tab_of (g.get e (by simp))
theorem X8{y:Str}{d:D}:gOr [y] y (BI (eC d)) gNo y [uC] S=Fk (.ret d,[uC],S):=by
 unfold gOr
 rw[vD (by simp),vD (by simp)]
 simp
end
section
variable{S:Sto}{t:Tr}{ls:Gc Ld}{ds:Gc Ab}{i l:Nat}{n:Int}{ws:Gc Int}{X x:D}
noncomputable def gw(t:Tr)(ls:Gc Ld)(ds:Gc Ab)(i:Nat)(ws:Gc Int):D:=.tup ((uU t.p).map (pairD t (runs t (st0 t ls) (ds.take i)) (runs t (st0 t ls) (ds.take (i+1))) ws))
theorem SV(h:BP t ls ds)(hn:ds[i]?=Fk (.thr l n ws))(hX:∀S',Ce [] S S'->Thg S' X x):∃S',BC [Ae t ls ds,.int i,X] S=Fk (.bl (FO x (gw t ls ds i ws)),S')/\Ce [] S S':=by
 have r1:=JA (S:=S) h
 have r2:=OK (S:=S) (t:=t) (ls:=ls) hn
 obtain⟨S',e,s1⟩:=Kc (S:=S) h hn
 have pl:Pl 4 (gw t ls ds i ws):=Zw (by obtain⟨t1,t2,t3,t4,t5,t6⟩:=h.tr;lia)
 have sm:=Nx (S:=S') pl (n:=8) (by decide) (hX S' s1)
 have e':CZ [Ae t ls ds,.int i] S=Fk (gw t ls ds i ws,S'):=e
 refine⟨S',?_,s1⟩
 generalize gw t ls ds i ws=T at*
 generalize Ae t ls ds=bk at*
 simp[BC,F6,r1,r2,e',sm]
noncomputable def hdT:Str->Ex:=gOr ["NoThrow"] "NoThrow" (BI (eC (.str "throw"))) gNo
noncomputable def Cz(ds:Gc Ab)(X:D):Str:=if GI ds X=true then "none" else "throw"
def laC:Ev:=WB "_law_all_so" [0,1] (AJ DM [eV 0,eV 1]) (GW F2 [eV 0,eV 1]) (.str "none") hdT
def laB:Ev:=WB "_law_all_so" [0,1] (AJ DN [eV 0,eV 1]) (GW F8 [eV 0,eV 1]) (.str "none") hdT
def laH:Ev:=WB "_law_all_so" [0,1] (AJ BC [eV 0,eV 1,eC .non]) (GW CN [eV 0,eV 1,eC .non]) (.str "none") hdT
variable{e2 e3:uD D}
theorem ia(hT:S.any (Lp "_law_all_so")=true)(h:BP t ls ds)(hX:Pt X):laC [Fk (Ae t ls ds),Fk X,e2,e3] S=Fk (.str (Cz ds X),S):=by
 unfold Cz
 cases w:GI ds X with
 |true=>
  obtain⟨i,l,n,ws,rfl,hs⟩:=QW w
  exact UR hT (show AJ DM _ [Fk (Ae t ls ds),Fk (.int i)] S=_ from call2.trans (Va h hs))
 |false=>
  obtain⟨n1,n2⟩:=Xv (S:=S) h hX w
  exact Td hT (show AJ DM _ [Fk (Ae t ls ds),Fk X] S=_ from call2.trans n1) (show GW F2 _ [Fk (Ae t ls ds),Fk X] S=_ from cH n2) X8
theorem jH(hT:S.any (Lp "_law_all_so")=true)(h:BP t ls ds)(hX:Pt X):∃S',laB [Fk (Ae t ls ds),Fk X,e2,e3] S=Fk (.str (Cz ds X),S')/\Ce [] S S':=by
 unfold Cz
 cases w:GI ds X with
 |true=>
  obtain⟨i,l,n,ws,rfl,hs⟩:=QW w
  obtain⟨S',e,s1⟩:=VY (S:=S) h hs
  exact⟨S',UR hT (show AJ DN _ [Fk (Ae t ls ds),Fk (.int i)] S=_ from call2.trans e),s1⟩
 |false=>
  obtain⟨n1,n2⟩:=W3 (S:=S) h hX w
  exact⟨S,Td hT (show AJ DN _ [Fk (Ae t ls ds),Fk X] S=_ from call2.trans n1) (show GW F8 _ [Fk (Ae t ls ds),Fk X] S=_ from cH n2) X8,.refl⟩
theorem jk(hT:S.any (Lp "_law_all_so")=true)(h:BP t ls ds)(hX:Pt X):∃S',laH [Fk (Ae t ls ds),Fk X,e2,e3] S=Fk (.str (Cz ds X),S')/\Ce [] S S':=by
 unfold Cz
 cases w:GI ds X with
 |true=>
  obtain⟨i,l,n,ws,rfl,hs⟩:=QW w
  obtain⟨S',e,s1⟩:=SV (S:=S) (X:=.non) (x:=.non) h hs λ_ _=>.plain .non
  exact⟨S',UR hT (show AJ BC _ [Fk (Ae t ls ds),Fk (.int i)] S=_ from cK.trans e),s1⟩
 |false=>
  obtain⟨n1,n2⟩:=OS (S:=S) (Z:=.non) h hX w
  exact⟨S,Td hT (show AJ BC _ [Fk (Ae t ls ds),Fk X] S=_ from cK.trans n1) (show GW CN _ [Fk (Ae t ls ds),Fk X] S=_ from gZ n2) X8,.refl⟩
end
section
variable{S:Sto}{t:Tr}{ls:Gc Ld}{ds:Gc Ab}{X:D}
theorem rD{v:D}:CD (.val (.lst [v])) (.val (.int 3))=Fk (.own [v,v,v]):=by
 have h:(3:Nat)<=sizeLine:=AN (by decide)
 simp[h]
theorem eq3{a b:Str}(ha:a="none" \/a="throw")(hb:b="none" \/b="throw"):ED (.lst [.str a,.str a,.str a]) (.lst [.str b,.str b,.str b])=true/\deq (.lst [.str a,.str a,.str a]) (.lst [.str b,.str b,.str b])=(a==b):=by
 rcases ha with rfl|rfl<;>rcases hb with rfl|rfl<;>exact⟨by decide+kernel,by decide+kernel⟩
theorem Ur:Cz ds X="none" \/Cz ds X="throw":=by
 unfold Cz
 split
 .exact .inl rfl
 .exact .inr rfl
theorem X0{v:Str}(hv:v="none" \/v="throw")(hT:S.any (Lp "_law_all_so")=true)(h:BP t ls ds)(hX:Pt X):∃S',GJ [Ae t ls ds,X,.str v] S=Fk (.bl (Cz ds X==v),S')/\Ce [] S S':=by
 have c1:=ia (e2:=Fk (.str v)) (e3:=uC) hT h hX
 have s0:Ce [] S (S++[Cl.lst [.str (Cz ds X)]]):=.app
 obtain⟨S2,c2,s2⟩:=jH (e2:=Fk (.str v)) (e3:=Fk (.ref S.length)) (tab_keep hT s0) h hX
 have q0:(S++[Cl.lst [.str (Cz ds X)]])[S.length]?=Fk (.lst [.str (Cz ds X)]):=ua
 have q2:=s2.get q0 (by simp)
 have t2:(S2.set S.length (.lst [.str (Cz ds X),.str (Cz ds X)])).any (Lp "_law_all_so")=true:=by
  obtain⟨n,e⟩:=Qd (tab_keep (tab_keep hT s0) s2)
  refine tab_of (n:=n) ?_
  rw[uK (λz=>by rw[z]at q2;rw[q2]at e;cases e)]
  exact e
 obtain⟨S3,c3,s3⟩:=jk (e2:=Fk (.str v)) (e3:=Fk (.ref S.length)) t2 h hX
 have q3:S3[S.length]?=Fk (.lst [.str (Cz ds X),.str (Cz ds X)]):=s3.get (uS (Ad q2)) (by simp)
 have k0:=AY q0
 have k2:=AY q2
 have k3:=AY q3
 have kk3:Gj (S2.set S.length (.lst [.str (Cz ds X),.str (Cz ds X)])) S.length=Fk [.str (Cz ds X),.str (Cz ds X)]:=AY (uS (Ad q2))
 have q4:(S3.set S.length (.lst [.str (Cz ds X),.str (Cz ds X),.str (Cz ds X)]))[S.length]?=Fk (.lst [.str (Cz ds X),.str (Cz ds X),.str (Cz ds X)]):=uS (Ad q3)
 have d4:=BE q4
 have sz1:(1:Nat)<=sizeLine:=AN (by decide)
 have z1:(1:Nat)<sizeLine:=uG (show 1<2 by decide) (AN (by decide))
 have z2:(2:Nat)<sizeLine:=uG (show 2<3 by decide) (AN (by decide))
 obtain⟨ok1,ok2⟩:=eq3 (a:=Cz ds X) (b:=v) Ur hv
 refine⟨S3.set S.length (.lst [.str (Cz ds X),.str (Cz ds X),.str (Cz ds X)]),?_,?_⟩
 .have eb:NB=(Aa (BQ 3 (K1 [laC])) (Aa (Bm (Le L9 (eV 3) [laB])) (Aa (Bm (Le L9 (eV 3) [laH])) (BI (eOp (o2 wEq) [eV 3,eOp (o2 CD) [Fh [eV 2],eI 3]]))))):=rfl
  unfold GJ
  rw[eb]
  generalize Ae t ls ds=bk at*
  generalize Cz ds X=W at*
  have m3:=rD (v:=.str v)
  simp[c1,sz1,c2,k0,k2,z1,c3,kk3,k3,z2,d4,m3,ok1,ok2]
 .have a1:Ce [S.length] (S++[Cl.lst [.str (Cz ds X)]]) (S3.set S.length (.lst [.str (Cz ds X),.str (Cz ds X),.str (Cz ds X)])):=
   (s2.mono (by simp)).trans (Ce.trans (.set (by simp)) ((s3.mono (by simp)).trans (.set (by simp))))
  exact Ce.new (A:=[]) (B:=[S.length]) .app a1 (by simp)
end
def Tp:Nat->D->Prop
 |0,_=>wk
 |_+1,.int _=>True
 |m+1,.tup ds=>ds.length<=1000/\∀d∈ds,Tp m d
 |_+1,_=>wk
theorem Tp.pl:∀{m:Nat} {d:D},Tp m d->Pl m d
 |_+1,.int _,_=>trivial
 |_+1,.tup _,h=>⟨h.1,λd hd=>Tp.pl (h.2 d hd)⟩
section
variable{S:Sto}
theorem YG{n:Nat}:EE (n+1)=Ar (A3 2 (HC (EE n))):=rfl
noncomputable def Ve:D->vE
 | .tup _=>true
 |_=>false
noncomputable def iB:D->vE
 | .bl _=>true
 |_=>false
theorem Ul{w:Wv}{x:D}(h:Th x)(a:As w x):K5 w (.val (.ty "tuple"))=Fk (.val (.bl (Ve x))):=by
 have k:=a.kd
 have:K5 w (.val (.ty "tuple"))=(kdW w).map λk=>.val (.bl (k.isA "tuple")):=rfl
 rw[this,k]
 cases h with
 |_=>simp[St.Kd.isA,Ve]
theorem U6{w:Wv}{x:D}(h:Th x)(a:As w x):K5 w (.val (.ty "bool"))=Fk (.val (.bl (iB x))):=by
 have k:=a.kd
 have:K5 w (.val (.ty "bool"))=(kdW w).map λk=>.val (.bl (k.isA "bool")):=rfl
 rw[this,k]
 cases h with
 |_=>simp[St.Kd.isA,iB]
theorem dF{a b:vE}:VO (.val (.bl a)) (.val (.bl b))=Fk (.val (.bl (a==b))):=by
 cases a<;>cases b<;>rfl
theorem dA{a b:Int}:VO (.val (.int a)) (.val (.int b))=Fk (.val (.bl (a==b))):=rfl
theorem iw{m:Nat}{xs ts:Gc D}{wx wT:Wv}(hT:Tp (m+1) (.tup ts))(ax:As wx (.lst xs))(aT:As wT (.tup ts)):VO wx wT=Fk (.val (.bl false)):=by
 unfold VO
 rw[ax.fz,aT.fz]
 cases ho:ED (.lst xs) (.tup ts)with
 |true=>rw[vD rfl];rfl
 |false=>
  rw[vH (by simp),ax.kd,aT.kd]
  rfl
theorem cQ:∀{m:Nat} {T:D},Tp m T->∀{n:Nat} {X x:D},m<=n->Thg S X x->EE n [X,T] S=Fk (.bl (FO x T),S)
 |0,T,h,_,_,_,_,_=>by cases T<;>exact h.elim
 |m+1,T,h,n,X,x,hn,g=>by
  obtain⟨n',rfl⟩:∃n',n=n'+1:=⟨n-1,by lia⟩
  have gT:Thg S T T:=Thg.plain (TY h.pl)
  have i1:=Ul g.th g.as
  have i2:=Ul gT.th gT.as
  have b1:=U6 g.th g.as
  have b2:=U6 gT.th gT.as
  have dT:dr S T=.val T:=(TY h.pl).dr
  rw[dT]at i2 b2
  have nb:iB T=false:=by
   cases T with
   |bl b=>exact h.elim
   |_=>rfl
  rw[YG]
  by_cases hq:Ve x=true/\Ve T=true
  .obtain⟨xs,rfl⟩:∃xs,x=.tup xs:=by
    cases x with
    |tup xs=>exact⟨xs,rfl⟩
    |_=>exact absurd hq.1 (by simp[Ve])
   obtain⟨ts,rfl⟩:∃ts,T=.tup ts:=by
    cases T with
    |tup xs=>exact⟨xs,rfl⟩
    |_=>exact absurd hq.2 (by simp[Ve])
   obtain⟨gs,e1,e2⟩:=g.sq xs (.inl rfl)
   obtain⟨e3,e4⟩:=g.as.len (.inl rfl)
   obtain⟨gs',e1',e2'⟩:=gT.sq ts (.inl rfl)
   obtain rfl:gs'=[]:=by
    have z:Fk (ts,([]:Gd))=Fk (ts,gs'):=e1'
    cases z;rfl
   obtain⟨e5,e6⟩:=gT.as.len (.inl rfl)
   rw[dT]at e5
   have hx:∀d∈xs,Th d:=by have:=g.th;cases this;assumption
   have lx:xs.length<=1000:=by have:=g.th;cases this;assumption
   have sd:FO (.tup xs) (.tup ts)=Jr xs ts:=rfl
   by_cases hlen:xs.length=ts.length
   .have c:=Ea (gs:=gs) (t:=tTp [tNm 0,tNm 1]) (f:=AJ (EE n') [eV 0,eV 1]) (C:=[]) (m:=2) (e:=λz:D×D=>D.tup [z.1,z.2]) (g:=λz=>D.bl (FO z.1 z.2)) (S:=S) e2 (xs:=xs.zip ts) (acc:=[]) (os:=[uC,uC]) rfl (AN (by simp;lia)) (by
     rintro ⟨a,b⟩ hz os ho
     obtain⟨o1,o2,rfl⟩:=dB ho
     have ha:=(vx hz).1
     have hb:=(vx hz).2
     have hs:=cQ (h.2 b hb) (n:=n') (by lia) (Thg.plain (hx a ha))
     refine⟨[Fk a,Fk b],rfl,by simp,?_⟩
     simp[hs])
    simp only[uz,wJ]at c
    have bb:=XM (p:=λz:D×D=>FO z.1 z.2) (xs:=xs.zip ts)
    rw[<-RY hlen]at bb
    have zd:Nt xs ts=(xs.zip ts).map λz=>D.tup [z.1,z.2]:=rfl
    rw[sd]
    have ek:=dA (a:=(ts.length:Int)) (b:=ts.length)
    generalize (xs.zip ts).map (λz=>D.bl (FO z.1 z.2))=BB at*
    simp[-Kw,HC,i1,i2,hq.1,hq.2,e3,e5,hlen,ek,e1,e1',zd,c,bb]
   .have hl:¬(xs.length:Int)=ts.length:=by lia
    have hb:((xs.length:Int)==ts.length)=false:=by simpa using hl
    have ek:=dA (a:=(xs.length:Int)) (b:=ts.length)
    rw[hb]at ek
    rw[sd,Uc hlen]
    simp[-Kw,HC,i1,i2,hq.1,hq.2,e3,e5,ek]
  .have hq':(Ve x && Ve T)=false:=by
    cases h1:Ve x<;>cases h2:Ve T<;>simp_all
   have test:∀{y:Ex},xIf (Hs (eOp (o2 K5) [eV 0,eC (.ty "tuple")]) (eOp (o2 K5) [eV 1,eC (.ty "tuple")])) y D5 [Fk X,Fk T] S=Fk (.nx,[Fk X,Fk T],S):=λ{y}=>by
    cases h1:Ve x with
    |false=>rw[h1]at i1;simp[-Kw,i1]
    |true=>
     have h2:Ve T=false:=by rw[h1]at hq';simpa using hq'
     rw[h1]at i1
     rw[h2]at i2
     simp[-Kw,dT,i1,i2]
   cases hb:iB x with
   |true=>
    have sd:FO x T=false:=by
     cases x with
     |bl b=>cases T<;>rfl
     |_=>simp[iB]at hb
    rw[hb]at b1
    rw[nb]at b2
    have ek:=dF (a:=true) (b:=false)
    rw[sd]
    simp[-Kw,-O4,HC,test,dT,b1,b2,ek]
   |false=>
    rw[hb]at b1
    rw[nb]at b2
    have ek:=dF (a:=false) (b:=false)
    have eqk:VO (dr S X) (.val T)=Fk (.val (.bl (FO x T))):=by
     rw[<-dT]
     by_cases hl:(∃xs,x=.lst xs)/\Ve T=true
     .obtain⟨⟨xs,rfl⟩,h2⟩:=hl
      cases T with
      |tup ts=>exact iw h g.as gT.as
      |_=>cases h2
     .refine kM g.th h.pl g.as gT.as (λb z=>by rw[z]at hb;simp[iB]at hb) ?_
      rintro xs ts ⟨z1,z2⟩
      rcases z2 with z2|z2
      .rcases z1 with z1|z1
       .exact hq ⟨by rw[z1];rfl,by rw[z2];rfl⟩
       .exact hl ⟨⟨xs,z1⟩,by rw[z2];rfl⟩
      .rw[z2]at h;exact h.elim
    simp[-Kw,-O4,HC,test,dT,b1,b2,ek,eqk]
end
section
variable{S:Sto}{t:Tr}{ls:Gc Ld}{ds:Gc Ab}{st:Stt}{p s l m k q:Nat}{as:Gc Nat}
theorem Zr{n0:Nat}{c0:Cl}(h0:S[n0]?=Fk c0)(hn0:n0∉s::l::m::as)(h:BP t ls ds)(hp:CQ p S)(hS:SAt S s l m as (st0 t ls))(hps:p∉s::l::m::as){a1 a3 a4 o6 o7 o8 o9 o10:uD D}:∃u6 as' S',Ni [] (tNm 6) (Bm (AJ BH [eV 2,eV 5,eV 6])) (ds.map Ab.d) [Fk (.ref p),a1,Fk t.d,a3,a4,Fk (.ref s),o6,o7,o8,o9,o10] S=Fk (.nx,[Fk (.ref p),a1,Fk t.d,a3,a4,Fk (.ref s),u6,o7,o8,o9,o10],S')/\CQ p S'/\SAt S' s l m as' (runs t (st0 t ls) ds)/\p∉s::l::m::as'/\S'[n0]?=Fk c0/\n0∉s::l::m::as':=by
 obtain⟨E',S',ef,i,as',u6,f1,f2,rfl,f3,f4,f5,f6,f7⟩:=EI (gs:=[]) (t:=tNm 6) (b:=Bm (AJ BH [eV 2,eV 5,eV 6]))
  (I:=λrs E S'=>∃(i:Nat) (as':Gc Nat) (u6:uD D),rs=(ds.drop i).map Ab.d/\i<=ds.length/\E=[Fk (.ref p),a1,Fk t.d,a3,a4,Fk (.ref s),u6,o7,o8,o9,o10]/\CQ p S'/\SAt S' s l m as' (runs t (st0 t ls) (ds.take i))/\p∉s::l::m::as'/\S'[n0]?=Fk c0/\n0∉s::l::m::as')
  (λ_ _ _ _=>Au) (ds:=ds.map Ab.d) (E:=[Fk (.ref p),a1,Fk t.d,a3,a4,Fk (.ref s),o6,o7,o8,o9,o10]) (S:=S)
  ⟨0,as,o6,by simp,wR _,rfl,hp,hS,hps,h0,hn0⟩ (by
    rintro dd rs E T ⟨i,as',u6,i1,i2,rfl,i3,i4,i5,i6,i7⟩
    have hlt:i<ds.length:=by
     rcases xQ i ds.length with w|w
     .exact w
     .rw[vX w]at i1;cases i1
    rw[uy hlt,ui]at i1
    injection i1 with z1 z2
    subst z1 z2
    have hd:ds[i]?=Fk ds[i]:=W1 hlt
    have il:(ds.take i).length<=16:=by have:=h.len;simp;omega
    obtain⟨T2,as2,k1,k2,k3,k4⟩:=Z3 i4 h.tr (h.at i) il (GD h.good hd)
    rw[<-KU hd]at k2
    have lp:=i3.lt
    exact⟨[Fk (.ref p),a1,Fk t.d,a3,a4,Fk (.ref s),Fk ds[i].d,o7,o8,o9,o10],[Fk (.ref p),a1,Fk t.d,a3,a4,Fk (.ref s),Fk ds[i].d,o7,o8,o9,o10],T2,by simp,by simp[k1],i+1,as2,Fk ds[i].d,rfl,hlt,rfl,i3.keep k3 i5,k2,ME i5 lp k4,k3.get i6 i7,ME i7 (Ad i6) k4⟩)
 have hz:i=ds.length:=by
  have:=congrArg xf f1
  simp at this
  omega
 subst hz
 rw[List.take_length]at f4
 exact⟨u6,as',S',ef,f3,f4,f5,f6,f7⟩
theorem Xm{n0:Nat}{c0:Cl}(h:CQ p S)(h0:S[n0]?=Fk c0)(hne:n0≠p):∃t ls ds S',Gb [.ref p,.int 8] S=Fk (Ae t ls ds,S')/\BP t ls ds/\ds.length<=11/\CQ p S'/\S'[n0]?=Fk c0:=by
 obtain⟨t,ls,ds,S1,e1,⟨hb,hl⟩,⟨ho,hh⟩,p1,kp1⟩:=bp (M:=8) (by decide) h
 rw[show((8:Nat):Int)=8 from rfl]at e1
 obtain⟨s,l,m,as,S2,e2,hS,sm,hn⟩:=RJ (S:=S1) (t:=t) (ls:=ls) (x:=.tup (ds.map Ab.d)) (by have:=hb.inv.len;simp[st0]at this;omega)
 have p2:CQ p S2:=p1.keep sm (by simp)
 have lp1:=p1.lt
 have hps:p∉s::l::m::as:=λz=>by have:=hn p z;omega
 have h1:=kp1 n0 c0 h0 hne
 have h2:=sm.get h1 (by simp)
 have hn2:n0∉s::l::m::as:=λz=>by have:=hn n0 z;have:=Ad h1;lia
 obtain⟨u6,as3,S3,e3,p3,hS3,hps3,h3,hn3⟩:=Zr h2 hn2 hb p2 hS hps (a1:=Fk (.int 8)) (a3:=Fk (.tup (ls.map Ld.d))) (a4:=Fk (.tup (ds.map Ab.d))) (o6:=uC) (o7:=uC) (o8:=uC) (o9:=uC) (o10:=uC)
 have hq:(S3++[Cl.lst (ds.map Ab.d)])[S3.length]?=Fk (.lst (ds.map Ab.d)):=ua
 have lt3:=hS3.lts
 have qn:S3.length∉s::l::m::as3:=λz=>by have:=lt3 _ z;omega
 have lp3:=p3.lt
 have tc:=qm hq (by omega)
 have hS4:SAt (S3++[Cl.lst (ds.map Ab.d)]) s l m as3 (runs t (st0 t ls) ds):=hS3.UK .app
 have p4:CQ p (S3++[Cl.lst (ds.map Ab.d)]):=p3.app _
 generalize hQ:S3.length=q at*
 have hqp:q≠p:=by omega
 have lq:n0<q:=by have:=Ad h3;omega
 obtain⟨c,hc,hc2⟩:∃c:Int,(3:Int)-((ds.filter F4).map Ab.d).length=c/\c<=3:=⟨_,rfl,by omega⟩
 have hc3: -1000<=c:=by
  have:(ds.filter F4).length<=ds.length:=xG _ _
  simp at hc
  omega
 obtain⟨E',S',ef,ds',as',v6,v7,v8,v9,v10,rfl,f1,f2,f3,f4,f5,f6,f7,f8,f9⟩:=EI (gs:=[]) (t:=tNm 7) (b:=ZG)
  (I:=λrs E S'=>∃(ds':Gc Ab) (as':Gc Nat) (v6 v7 v8 v9 v10:uD D),E=[Fk (.ref p),Fk (.int 8),Fk t.d,Fk (.tup (ls.map Ld.d)),Fk (.ref q),Fk (.ref s),v6,v7,v8,v9,v10]/\S'[q]?=Fk (.lst (ds'.map Ab.d))/\CQ p S'/\SAt S' s l m as' (runs t (st0 t ls) ds')/\BP t ls ds'/\ds'.length+rs.length<=11/\p∉s::l::m::as'/\q∉s::l::m::as'/\S'[n0]?=Fk c0/\n0∉s::l::m::as')
  (λ_ _ _ _=>Au) (ds:=J6 0 c.toNat) (E:=[Fk (.ref p),Fk (.int 8),Fk t.d,Fk (.tup (ls.map Ld.d)),Fk (.ref q),Fk (.ref s),u6,uC,uC,uC,uC]) (S:=S3++[Cl.lst (ds.map Ab.d)])
  ⟨ds,as3,u6,uC,uC,uC,uC,rfl,hq,p4,hS4,hb,by rw[D9];omega,hps3,qn,Ce.get (A:=[]) .app h3 (by simp),hn3⟩ (by
    rintro dd rs E T ⟨ds',as',v6,v7,v8,v9,v10,rfl,i1,i2,i3,i4,i5,i6,i7,i8,i9⟩
    simp only[vJ]at i5
    obtain⟨d,w8,w9,w10,T1,e5,g5,can⟩:=eR i2 i3 i6 i4.tr i4.fin (by omega) (a1:=Fk (.int 8)) (a3:=Fk (.tup (ls.map Ld.d))) (a4:=Fk (.ref q)) (o6:=v6) (o7:=Fk dd) (o8:=v8) (o9:=v9) (o10:=v10)
    have j3:=i3.same g5.same (by simpa using i6)
    have j1:T1[q]?=Fk (.lst (ds'.map Ab.d)):=g5.get i1 hqp
    obtain⟨T2,as2,k1,k2,k3,k4⟩:=Z3 j3 i4.tr i4.fin (by omega) can
    have q2:=k3.get j1 i7
    have cq:=AY q2
    have hz:(ds'.map Ab.d).length<sizeLine:=uG (show _<50 by simp;omega) (AN (by decide))
    have lt1:=Ad j1
    have lp:=g5.pen.lt
    have qn2:=ME i7 lt1 k4
    have pn2:=ME i6 lp k4
    rw[<-N1]at k2
    refine⟨_,[Fk (.ref p),Fk (.int 8),Fk t.d,Fk (.tup (ls.map Ld.d)),Fk (.ref q),Fk (.ref s),Fk d.d,Fk dd,w8,w9,w10],T2.set q (.lst ((ds'++[d]).map Ab.d)),by simp;rfl,?_,ds'++[d],as2,_,_,_,_,_,rfl,uS (Ad q2),?_,k2.same (A:=[q]) (.set (by simp)) (by simpa using qn2),i4.snoc (by omega) can,by simp;omega,pn2,qn2,?_,ME i9 (Ad (g5.get i8 hne)) k4⟩
    .rw[Zx]
     generalize hD:ds'.map Ab.d=DD at*
     simp[e5,k1,cq,hz,hD]
    .exact(g5.pen.keep k3 i6).keep (A:=[q]) (.set (by simp)) (by simp;omega)
    .rw[uK (by lia)];exact k3.get (g5.get i8 hne) i9)
 refine⟨t,ls,ds',S',?_,f4,?_,f2,f8⟩
 rotate_left
 .simpa using f5
 have df:=BE f1
 have rk:Jn c=true:=DY (by omega) (by omega)
 have eb:NQ=(Aa (Qs (tTp [tNm 2,tNm 3,tNm 4]) (AJ Ih [eV 0,eV 1]))
  (Aa (BQ 5 (AJ Dc [Cm [eV 2,eV 3,eV 4]]))
  (Aa (MH (Js (eV 4)) (tNm 6) (Bm (AJ BH [eV 2,eV 5,eV 6])))
  (Aa (BQ 4 (gu (o1 L5) [eV 4]))
  (Aa (MH (PM [eOp (o2 OG) [eC (.int 3),eOp (o1 Jq) [C9 [] 1 (Js (eV 4)) (tNm 0) (eOp (o2 wEq) [eOp (o2 wIx) [eV 0,eC (.int 0)],eC (.str "throw")]) (eV 0)]]]) (tNm 7) ZG)
  (BI (Cm [eV 2,eV 3,eOp (o1 CS) [eV 4]]))))))):=rfl
 have sq:=Hh hq
 unfold Gb
 rw[eb]
 simp only[Ae]at e1⊢
 generalize (ds.filter F4).map Ab.d=TD at*
 generalize ds.map Ab.d=DD at*
 generalize ds'.map Ab.d=DD2 at*
 simp[e1,e2,e3,hQ,sq,Pa,tc,hc,rk,ef,df]
end
section
variable{S:Sto}{p:Nat}
theorem V4{n:Nat}:Al (n+1)=Ar (A3 4 (HP (Al n))):=rfl
noncomputable def consts:Gc D:=[.non,.bl true,.bl false,.int 0,.int 1,.int (-1),.int 9,.int (10^39),.str "",.str "a",.tup [],.lst []]
theorem Xk:∀x∈consts,Th x:=by
 intro x hx
 simp only[consts,uI,uX,vV]at hx
 rcases hx with rfl|rfl|rfl|rfl|rfl|rfl|rfl|rfl|rfl|rfl|rfl|rfl
 .exact .non
 .exact .bl _
 .exact .bl _
 .exact .int _
 .exact .int _
 .exact .int _
 .exact .int _
 .exact .int _
 .exact .str _ (by decide+kernel)
 .exact .str _ (by decide+kernel)
 .exact .tup (λd hd=>by cases hd) (by decide)
 .exact .lst (λd hd=>by cases hd) (by decide)
def XY:Ev:=(Fh [eC .non,eC (.bl true),eC (.bl false),eC (.int 0),eC (.int 1),eOp (o1 Nk) [eC (.int 1)],eC (.int 9),eOp (o2 YM) [eC (.int 10),eC (.int 39)],eC (.str ""),eC (.str "a"),Cm [],Fh []])
theorem WW{E:En}:XY E S=Fk (.lst consts,S):=by
 have n1:Nk (.val (.int 1))=Fk (.val (.int (-1))):=rfl
 have p1:YM (.val (.int 10)) (.val (.int 39))=Fk (.val (.int (10^39))):=by with_unfolding_all rfl
 have sz:(12:Nat)<=sizeLine:=AN (by decide)
 simp[XY,n1,p1,consts,sz]
theorem RB:∀{n d:Nat},d<n->∀{S:Sto},CQ p S->∃X S',Al n [.ref p,.int d] S=Fk (X,S')/\Th X/\Pn p S S'
 |0,d,h,_,_=>absurd h (by omega)
 |n+1,d,h,S,hp=>by
  obtain⟨way,S1,e1,w0,w1,p1⟩:=Aj hp (n:=12) (by decide) (by decide)
  rw[V4]
  have eb:HP (Al n)=(Aa (BQ 2 (AJ AI [eV 0,eC (.int 12)]))
  (Aa (xIf (eOr (eOp (o2 wLt) [eV 2,eC (.int 8)]) (eOp (o2 wEq) [eV 1,eC (.int 0)])) (BI (eOp (o2 wIx) [XY,AJ AI [eV 0,eC (.int 12)]])) D5)
  (Aa (BQ 3 (C9 [0,1] 1 (PM [AJ AI [eV 0,eC (.int 4)]]) (tNm 2) Cr (AJ (Al n) [eV 0,eOp (o2 OG) [eV 1,eC (.int 1)]])))
  (Aa (xIf (eOp (o2 wEq) [eV 2,eC (.int 8)]) (BI (eV 3)) D5)
  (Aa (xIf (eOp (o2 wEq) [eV 2,eC (.int 9)]) (BI (eY [((eC (.str "a")),(eV 3))])) D5)
  (BI (eOp (o1 CS) [eV 3]))))))):=rfl
  rw[eb]
  by_cases c:way<8\/d=0
  .obtain⟨r,S2,e2,r0,r1,p2⟩:=Aj p1.pen (n:=12) (by decide) (by decide)
   obtain⟨x,ax,hx⟩:=pick (xs:=consts) r0 (by simpa[consts]using r1)
   refine⟨x,S2,?_,Xk x hx,p1.trans p2⟩
   have k:=λE=>WW (S:=S1) (E:=E)
   rcases Decidable.em (way<8)with c1|c1
   .simp[e1,c1,k,e2,ax]
   .have c2:d=0:=c.resolve_left c1
    subst c2
    simp[e1,c1,k,e2,ax]
  .have c1:¬way<8:=λz=>c (.inl z)
   have c2:¬d=0:=λz=>c (.inr z)
   obtain⟨r,S2,e2,r0,r1,p2⟩:=Aj p1.pen (n:=4) (by decide) (by decide)
   obtain⟨k,rfl⟩:=HJ r0
   have rk:Jn (k:Int)=true:=DY (by omega) (by omega)
   obtain⟨ys,S3,e3,i3,l3,r3⟩:=Lj (gs:=[]) (t:=tNm 2) (f:=AJ (Al n) [eV 0,eOp (o2 OG) [eV 1,eC (.int 1)]]) (C:=[Fk (.ref p),Fk (.int d)]) (m:=1) (I:=λT=>Pn p S2 T) (R:=λ_ y=>Th y) (λ_ _=>Au) (ds:=J6 0 k) (acc:=[]) (os:=[uC]) (S:=S2) rfl (.refl p2.pen) (AN (by simp[D9];omega)) (by
    intro dd hd os T ho hI
    match os,ho with
    | [a],_=>
    obtain⟨X,T',ex,hX,hP⟩:=RB (n:=n) (d:=d-1) (by omega) hI.pen
    refine⟨[Fk dd],X,T',rfl,by simp,?_,hI.trans hP,hX⟩
    have ec:(d:Int)-1=((d-1:Nat):Int):=by omega
    simp[ec,ex])
   have th:=Kt r3
   have ly:ys.length<=1000:=by rw[l3,D9];omega
   have pn:=(p1.trans p2).trans i3
   simp only[uz,vK]at e3
   have c2':((d:Int)==0)=false:=by simpa using c2
   have tn:(k:Int).toNat=k:=by omega
   by_cases w8:way=8
   .subst w8
    refine⟨.lst ys,S3,?_,.lst th ly,pn⟩
    simp[e1,c2',e2,rk,Pa,e3,tn]
   .have w8':(way==8)=false:=by simpa using w8
    by_cases w9:way=9
    .subst w9
     refine⟨.dct (Oa [] [(.inr "a",.lst ys)]),S3,?_,.dct _,pn⟩
     simp[e1,c2',e2,rk,Pa,e3,tn]
    .have w9':(way==9)=false:=by simpa using w9
     refine⟨.tup ys,S3,?_,.tup th ly,pn⟩
     simp[e1,c1,c2',e2,rk,Pa,e3,tn,w8',w9']
end
section
variable{S:Sto}{p:Nat}
theorem G3{L:Gc D}{lo hi:uD Int}{x:D}(h:x∈IY L lo hi):x∈L:=List.mem_of_mem_drop (List.mem_of_mem_take h)
theorem FR{L:Gc D}{lo hi:uD Int}:(IY L lo hi).length<=L.length:=by
 unfold IY
 simp[yp,z0]
 lia
theorem Ux{xs:Gc D}{x:D}(h:x∈VC xs):x∈xs:=by
 unfold VC at h
 obtain⟨k,_,hk⟩:=zK.mp h
 exact uY hk
theorem U8{xs:Gc D}:(VC xs).length<=xs.length:=by
 unfold VC
 refine uO (yK _ _) ?_
 rw[yd]
 exact uN _
@[simp] theorem ke{xs:List D}:hV (.val (.tup xs))=some (.val (.tup (VC xs))):=nr rfl
theorem gD{r:Rat}:Th (aD r):=.tup (λd hd=>by
 simp only[uI,uX,vV]at hd
 rcases hd with rfl|rfl<;>exact .int _) (by simp)
noncomputable def iY(a b:Rat):Gc D:=[.tup [aD a,.tup [.int (b.num+1),.int b.den]],.tup [.tup [.int (2*a.num),.int (2*(a.den:Int))],aD b],.tup [aD b,aD a],.tup [aD a],.lst [aD a,aD b],.tup [aD a,.lst [.int b.num,.int b.den]],.tup [aD a,aD b,aD b]]
theorem jm{a b:Rat}:∀x∈iY a b,Th x:=by
 have A:=gD (r:=a)
 have B:=gD (r:=b)
 have two:∀{x y:D},Th x->Th y->∀d∈ [x,y],Th d:=λhx hy d hd=>by
  simp only[uI,uX,vV]at hd
  rcases hd with rfl|rfl
  .exact hx
  .exact hy
 intro x hx
 simp only[iY,uI,uX,vV]at hx
 rcases hx with rfl|rfl|rfl|rfl|rfl|rfl|rfl
 .exact .tup (two A (.tup (two (.int _) (.int _)) (by simp))) (by simp)
 .exact .tup (two (.tup (two (.int _) (.int _)) (by simp)) B) (by simp)
 .exact .tup (two B A) (by simp)
 .exact .tup (λd hd=>by rw[uo.mp hd];exact A) (by simp)
 .exact .lst (two A B) (by simp)
 .exact .tup (two A (.lst (two (.int _) (.int _)) (by simp))) (by simp)
 .exact .tup (λd hd=>by
   rcases uI.mp hd with rfl|hd
   .exact A
   .exact two B B d hd) (by simp)
theorem So{L:Gc D}(hL:∀d∈L,∃a b:Rat,d=.tup [aD a,aD b])(h1:1<=L.length)(h4:L.length<=4)(hp:CQ p S):∃X S',B1 [.ref p,.tup L] S=Fk (X,S')/\Th X/\Pn p S S':=by
 have tL:∀d∈L,Th d:=λd hd=>by
  obtain⟨a,b,rfl⟩:=hL d hd
  exact .tup (λd hd=>by
   simp only[uI,uX,vV]at hd
   rcases hd with rfl|rfl<;>exact gD) (by simp)
 obtain⟨r1,S1,e1,a1,b1,p1⟩:=Aj hp (n:=(L.length:Int)) (by lia) (by lia)
 obtain⟨r2,S2,e2,a2,b2,p2⟩:=Aj p1.pen (n:=8) (by decide) (by decide)
 obtain⟨y,ey,hy⟩:=pick (xs:=L) (r:=r1) a1 b1
 obtain⟨a,b,rfl⟩:=hL y hy
 have m1:DZ 2 a.num=true:=mulL (by decide) (by decide)
 have m2:DZ 2 (a.den:Int)=true:=mulL (by decide) (by decide)
 have s1:(1:Nat)<=sizeLine:=AN (by decide)
 have s2:(2:Nat)<=sizeLine:=AN (by decide)
 have s3:(3:Nat)<=sizeLine:=AN (by decide)
 have s4:(4:Nat)<=sizeLine:=AN (by decide)
 have s5:(5:Nat)<=sizeLine:=AN (by decide)
 have s7:(7:Nat)<=sizeLine:=AN (by decide)
 have c1:=FR (L:=L) (lo:=uC) (hi:=Fk r1)
 have c2:=FR (L:=L) (lo:=Fk (r1+1)) (hi:=uC)
 have c3:=FR (L:=L) (lo:=uC) (hi:=Fk 1)
 have z1:(IY L uC (Fk r1)).length+(IY L (Fk (r1+1)) uC).length<=sizeLine:=AN (by lia)
 have z2:L.length+(IY L uC (Fk 1)).length<=sizeLine:=AN (by lia)
 have z3:(IY L uC (Fk r1)).length+1<=sizeLine:=AN (by lia)
 have z4:(IY L uC (Fk r1)).length+1+(IY L (Fk (r1+1)) uC).length<=sizeLine:=AN (by lia)
 have z5:L.length<=sizeLine:=AN (by lia)
 by_cases h7:r2=7
 .subst h7
  obtain⟨r3,S3,e3,a3,b3,p3⟩:=Aj p2.pen (n:=4) (by decide) (by decide)
  obtain⟨X,eX,hX⟩:=pick (xs:=[D.tup (IY L uC (Fk r1)++IY L (Fk (r1+1)) uC),.tup (L++IY L uC (Fk 1)),.lst L,.tup (VC L)]) (r:=r3) a3 b3
  refine⟨X,S3,?_,?_,(p1.trans p2).trans p3⟩
  .simp only[aD]at ey
   simp[B1,He,e1,e2,ey,m1,m2,s1,s2,s3,s4,s5,s7,z1,z2,z5,e3,eX]
  .simp only[uI,uX,vV]at hX
   rcases hX with rfl|rfl|rfl|rfl
   .exact .tup (λd hd=>(ub.mp hd).elim (λz=>tL d (G3 z)) λz=>tL d (G3 z)) (by simp;lia)
   .exact .tup (λd hd=>(ub.mp hd).elim (tL d) λz=>tL d (G3 z)) (by simp;lia)
   .exact .lst tL (by lia)
   .exact .tup (λd hd=>tL d (Ux hd)) (by have:=U8 (xs:=L);lia)
 .have h7':(r2==7)=false:=by simpa using h7
  obtain⟨X,eX,hX⟩:=pick (xs:=iY a b) (r:=r2) a2 (by simp[iY];lia)
  have tX:=jm X hX
  refine⟨.tup (IY L uC (Fk r1)++[X]++IY L (Fk (r1+1)) uC),S2,?_,?_,p1.trans p2⟩
  .simp only[aD,iY]at ey eX
   simp[B1,He,e1,e2,ey,m1,m2,s1,s2,s3,s4,s5,s7,z1,z3,z4,h7',eX]
  .exact .tup (λd hd=>by
    rcases ub.mp hd with hd|hd
    .rcases ub.mp hd with hd|hd
     .exact tL d (G3 hd)
     .rw[uo.mp hd];exact tX
    .exact tL d (G3 hd)) (by simp;lia)
end
section
variable{S:Sto}{p:Nat}
theorem fM(c:Char):c.toNat<1114112:=by
 have h:c.toNat.isValidChar:=c.valid
 rcases h with h|h
 .exact Nat.lt_trans h (by decide)
 .exact h.2
theorem ZZ{x:xA}:vi (vk x)=true:=by
 unfold vi vk
 simp
 intro c hc
 rw[cpsOfBytes_string]at hc
 obtain⟨ch,_,rfl⟩:=uk.mp hc
 exact fM ch
inductive Sj:Nat->D->Prop
 |int {n:Nat} {i:Int} (h:i.natAbs.log2<1920):Sj n (.int i)
 |tup {n:Nat} {ds:Gc D} (h:∀d∈ds,Sj n d) (l:ds.length<=100):Sj (n+1) (.tup ds)
theorem Sj.th:∀{n:Nat} {d:D},Sj n d->Th d
 |_,_,.int h=>.int _
 |_,_,.tup h l=>.tup (λd hd=>Sj.th (h d hd)) (by lia)
theorem Sj.lay:∀{n:Nat} {d:D},Sj n d->d.lay=true
 |_,_,.int h=>rfl
 |_,_,.tup (ds:=ds) h l=>by
  show D.Ri ds=true
  have:=MM (f:=id) (xs:=ds) λd hd=>Sj.lay (h d hd)
  simpa using this
@[simp] theorem j6{i:Int}:iz (.val (.int i))=if i.natAbs.log2<1920 then some (.val (.str (toString i)))else none:=nr rfl
@[simp] theorem mv{z:Str}:wUp (.val (.str z))=if(Txt.upper z).length<=sizeLine then some (.val (.str (Txt.upper z)))else none:=nr rfl
theorem gG{xs ys:Gc D}(hx:∀d∈xs,Th d)(hy:∀d∈ys,Th d)(l:xs.length+ys.length<=1000):Th (.tup (xs++ys)):=.tup (λd hd=>(ub.mp hd).elim (hx d) (hy d)) (by simpa using l)
theorem XW{ds:Gc D}(h:D.Ri ds=true):ED (.tup ds) (.tup [])=true:=by
 unfold ED
 show(D.Ri ds && true && decide (min (D.tup ds).py.depth (D.tup []).py.depth<=60))=true
 rw[h]
 have:(D.tup []).py.depth<=60:=by decide
 rw[wg (by omega)]
 rfl
theorem aF{ds:Gc D}:deq (.tup ds) (.tup [])=ds.isEmpty:=by
 cases ds<;>rfl
theorem qV{r:Int}(h0:0<=r)(h1:r<4):r=0\/r=1\/r=2\/r=3:=by omega
theorem Zy{n:Nat}:Cd (n+1)=Ar (A3 4 (IL (Cd n))):=rfl
def spT:Ex:=(Aa (BQ 3 (AJ AI [eV 0,eC (.int 8)]))
    (Aa (xIf (Hs (eOp (o2 K5) [eV 1,eC (.ty "tuple")]) (eOp (o2 wLt) [eV 3,eC (.int 4)])) (BI (eOp (o2 wIx) [Fh [eOp (o2 CJ) [eV 1,eOp (Kq true false) [eV 1,eOp (o1 Nk) [eC (.int 1)]]],eOp (Kq false true) [eV 1,eOp (o1 Nk) [eC (.int 1)]],eOp (o1 L5) [eV 1],eOp (o1 hV) [eV 1]],eV 3])) D5)
    (Aa (xIf (Hs (eOp (o2 K5) [eV 1,eC (.ty "int")]) (eOp (o2 wLt) [eV 3,eC (.int 4)])) (BI (eOp (o2 wIx) [Fh [eOp (o2 CJ) [eV 1,eC (.int 1)],eOp (o2 OG) [eV 1,eC (.int 1)],eOp (o2 wGt) [eV 1,eC (.int 0)],eOp (o1 iz) [eV 1]],eV 3])) D5)
    (Aa (xIf (Hs (eOp (o2 K5) [eV 1,eC (.ty "str")]) (eOp (o2 wLt) [eV 3,eC (.int 4)])) (BI (eOp (o2 wIx) [Fh [eOp (o2 CJ) [eV 1,eC (.str "a")],eOp (o1 wUp) [eV 1],eOp (Kq false true) [eV 1,eOp (o1 Nk) [eC (.int 1)]],eOp (o2 CJ) [eC (.str "1"),eV 1]],eV 3])) D5)
    (BI (AJ (Al 8) [eV 0,eC (.int 2)]))))))
theorem Ru{rec:Fn}:IL rec=(Aa (xIf (Hs (eOp (o2 K5) [eV 1,eC (.ty "tuple")]) (Hs (eOp (o2 wNe) [eV 1,Cm []]) (eOp (o2 wGt) [AJ AI [eV 0,eC (.int 6)],eC (.int 0)]))) (Aa (BQ 2 (AJ AI [eV 0,eOp (o1 Jq) [eV 1]])) (BI (eOp (o2 CJ) [eOp (o2 CJ) [eOp (Kq false true) [eV 1,eV 2],Cm [AJ rec [eV 0,eOp (o2 wIx) [eV 1,eV 2]]]],eOp (Kq true false) [eV 1,eOp (o2 CJ) [eV 2,eC (.int 1)]]]))) D5) spT):=rfl
theorem M8:∀(N k:Nat) {d:D} {S:Sto},k<N->Sj k d->CQ p S->∃X S',Cd N [.ref p,d] S=Fk (X,S')/\Th X/\Pn p S S'
 |0,k,d,S,h,_,_=>absurd h (AAb _)
 |N+1,k,d,S,hk,sd,h=>by
  have rest:∀{T:Sto},CQ p T->∃X T',Al 8 [.ref p,.int 2] T=Fk (X,T')/\Th X/\Pn p T T':=λhq=>RB (n:=8) (d:=2) (by decide) hq
  have hl:=sd.lay
  have s4:(4:Nat)<=sizeLine:=AN (by decide)
  have n1:Nk (.val (.int 1))=Fk (.val (.int (-1))):=rfl
  rw[Zy]
  cases sd with
  | @int _ i hi=>
    obtain⟨r1,S1,e1,a1,b1,p1⟩:=Aj h (n:=8) (by decide) (by decide)
    by_cases c:r1<4
    .have lg:=hi
     have q:(atI [D.int (i+1),.int (i-1),.bl (decide (0<i)),.str (toString i)] r1).map (λx=>(x,S1))=Ar (A3 4 (IL (Cd N))) [.ref p,.int i] S:=by
      simp[Ru,spT,St.Kd.isA,e1,c,lg,s4]
      generalize atI _ r1=o
      cases o<;>rfl
     rcases qV a1 c with rfl|rfl|rfl|rfl
     .exact⟨.int (i+1),S1,q.symm,.int _,p1⟩
     .exact⟨.int (i-1),S1,q.symm,.int _,p1⟩
     .exact⟨.bl (decide (0<i)),S1,q.symm,.bl _,p1⟩
     .exact⟨.str (toString i),S1,q.symm,.str _ ZZ,p1⟩
    .obtain⟨w,q',ew,tw,pw⟩:=rest p1.pen
     exact⟨w,q',by simp[Ru,spT,St.Kd.isA,e1,c,ew],tw,p1.trans pw⟩
  | @tup k' xs hx lx=>
    have tx:∀d∈xs,Th d:=λd hd=>(hx d hd).th
    have ways:∀{T:Sto},CQ p T->∃X T' r,AI [.ref p,.int 8] T=Fk (.int r,T')/\Pn p T T'/\Th X/\((r<4/\atI [D.tup (xs++IY xs (Fk (-1)) uC),.tup (IY xs uC (Fk (-1))),.lst xs,.tup (VC xs)] r=Fk X)\/(¬r<4/\∃T'',Al 8 [.ref p,.int 2] T'=Fk (X,T'')/\Pn p T' T'')):=by
     intro T hq
     obtain⟨r1,d1,e1,a1,b1,p1⟩:=Aj hq (n:=8) (by decide) (by decide)
     by_cases c:r1<4
     .rcases qV a1 c with rfl|rfl|rfl|rfl
      .exact⟨_,d1,0,e1,p1,gG tx (λd hd=>tx d (G3 hd)) (by have:=FR (L:=xs) (lo:=Fk (-1)) (hi:=uC);omega),.inl ⟨by decide,rfl⟩⟩
      .exact⟨_,d1,1,e1,p1,.tup (λd hd=>tx d (G3 hd)) (by have:=FR (L:=xs) (lo:=uC) (hi:=Fk (-1));omega),.inl ⟨by decide,rfl⟩⟩
      .exact⟨_,d1,2,e1,p1,.lst tx (by omega),.inl ⟨by decide,rfl⟩⟩
      .exact⟨_,d1,3,e1,p1,.tup (λd hd=>tx d (Ux hd)) (by have:=U8 (xs:=xs);omega),.inl ⟨by decide,rfl⟩⟩
     .obtain⟨w,q',ew,tw,pw⟩:=rest p1.pen
      exact⟨w,d1,r1,e1,p1,tw,.inr ⟨c,q',ew,pw⟩⟩
    have z1:xs.length+(IY xs (Fk (-1)) uC).length<=sizeLine:=AN (by have:=FR (L:=xs) (lo:=Fk (-1)) (hi:=uC);omega)
    have hlay:D.Ri xs=true:=hl
    have eo:=XW hlay
    have en:=aF (ds:=xs)
    have tl:∀{T:Sto},CQ p T->∃X T',(spT [Fk (.ref p),Fk (.tup xs),uC,uC] T).map (λr=>(flD r.1,r.2.2))=Fk (X,T')/\Th X/\Pn p T T':=by
     intro T hq
     obtain⟨X,T',r,e1,p1,tw,alt⟩:=ways hq
     rcases alt with⟨c,ed⟩|⟨c,q'',ew,pw⟩
     .exact⟨X,T',by simp[spT,St.Kd.isA,e1,c,z1,ed,s4,n1],tw,p1⟩
     .exact⟨X,q'',by simp[spT,St.Kd.isA,e1,c,ew],tw,p1.trans pw⟩
    by_cases hemp:xs.isEmpty=true
    .obtain⟨X,T',e1,tw,p1⟩:=tl h
     exact⟨X,T',by simp[Ru,St.Kd.isA,eo,en,hemp,e1],tw,p1⟩
    .have hemp:xs.isEmpty=false:=by simpa using hemp
     have hpos:0<xs.length:=by
      cases xs with
      |nil=>cases hemp
      |cons a b=>simp
     obtain⟨r0,S0,e0,a0,b0,p0⟩:=Aj h (n:=6) (by decide) (by decide)
     by_cases c0:0<r0
     .obtain⟨r1,S1,e1,a1,b1,p1⟩:=Aj p0.pen (n:=(xs.length:Int)) (by omega) (by omega)
      obtain⟨y,ey,hy⟩:=pick (xs:=xs) (r:=r1) a1 b1
      obtain⟨X,S2,ew,tw,pw⟩:=M8 N k' (by omega) (hx y hy) p1.pen
      have z2:(IY xs uC (Fk r1)).length+1<=sizeLine:=AN (by have:=FR (L:=xs) (lo:=uC) (hi:=Fk r1);omega)
      have z3:(IY xs uC (Fk r1)).length+1+(IY xs (Fk (r1+1)) uC).length<=sizeLine:=AN (by have:=FR (L:=xs) (lo:=uC) (hi:=Fk r1);have:=FR (L:=xs) (lo:=Fk (r1+1)) (hi:=uC);omega)
      have s1:(1:Nat)<=sizeLine:=AN (by decide)
      refine⟨.tup (IY xs uC (Fk r1)++X::IY xs (Fk (r1+1)) uC),S2,by simp[Ru,St.Kd.isA,eo,en,hemp,e0,c0,e1,ey,ew,z2,z3,s1],?_,(p0.trans p1).trans pw⟩
      refine .tup (λd hd=>?_) (by
       have:=FR (L:=xs) (lo:=uC) (hi:=Fk r1)
       have:=FR (L:=xs) (lo:=Fk (r1+1)) (hi:=uC)
       rw[vd,vJ]
       omega)
      rcases ub.mp hd with hd|hd
      .exact tx d (G3 hd)
      .rcases uI.mp hd with rfl|hd
       .exact tw
       .exact tx d (G3 hd)
     .obtain⟨X,T',e1,tw,p1⟩:=tl p0.pen
      exact⟨X,T',by simp[Ru,St.Kd.isA,eo,en,hemp,e0,c0,e1],tw,p0.trans p1⟩
end
section
variable{S:Sto}{t:Tr}{ls:Gc Ld}{ds:Gc Ab}
noncomputable def plT(ds:Gc Ab):Gc Nat:=(uU ds.length).filter λi=>F4 (ds.getD i (.K7 0 0))
theorem YH{i:Nat}(h:i∈plT ds):∃l n ws,ds[i]?=Fk (.thr l n ws):=by
 obtain⟨h1,h2⟩:=wm.mp h
 obtain⟨l,n,ws,e⟩:=U7 h2
 have hi:i<ds.length:=by simpa using h1
 refine⟨l,n,ws,?_⟩
 rw[uM,W1 hi]at e
 rw[W1 hi]
 exact congrArg Fk e
theorem WG{E:En}{w:Nat}{d:Ab}(h:at? E w=Fk d.d):eOp (o2 wEq) [eOp (o2 wIx) [eV w,eC (.int 0)],eC (.str "throw")] E S=Fk (.bl (F4 d),S):=by
 cases d<;>simp[h,Ab.d,F4]
theorem plC(hl:ds.length<=50):C7 [] (tTp [tNm 0,tNm 1]) (eOp (o2 wEq) [eOp (o2 wIx) [eV 1,eC (.int 0)],eC (.str "throw")]) (eV 0) (Rl 0 (ds.map Ab.d)) [] [uC,uC] S=Fk ((plT ds).map λ(i:Nat)=>D.int i,S):=by
 have e:=Ho (gs:=[]) (t:=tTp [tNm 0,tNm 1]) (c:=eOp (o2 wEq) [eOp (o2 wIx) [eV 1,eC (.int 0)],eC (.str "throw")]) (f:=eV 0) (C:=[]) (m:=2) (e:=λ(i:Nat)=>D.tup [.int i,(ds.map Ab.d).getD i .non]) (g:=λ(i:Nat)=>D.int i) (b:=λi=>F4 (ds.getD i (.K7 0 0))) (S:=S) Au (xs:=uU ds.length) (acc:=[]) (os:=[uC,uC]) rfl (uO (show _<=50 by simp;lia) (AN (by decide))) (by
  intro z hz os ho
  obtain⟨q1,q2,rfl⟩:=dB ho
  have hz':z<ds.length:=by simpa using hz
  have ed:(ds.map Ab.d).getD z .non=(ds.getD z (.K7 0 0)).d:=by
   rw[uM,uM,uQ,W1 hz'];rfl
  refine⟨[Fk (.int z),Fk (ds.getD z (.K7 0 0)).d],rfl,by rw[ed];simp,?_,by simp⟩
  exact WG rfl)
 have er:=Lz (ds:=ds.map Ab.d)
 rw[vL]at er
 rw[<-er]at e
 simp only[uz]at e
 exact e
theorem jA{i:Int}:inD (.int i) ((plT ds).map λ(i:Nat)=>D.int i)=GI ds (.int i):=by
 unfold plT
 rw[Bool.eq_iff_iff]
 unfold inD
 rw[AAB]
 constructor
 .rintro ⟨y,hy,e⟩
  obtain⟨n,hn,rfl⟩:=uk.mp hy
  obtain⟨h1,h2⟩:=wm.mp hn
  have hi:(n:Int)=i:=by simpa using e
  subst hi
  have h1':n<ds.length:=by simpa using h1
  have h3:(n:Int)<=(ds.length:Int)-1:=by lia
  simp only[GI,uT,xR]
  exact⟨⟨by lia,h3⟩,h2⟩
 .intro h
  simp only[GI,uT,xR]at h
  obtain⟨⟨h0,h1⟩,h2⟩:=h
  obtain⟨n,rfl⟩:=yT h0
  refine⟨.int n,uk.mpr ⟨n,wm.mpr ⟨by simp;lia,h2⟩,rfl⟩,by simp⟩
end
theorem UX{gs:Gd}{t:Tf}{f:Ev}{C:En}{m:Nat}{I:Gc D->Sto->Prop}(hg:∀acc S,I acc S->gOk gs S):∀{ds acc:Gc D} {os:En} {S:Sto},os.length=m->I acc S->acc.length+ds.length<=sizeLine->(∀d∈ds,∀acc os S,os.length=m->I acc S->∃us y S',us.length=m/\t d (C++os) S=Fk (C++us)/\f (C++us) S=Fk (y,S')/\I (acc++[y]) S')->∃ys S',C7 gs t Cr f ds acc (C++os) S=Fk (ys,S')/\I ys S'/\ys.length=acc.length+ds.length
 | [],acc,os,S,ho,hI,hz,h=>⟨acc,S,by rw[FX (hg _ S hI)],hI,rfl⟩
 |d::ds,acc,os,S,ho,hI,hz,h=>by
  obtain⟨us,y,S1,hu,e1,e2,I1⟩:=h d uP acc os S ho hI
  obtain⟨ys,S2,e3,I2,l2⟩:=UX hg (ds:=ds) (acc:=acc++[y]) (os:=us) (S:=S1) hu I1 (by simp at hz ⊢; lia) λd' hd=>h d' (uJ _ hd)
  refine⟨ys,S2,?_,I2,by simp at l2 ⊢; lia⟩
  rw[JO (hg _ S hI) (by simp at hz;lia) e1 HK,e2,Bx,e3]
section
variable{S:Sto}{t:Tr}{ls:Gc Ld}{ds:Gc Ab}{p:Nat}
noncomputable def lE(ds:Gc Ab)(i:Nat):Gc Int:=match ds.getD i (.K7 0 0)with
 | .thr _ _ ws=>ws
 |_=>[]
noncomputable def IS(t:Tr)(ls:Gc Ld)(ds:Gc Ab)(i:Nat):D:=gw t ls ds i (lE ds i)
theorem Ta{i l:Nat}{n:Int}{ws:Gc Int}(h:ds[i]?=Fk (.thr l n ws)):lE ds i=ws:=by
 unfold lE
 rw[uM,h]
 rfl
theorem kj(h:BP t ls ds):∀{is:Gc Nat} {acc:Gc D} {o:uD D} {S:Sto},(∀i∈is,i∈plT ds)->acc.length+is.length<=100->∃S',C7 [] (tNm 1) Cr (AJ CI [eV 0,eV 1]) (is.map λ(i:Nat)=>D.int i) acc [Fk (Ae t ls ds),o] S=Fk (acc++is.map (IS t ls ds),S')/\Ce [] S S'
 | [],acc,o,S,_,_=>⟨S,by rw[vy,FX Au,vy,wJ],.refl⟩
 |i::is,acc,o,S,hi,hl=>by
  simp only[vJ]at hl
  obtain⟨l,n,ws,hn⟩:=YH (hi i uP)
  obtain⟨S1,e1,s1⟩:=UG (S:=S) h hn
  have e1':CI [Ae t ls ds,.int i] S=Fk (IS t ls ds i,S1):=by
   unfold IS;rw[Ta hn];exact e1
  obtain⟨S2,e2,s2⟩:=kj h (is:=is) (acc:=acc++[IS t ls ds i]) (o:=Fk (.int i)) (S:=S1) (λj hj=>hi j (uJ _ hj)) (by simp;lia)
  refine⟨S2,?_,s1.trans s2⟩
  have ef:AJ CI [eV 0,eV 1] [Fk (Ae t ls ds),Fk (.int (i:Int))] S=Fk (IS t ls ds i,S1):=call2.trans e1'
  rw[ui,JO Au (uG (show acc.length<100 by lia) (AN (by decide))) (E1:=[Fk (Ae t ls ds),Fk (.int (i:Int))]) rfl HK,ef,Bx,e2]
  simp
end
section
variable{st:Stt}{t:Tr}{k:Nat}
def PK(k:Nat)(s:Stt):Prop:=∃G B:Nat,0<G/\G<=B/\B<2^(30+157*k)/\(∀l∈s.AE,∀r∈l.ow,Ok G B r)/\∀r∈s.hold,Ok G B r
theorem T6{B T k j:Nat}(hB:B<2^(30+157*k))(hT:T<2^j)(hj:j<=157):B*T<2^(30+157*(k+1)):=by
 have:=Cv hB hT
 exact uG this (KZ (by lia))
theorem PK.of{G B:Nat}(h1:st.AE.length<=4+k)(h2:∀x∈st.AE,LOk t k G B x)(h3:st.hold.length=t.p)(h4:st.nums.length<=k)(g0:0<G)(g1:G<=B)(g2:B<2^(30+157*k))(h5:∀r∈st.hold,Ok G B r):PK k st:=⟨G,B,g0,g1,g2,λx hx=>(h2 x hx).ok,h5⟩
theorem di(ht:Kg t)(h:GC t k st)(w:PK k st)(hk:k<=12){d:Ab}(hc:Can t st d):PK (k+1) (step t st d):=by
 obtain⟨G,B,g0,g1,g2,hl,hh⟩:=w
 have L:∀x∈st.AE,LOk t k G B x:=λx hx=>⟨h.kind x hx,(h.pcs x hx).1,(h.pcs x hx).2,h.own x hx,hl x hx⟩
 have g2':B<2^(30+157*(k+1)):=uG g2 (KZ (by lia))
 have hlen:=h.len
 have hnm:=h.nm
 cases d with
 |Iq p kd n=>
  obtain⟨h1,h2,h3,h4⟩:=hc
  refine PK.of (t:=t) (G:=G) (B:=B) (by simp[step];lia) (Kk (λx hx=>(L x hx).up1) ⟨h2,by show 0<=n;lia,eA h4,by simp[WE],cW g1⟩) h.hold (vc hnm) g0 g1 g2' hh
 |K7 i j=>
  obtain⟨hij,hi,hj,h1,h2,h3⟩:=hc
  have li:=L _ (A5 hi)
  have lj:=L _ (A5 hj)
  have tl:((AU st.AE i).n+(AU st.AE j).n).toNat<2^(132+k):=by
   have a:=li.n1;have b:=lj.n1
   have e:(2:Int)^(132+k)=2^(131+k)*2:=by rw[show 132+k=(131+k)+1 by lia,AAU]
   have:(((AU st.AE i).n+(AU st.AE j).n).toNat:Int)<((2^(132+k):Nat):Int):=by
    rw[vP (by lia)]
    push_cast
    rw[e];lia
   exact_mod_cast this
  have t0:0<((AU st.AE i).n+(AU st.AE j).n).toNat:=by lia
  refine PK.of (t:=t) (G:=G*((AU st.AE i).n+(AU st.AE j).n).toNat) (B:=B*((AU st.AE i).n+(AU st.AE j).n).toNat) (by simp[step,Ca];lia) (Kk ?_ ⟨li.kd,by show 0<=(AU st.AE i).n+(AU st.AE j).n;lia,?_,?_,Sn h1 h2 li.ok lj.ok⟩) h.hold (vc hnm) (x8 g0 t0) (vA _ g1) (T6 g2 tl (by lia)) (λr hr=>(hh r hr).up (uN _))
  .have e0:AU (less st.AE i (AU st.AE i).n) j=AU st.AE j:=by
    unfold AU less
    rw[uM,uK hij,<-uM]
   have A:=Eb (P:=LOk t (k+1) (G*((AU st.AE i).n+(AU st.AE j).n).toNat) (B*((AU st.AE i).n+(AU st.AE j).n).toNat)) (n:=(AU st.AE i).n) hi (λx hx=>(L x hx).up (uN _)) ((li.up (uN _)).less (by lia) (zm _))
   have A2:=Eb (st:={st with AE:=less st.AE i (AU st.AE i).n}) (i:=j) (n:=(AU st.AE j).n) (by simpa[Ca]using hj) A (by
    show LOk _ _ _ _ ⟨(AU (less st.AE i (AU st.AE i).n) j).k,(AU (less st.AE i (AU st.AE i).n) j).n-_,(AU (less st.AE i (AU st.AE i).n) j).ow⟩
    rw[e0]
    exact(lj.up (uN _)).less (by lia) (zm _))
   exact A2
  .show(AU st.AE i).n+(AU st.AE j).n<2^(131+(k+1))
   have a:=li.n1;have b:=lj.n1
   rw[show 131+(k+1)=(131+k)+1 by lia,AAU];lia
  .exact Fg li.own lj.own
 |swap i g kd n=>
  obtain⟨hi,h1,h2,h3,h4,h5,h6⟩:=hc
  have li:=L _ (A5 hi)
  refine PK.of (t:=t) (G:=G) (B:=B) (by simp[step,Ca];lia) (Kk (Eb hi (λx hx=>(L x hx).up1) (li.up1.less (by lia) h2)) ⟨h3,by show 0<=n;lia,eA h6,li.own,li.ok⟩) h.hold (vc hnm) g0 g1 g2' hh
 |IV u i g kd n=>
  obtain⟨hi,h1,h2,h3,h4,h5,h6,h7⟩:=hc
  have li:=L _ (A5 hi)
  refine PK.of (t:=t) (G:=G) (B:=B) (by simp[step,Ca];lia) (Kk (Eb hi (λx hx=>(L x hx).up1) (li.up1.less (by lia) h2)) ⟨h3,by show 0<=n;lia,eA h6,li.own,li.ok⟩) h.hold (by simp[step];lia) g0 g1 g2' hh
 |Jo i n=>
  obtain⟨hi,h1,h2⟩:=hc
  have li:=L _ (A5 hi)
  refine PK.of (t:=t) (G:=G) (B:=B) (by simp[step,Ca];lia) (Eb hi (λx hx=>(L x hx).up1) (li.up1.less (by lia) h2)) h.hold (vc hnm) g0 g1 g2' hh
 |thr i n ws=>
  obtain⟨hi,h1,h2,h3,h4⟩:=hc
  have li:=L _ (A5 hi)
  have W:=Kp ht h (by lia) h3 h4
  have wl:(EH t st.AE ws).toNat<2^(145+k):=by
   have:((EH t st.AE ws).toNat:Int)<((2^(145+k):Nat):Int):=by
    rw[vP (by lia)];push_cast;exact W.2
   exact_mod_cast this
  have bo:=λ{ss:Gc Rat} (hs:∀r∈ss,Ok G B r)=>Sv ht h (by lia) h3 h4 hi h1 h2 li.ok hs
  refine PK.of (t:=t) (G:=G*(EH t st.AE ws).toNat) (B:=B*(EH t st.AE ws).toNat) (by simp[step,Ca];lia) ?_ (Fg h.hold li.own) (vc hnm) (x8 g0 (by lia)) (vA _ g1) (T6 g2 wl (by lia)) (bo hh)
  intro x hx
  obtain⟨y,hy,rfl⟩:=uk.mp hx
  have ly:=Eb (P:=LOk t k G B) hi L (li.less (n:=n) (by lia) h2) y hy
  exact⟨ly.kd,ly.n0,ly.up1.n1,Fg ly.own li.own,bo ly.ok⟩
 |Mj p q x=>
  obtain⟨h1,h2,h3,h4,h5,h6⟩:=hc
  have dp:=x.den_pos
  refine PK.of (t:=t) (G:=G*x.den) (B:=2*B*x.den) (by simp[step];lia) ?_ (by simp[step,IM,h.hold]) (vc hnm) (x8 g0 dp) (vA _ (by lia)) ?_ (Q5 (by rw[h.hold];exact h2) (by rw[h.hold];exact h3) h4 h5 hh)
  .intro y hy
   obtain⟨z,hz,rfl⟩:=uk.mp hy
   have lz:=L z hz
   exact⟨lz.kd,lz.n0,lz.up1.n1,by simp[IM,lz.own],Q5 (by rw[lz.own];exact h2) (by rw[lz.own];exact h3) h4 h5 lz.ok⟩
  .have:=T6 (B:=B) (T:=2*x.den) (j:=5) g2 (by lia) (by lia)
   rw[show 2*B*x.den=B*(2*x.den) by rw[<-yt,xO 2 B]]
   exact this
theorem X7(ht:Kg t):∀{ds:Gc Ab} {k:Nat} {st:Stt},GC t k st->PK k st->Po t st ds->k+ds.length<=13->PK (k+ds.length) (runs t st ds)
 | [],k,st,_,w,_,_=>w
 |d::ds,k,st,h,w,g,hl=>by
  have:=X7 ht (ds:=ds) (UW ht h (by simp at hl;lia) g.1) (di ht h w (by simp at hl;lia) g.1) g.2 (by simp at hl;lia)
  rw[show k+(d::ds).length=k+1+ds.length by simp;lia]
  exact this
theorem GC.bd0(h:GC t 0 st):PK 0 st:=h.gb
theorem BP.bd{ls:Gc Ld}{ds:Gc Ab}(h:BP t ls ds)(hl:ds.length<=13)(i:Nat):PK (ds.take i).length (runs t (st0 t ls) (ds.take i)):=by
 have:=X7 h.tr (ds:=ds.take i) h.inv h.inv.bd0 (Me h.good) (by simp;lia)
 rwa [AAR]at this
end
section
variable{s:Stt}{t:Tr}{k p i:Nat}{ws:Gc Int}{ls:Gc Ld}{ds:Gc Ab}
theorem PK.wbd(h:GC t k s)(w:PK k s)(hk:k<=11)(hw:Tw t ws):∃G B N,WBd t s ws G B N 1919:=by
 obtain⟨G,B,g0,gb,b,h1,h2⟩:=w
 have hB:B<2^1757:=uG b (um (by decide) (by lia))
 have hB':B<2^1919:=uG hB (um (by decide) (by decide))
 have hN:(2^149:Nat)<2^150:=AA2 (by decide) (by decide)
 refine⟨G,B,2^149,⟨g0,vT gb hB',by decide,λl hl=>?_,λl hl=>?_,hB',uG hN (um (by decide) (by decide)),?_,by have:=h.len;simp[wl];lia⟩,h2,by decide⟩
 .obtain⟨x,hx,rfl⟩:=uk.mp hl
  exact h1 x hx
 .obtain⟨x,hx,rfl⟩:=uk.mp hl
  have:=h.pcs x hx
  obtain⟨_,w1,w2⟩:=hw.at (j:=x.k) (by have:=h.kind x hx;lia)
  have e:(2:Int)^(131+k)<=2^142:=by
   have:(2:Nat)^(131+k)<=2^142:=um (by decide) (by lia)
   exact_mod_cast this
  generalize ws.getD x.k 0=w at*
  refine⟨yk this.1 (by lia),?_⟩
  have:x.n*w<=2^142*99:=yl (by lia) w2 (by lia) (by decide)
  have h3:(2:Int)^142*99<=((2^149:Nat):Int):=by exact_mod_cast (show(2:Nat)^142*99<=2^149 by decide)
  exact Int.le_trans this h3
 .have:=Cv (show 200<2^8 by decide) (Cv hB hN)
  exact uG this (um (by decide) (by decide))
theorem PK.worth(h:GC t k s)(w:PK k s)(hk:k<=11)(ht:Kg t)(hw:Tw t ws):Sz 1919 (FV t s ws p):=by
 obtain⟨G,B,N,b⟩:=PK.wbd h w hk hw
 refine(b.worth ht hw).sz b.bd.g0 b.bd.gK (vT ?_ b.bd.hb)
 exact vA _ (by decide)
theorem cL{m:Nat}(h:m<2^1919):m.log2<1920:=by
 by_cases z:m=0
 .rw[z];decide
 .have:=(Nat.log2_lt z).mpr h
  lia
theorem iR{q:Rat}{n:Nat}(h:Sz 1919 q):Sj (n+1) (aD q):=.tup (by
 intro d hd
 simp at hd
 rcases hd with rfl|rfl
 .exact .int (cL h.1)
 .exact .int (cL (by simpa using h.2))) (by simp)
theorem iJ(h:BP t ls ds)(hl:ds.length<=11){l:Nat}{n:Int}(hn:ds[i]?=Fk (.thr l n ws)):Sj 3 (gw t ls ds i ws):=by
 have can:=GD h.good hn
 have hw:Tw t ws:=⟨can.2.2.2.1,can.2.2.2.2⟩
 have l1:(ds.take i).length<=11:=by simp;lia
 have l2:(ds.take (i+1)).length<=11:=by simp;lia
 have w1:=λp=>PK.worth (p:=p) (h.at i) (h.bd (by lia) i) l1 h.tr hw
 have w2:=λp=>PK.worth (p:=p) (h.at (i+1)) (h.bd (by lia) (i+1)) l2 h.tr hw
 obtain⟨t1,t2,t3,t4,t5,t6⟩:=h.tr
 refine .tup (λd hd=>?_) (by simp;lia)
 obtain⟨p,_,rfl⟩:=uk.mp hd
 refine .tup (λd hd=>?_) (by simp)
 simp at hd
 rcases hd with rfl|rfl
 .exact iR (w1 p)
 .exact iR (w2 p)
theorem dj(h:BP t ls ds)(hl:ds.length<=11)(hi:i∈plT ds):Sj 3 (IS t ls ds i):=by
 obtain⟨l,n,ws,hn⟩:=YH hi
 unfold IS
 rw[Ta hn]
 exact iJ h hl hn
end
section
variable{S:Sto}{t:Tr}{ls:Gc Ld}{ds:Gc Ab}{p:Nat}{X:D}{e0 e1 e2 e5 e6 e7 e8 e9 e10 e11 e12:uD D}
noncomputable def plD(ds:Gc Ab):Gc D:=(plT ds).map λ(i:Nat)=>D.int i
theorem aB:(plD ds).all Kn=true:=by
 rw[List.all_eq_true]
 intro y hy
 obtain⟨n,_,rfl⟩:=uk.mp hy
 rfl
def Ui:Ev:=(Hs (eOp (o2 K5) [eV 11,eC (.ty "int")]) (Hs (Tg (eOp (o2 K5) [eV 11,eC (.ty "bool")])) (eOp (o2 (wIn false)) [eV 11,eV 4])))
theorem X5(hX:Pt X):Ui [e0,e1,e2,Fk (Ae t ls ds),Fk (.lst (plD ds)),e5,e6,e7,e8,e9,e10,Fk X,e12] S=Fk (.bl (GI ds X),S):=by
 have fp:=aB (ds:=ds)
 have ip:∀i:Int,inD (.int i) (plD ds)=GI ds (.int i):=λi=>jA (ds:=ds) (i:=i)
 generalize plD ds=PL at*
 cases hX with
 |int i=>
  have:=ip i
  simp[Ui,St.Kd.isA,fp,this,Kn]
 |_=>simp[Ui,St.Kd.isA,GI]
def eK:Ev:=(eIx (Fh [eC (.str "throw"),eC (.str "none")]) (eOp (o1 aX) [eV 12]))
theorem bK:eK [e0,e1,e2,Fk (Ae t ls ds),Fk (.lst (plD ds)),e5,e6,e7,e8,e9,e10,Fk X,Fk (.bl (GI ds X))] S=Fk (.str (Cz ds X),S):=by
 have sz2:(2:Nat)<=sizeLine:=AN (by decide)
 unfold Cz
 generalize Ae t ls ds=bk at*
 generalize plD ds=PL at*
 cases GI ds X<;>simp[eK,sz2]
def ja:Ex:=(Aa (BQ 12 Ui) (xIf (Tg (AJ GJ [eV 3,eV 11,eK])) (BI (eC (.bl false))) D5))
theorem gR(hT:S.any (Lp "_law_all_so")=true)(h:BP t ls ds)(hX:Pt X):∃S',ja [e0,e1,e2,Fk (Ae t ls ds),Fk (.lst (plD ds)),e5,e6,e7,e8,e9,e10,Fk X,e12] S=Fk (.nx,[e0,e1,e2,Fk (Ae t ls ds),Fk (.lst (plD ds)),e5,e6,e7,e8,e9,e10,Fk X,Fk (.bl (GI ds X))],S')/\Ce [] S S':=by
 have d1:=X5 (S:=S) (t:=t) (ls:=ls) (ds:=ds) (X:=X) (e0:=e0) (e1:=e1) (e2:=e2) (e5:=e5) (e6:=e6) (e7:=e7) (e8:=e8) (e9:=e9) (e10:=e10) (e12:=e12) hX
 have d2:=bK (S:=S) (t:=t) (ls:=ls) (ds:=ds) (X:=X) (e0:=e0) (e1:=e1) (e2:=e2) (e5:=e5) (e6:=e6) (e7:=e7) (e8:=e8) (e9:=e9) (e10:=e10)
 obtain⟨S',d3,s1⟩:=X0 (S:=S) (Ur (ds:=ds) (X:=X)) hT h hX
 have k:(Cz ds X==Cz ds X)=true:=by simp
 rw[k]at d3
 refine⟨S',?_,s1⟩
 generalize GI ds X=B at*
 generalize Cz ds X=W at*
 generalize Ae t ls ds=bk at*
 generalize plD ds=PL at*
 simp[ja,d1,d2,d3]
def mB:Ev:=(eOp (o2 CJ) [eLR (eOp (o2 CJ) [eOp (o1 Jq) [eIx (eV 3) (eI 2)],eI 1]),Fh [eOp (o1 Nk) [eI 1],eC (.bl true),eC .non,eC (.str "0"),eOp (o2 YM) [eI 10,eI 39],AJ (Al 8) [eV 2,eI 2]]])
end
section
variable{S:Sto}{t:Tr}{ls:Gc Ld}{ds:Gc Ab}{p i:Nat}{X:D}{e0 e1 e2 e4 e5 e6 e7 e8 e9 e10 e11 e12:uD D}
@[simp] theorem oC{cf:Bool}{f:Ev}{E:En}{S:Sto}:nZ cf f E S=(f E S).bind (lrK cf):=nr rfl
@[simp] theorem nB{cf:Bool}{j:Int}{S:Sto}:lrK cf (.int j,S)=if(decide (0<=j) && decide (j<=1000))=true then fin cf (.own (J6 0 j.toNat)) S else none:=nr rfl
theorem Ce.tab{S S':Sto}(h:Ce [] S S'){n:Nat}{c:Cl}(e:S[n]?=Fk c):S'[n]?=Fk c:=h.get e (by simp)
theorem gz(h:BP t ls ds)(hp:CQ p S):∃L S',mB [e0,e1,Fk (.ref p),Fk (Ae t ls ds),e4,e5,e6,e7,e8,e9,e10,e11,e12] S=Fk (.lst L,S')/\(∀d∈L,Pt d)/\Pn p S S':=by
 obtain⟨X,S',e,hX,pn⟩:=SW (n:=8) (d:=2) (by decide) hp
 have hl:=h.len
 have e':Al 8 [.ref p,.int 2] S=Fk (X,S'):=e
 have h1:(0:Int)<=(ds.length:Int)+1:=by lia
 have h2:(ds.length:Int)+1<=1000:=by lia
 have sz1:(1:Nat)<=sizeLine:=AN (by decide)
 have sz6:(6:Nat)<=sizeLine:=AN (by decide)
 have szL:(J6 0 (ds.length+1)).length+6<=sizeLine:=uO (show _<=100 by rw[D9];lia) (AN (by decide))
 have pw:=qU
 refine⟨J6 0 (ds.length+1)++[.int (-1),.bl true,.non,.str "0",.int (10^39),X],S',?_,λd hd=>?_,pn⟩
 .simp only[Ae]
  generalize hR:J6 0 (ds.length+1)=RR at*
  simp[mB,h1,h2,hR,sz1,sz6,pw,e',szL]
 .rcases ub.mp hd with z|z
  .obtain⟨k,_,rfl⟩:=uk.mp z
   exact .int _
  .simp only[uI,uX,vV]at z
   rcases z with rfl|rfl|rfl|rfl|rfl|rfl
   .exact .int _
   .exact .bl _
   .exact .non
   .exact .str _
   .exact .int _
   .exact hX
theorem av(h:BP t ls ds)(hp:CQ p S)(hp0:0≠p)(h0:S[0]?=Fk (Cl.tab "_law_all_so")):∃L u11 u12 S1 S',mB [e0,e1,Fk (.ref p),Fk (Ae t ls ds),Fk (.lst (plD ds)),e5,e6,e7,e8,e9,e10,e11,e12] S=Fk (.lst L,S1)/\Ni [] (tNm 11) ja L [e0,e1,Fk (.ref p),Fk (Ae t ls ds),Fk (.lst (plD ds)),e5,e6,e7,e8,e9,e10,e11,e12] S1=Fk (.nx,[e0,e1,Fk (.ref p),Fk (Ae t ls ds),Fk (.lst (plD ds)),e5,e6,e7,e8,e9,e10,u11,u12],S')/\S'[0]?=Fk (Cl.tab "_law_all_so"):=by
 obtain⟨L,S1,e,hL,pn⟩:=gz (S:=S) (e0:=e0) (e1:=e1) (e4:=Fk (.lst (plD ds))) (e5:=e5) (e6:=e6) (e7:=e7) (e8:=e8) (e9:=e9) (e10:=e10) (e11:=e11) (e12:=e12) h hp
 have t1:=pn.get h0 hp0
 obtain⟨E',S',ef,o11,o12,rfl,t2,_⟩:=EI (gs:=[]) (t:=tNm 11) (b:=ja)
  (I:=λrs E S'=>∃o11 o12:uD D,E=[e0,e1,Fk (.ref p),Fk (Ae t ls ds),Fk (.lst (plD ds)),e5,e6,e7,e8,e9,e10,o11,o12]/\S'[0]?=Fk (Cl.tab "_law_all_so")/\∀d∈rs,Pt d)
  (fun _ _ _ _ => Au) (ds := L) (E := [e0, e1, Fk (.ref p), Fk (Ae t ls ds), Fk (.lst (plD ds)), e5, e6, e7, e8, e9, e10, e11, e12]) (S := S1) ⟨e11, e12, rfl, t1, hL⟩ (by
    rintro dd rs E T ⟨o11,o12,rfl,i1,i2⟩
    obtain⟨T',e,sm⟩:=gR (e0:=e0) (e1:=e1) (e2:=Fk (.ref p)) (e5:=e5) (e6:=e6) (e7:=e7) (e8:=e8) (e9:=e9) (e10:=e10) (e12:=o12) (tab_of i1) h (i2 dd uP)
    exact⟨_,_,T',rfl,e,Fk dd,Fk (.bl (GI ds dd)),rfl,sm.tab i1,λd hd=>i2 d (uJ _ hd)⟩)
 exact⟨L,o11,o12,S1,S',e,ef,t2⟩
end
section
variable{S:Sto}{t:Tr}{ls:Gc Ld}{ds:Gc Ab}{p i:Nat}{X:D}{e0 e1 e2 e4 e5 e6 e7 e8 e9 e10 e11 e12:uD D}
theorem pJ{q:Rat}:Tp 2 (aD q):=⟨by simp,λd hd=>by simp at hd;rcases hd with rfl|rfl<;>trivial⟩
theorem Xh(h:BP t ls ds):Tp 4 (IS t ls ds i):=by
 obtain⟨t1,t2,t3,t4,t5,t6⟩:=h.tr
 refine⟨by simp;lia,λd hd=>?_⟩
 obtain⟨p,_,rfl⟩:=uk.mp hd
 exact⟨by simp,λd hd=>by simp at hd;rcases hd with rfl|rfl<;>exact pJ⟩
theorem WZ(h:BP t ls ds):Th (IS t ls ds i):=TY (Xh h).pl
def lJ:Ex:=(Aa (BQ 10 (AJ BC [eV 3,eV 6,eV 9]))
    (xIf (eOr (Tg (eOp (o2 K5) [eV 10,eC (.ty "bool")])) (eOp (o2 wNe) [eV 10,AJ (EE 8) [eV 9,eV 7]])) (BI (eC (.bl false))) D5))
theorem fY(h:BP t ls ds)(hi:i∈plT ds)(hX:Th X):∃u10 S',lJ [e0,e1,e2,Fk (Ae t ls ds),e4,e5,Fk (.int i),Fk (IS t ls ds i),e8,Fk X,e10,e11,e12] S=Fk (.nx,[e0,e1,e2,Fk (Ae t ls ds),e4,e5,Fk (.int i),Fk (IS t ls ds i),e8,Fk X,u10,e11,e12],S')/\Ce [] S S':=by
 obtain⟨l,n,ws,hn⟩:=YH hi
 obtain⟨S1,q1,s1⟩:=SV (S:=S) (X:=X) (x:=X) h hn λ_ _=>Thg.plain hX
 have ew:gw t ls ds i ws=IS t ls ds i:=by unfold IS;rw[Ta hn]
 rw[ew]at q1
 have q2:=cQ (S:=S1) (Xh (i:=i) h) (n:=8) (by decide) (Thg.plain hX)
 have k1:St.Kd.bl.isA "bool"=true:=by decide
 refine⟨Fk (.bl (FO X (IS t ls ds i))),S1,?_,s1⟩
 have bb1:∀b:vE,ED (.bl b) (.bl b)=true:=λb=>nr rfl
 have bb2:∀b:vE,deq (.bl b) (.bl b)=true:=λb=>by cases b<;>rfl
 generalize FO X (IS t ls ds i)=b at*
 generalize IS t ls ds i=du at*
 generalize Ae t ls ds=bk at*
 simp[lJ,q1,k1,q2,bb1,bb2]
def pY:Ev:=(eOp (o2 CJ) [eV 5,Fh [eV 7,Cm [],eC .non,AJ (Al 8) [eV 2,eI 3],AJ (Cd 8) [eV 2,eV 7]]])
def nO:Ev:=(eOp (o2 CJ) [eV 8,C9 [2,7] 1 (PM [eI 8]) (tNm 2) Cr (AJ B1 [eV 0,eV 1])])
def jM:Ex:=(Aa (BQ 8 pY) (MH (Js nO) (tNm 9) lJ))
noncomputable def JF(t:Tr)(ls:Gc Ld)(ds:Gc Ab):Gc D:=(plT ds).map (IS t ls ds)
theorem WI:(plT ds).length<=ds.length:=by
 unfold plT
 exact uO (xG _ _) (by simp)
theorem jC(h:BP t ls ds)(hl:ds.length<=11)(hp:CQ p S)(hi:i∈plT ds):∃u8 u9 u10 S',jM [e0,e1,Fk (.ref p),Fk (Ae t ls ds),e4,Fk (.lst (JF t ls ds)),Fk (.int i),Fk (IS t ls ds i),e8,e9,e10,e11,e12] S=Fk (.nx,[e0,e1,Fk (.ref p),Fk (Ae t ls ds),e4,Fk (.lst (JF t ls ds)),Fk (.int i),Fk (IS t ls ds i),u8,u9,u10,e11,e12],S')/\Pn p S S':=by
 obtain⟨X,S1,q1,hX,p1⟩:=RB (n:=8) (d:=3) (by decide) hp
 obtain⟨Z,S2,q2,hZ,p2⟩:=M8 (p:=p) 8 3 (S:=S1) (by decide) (dj h hl hi) p1.pen
 have q1':Al 8 [.ref p,.int 3] S=Fk (X,S1):=q1
 have lr:(JF t ls ds).length<=11:=by unfold JF;rw[vL];exact uO WI hl
 have thr:∀d∈JF t ls ds,Th d:=λd hd=>by
  obtain⟨j,_,rfl⟩:=uk.mp hd
  exact WZ h
 have z5:(5:Nat)<=sizeLine:=AN (by decide)
 have zr:(JF t ls ds).length+5<=sizeLine:=AN (by lia)
 have dt:=WZ (i:=i) h
 obtain⟨ys,S3,q3,⟨P3,hys⟩,lys⟩:=UX (gs:=[]) (t:=tNm 2) (f:=AJ B1 [eV 0,eV 1]) (C:=[Fk (.ref p),Fk (IS t ls ds i)]) (m:=1) (I:=λacc T=>Pn p S2 T/\∀y∈acc,Th y) (λ_ _ _=>Au) (ds:=J6 0 8) (acc:=[]) (os:=[uC]) (S:=S2) rfl ⟨.refl p2.pen,λy hy=>by cases hy⟩ (AN (by simp[D9])) (by
  rintro dd hd acc os T ho ⟨hP,hA⟩
  match os,ho with
  | [a],_=>
  obtain⟨Y,T',ez,hY,hP'⟩:=So (p:=p) (S:=T) (L:=(uU t.p).map (pairD t (runs t (st0 t ls) (ds.take i)) (runs t (st0 t ls) (ds.take (i+1))) (lE ds i))) (λd hd=>by
   obtain⟨j,_,rfl⟩:=uk.mp hd
   exact⟨_,_,rfl⟩) (by obtain⟨t1,t2,t3,t4,t5,t6⟩:=h.tr;simp;lia) (by obtain⟨t1,t2,t3,t4,t5,t6⟩:=h.tr;simp;lia) hP.pen
  have ez':B1 [.ref p,IS t ls ds i] T=Fk (Y,T'):=ez
  refine⟨[Fk dd],Y,T',rfl,by simp,by simp[ez'],hP.trans hP',λy hy=>?_⟩
  rcases ub.mp hy with hy|hy
  .exact hA y hy
  .rw[uo.mp hy];exact hY)
 simp only[uz,vK]at q3
 have hall:∀y∈(JF t ls ds++[IS t ls ds i,.tup [],.non,X,Z])++ys,Th y:=λy hy=>by
  rcases ub.mp hy with hy|hy
  .rcases ub.mp hy with hy|hy
   .exact thr y hy
   .simp only[uI,uX,vV]at hy
    rcases hy with rfl|rfl|rfl|rfl|rfl
    .exact dt
    .exact .tup (λd hd=>by cases hd) (by decide)
    .exact .non
    .exact hX
    .exact hZ
  .exact hys y hy
 obtain⟨E',S',ef,u9,u10,rfl,sm,_⟩:=EI (gs:=[]) (t:=tNm 9) (b:=lJ)
  (I:=λrs E S'=>∃u9 u10,E=[e0,e1,Fk (.ref p),Fk (Ae t ls ds),e4,Fk (.lst (JF t ls ds)),Fk (.int i),Fk (IS t ls ds i),Fk (.lst (JF t ls ds++[IS t ls ds i,.tup [],.non,X,Z])),u9,u10,e11,e12]/\Ce [] S3 S'/\∀d∈rs,Th d)
  (fun _ _ _ _ => Au) (ds := (JF t ls ds ++ [IS t ls ds i, .tup [], .non, X, Z]) ++ ys) (E := [e0, e1, Fk (.ref p), Fk (Ae t ls ds), e4, Fk (.lst (JF t ls ds)), Fk (.int i), Fk (IS t ls ds i), Fk (.lst (JF t ls ds ++ [IS t ls ds i, .tup [], .non, X, Z])), e9, e10, e11, e12]) (S := S3) ⟨e9, e10, rfl, .refl, hall⟩ (by
    rintro dd rs E T ⟨u9,u10,rfl,i1,i2⟩
    obtain⟨v10,T',e,sm⟩:=fY (S:=T) (e0:=e0) (e1:=e1) (e2:=Fk (.ref p)) (e4:=e4) (e5:=Fk (.lst (JF t ls ds))) (e8:=Fk (.lst (JF t ls ds++[IS t ls ds i,.tup [],.non,X,Z]))) (e10:=u10) (e11:=e11) (e12:=e12) h hi (i2 dd uP)
    exact⟨_,_,T',rfl,e,Fk dd,v10,rfl,i1.trans sm,λd hd=>i2 d (uJ _ hd)⟩)
 have ly:ys.length=8:=by rw[lys];simp[D9]
 refine⟨Fk (.lst (JF t ls ds++[IS t ls ds i,.tup [],.non,X,Z])),u9,u10,S',?_,(p1.trans p2).trans ⟨P3.same.trans (sm.mono (by simp)),P3.pen.keep sm (by simp)⟩⟩
 have r8:Jn (8:Int)=true:=DY (by decide) (by decide)
 have t8:(8:Int).toNat=8:=rfl
 have et:pY [e0,e1,Fk (.ref p),Fk (Ae t ls ds),e4,Fk (.lst (JF t ls ds)),Fk (.int i),Fk (IS t ls ds i),e8,e9,e10,e11,e12] S=Fk (.lst (JF t ls ds++[IS t ls ds i,.tup [],.non,X,Z]),S2):=by
  generalize IS t ls ds i=du at*
  generalize Ae t ls ds=bk at*
  generalize JF t ls ds=R at*
  simp[pY,q1',q2,z5,zr]
 have zz:(JF t ls ds++[IS t ls ds i,.tup [],.non,X,Z]).length+ys.length<=sizeLine:=AN (by rw[ly];simp;lia)
 have es:nO [e0,e1,Fk (.ref p),Fk (Ae t ls ds),e4,Fk (.lst (JF t ls ds)),Fk (.int i),Fk (IS t ls ds i),Fk (.lst (JF t ls ds++[IS t ls ds i,.tup [],.non,X,Z])),e9,e10,e11,e12] S2=Fk (.lst ((JF t ls ds++[IS t ls ds i,.tup [],.non,X,Z])++ys),S3):=by
  generalize JF t ls ds++[IS t ls ds i,.tup [],.non,X,Z]=V at*
  generalize IS t ls ds i=du at*
  generalize Ae t ls ds=bk at*
  generalize JF t ls ds=R at*
  simp[nO,r8,t8,Pa,q3,zz]
 generalize JF t ls ds++[IS t ls ds i,.tup [],.non,X,Z]=V at*
 generalize IS t ls ds i=du at*
 generalize Ae t ls ds=bk at*
 generalize JF t ls ds=R at*
 simp[jM,et,es,ef]
end
section
variable{S:Sto}{t:Tr}{ls:Gc Ld}{ds:Gc Ab}{p i:Nat}{X:D}{e0 e1 e2 e4 e5 e6 e7 e8 e9 e10 e11 e12:uD D}
theorem zip_rows:Nt (plD ds) (JF t ls ds)=(plT ds).map λ(i:Nat)=>D.tup [.int i,IS t ls ds i]:=by
 unfold Nt plD JF
 rw[List.zip_map',vZ]
 rfl
theorem aW(h:BP t ls ds)(hl:ds.length<=11)(hp:CQ p S):∃u6 u7 u8 u9 u10 S',Ni [] (tTp [tNm 6,tNm 7]) jM (Nt (plD ds) (JF t ls ds)) [e0,e1,Fk (.ref p),Fk (Ae t ls ds),e4,Fk (.lst (JF t ls ds)),e6,e7,e8,e9,e10,e11,e12] S=Fk (.nx,[e0,e1,Fk (.ref p),Fk (Ae t ls ds),e4,Fk (.lst (JF t ls ds)),u6,u7,u8,u9,u10,e11,e12],S')/\Pn p S S':=by
 rw[zip_rows]
 obtain⟨E',S',ef,u6,u7,u8,u9,u10,rfl,pn,_⟩:=EI (gs:=[]) (t:=tTp [tNm 6,tNm 7]) (b:=jM)
  (I:=λrs E S'=>∃u6 u7 u8 u9 u10,E=[e0,e1,Fk (.ref p),Fk (Ae t ls ds),e4,Fk (.lst (JF t ls ds)),u6,u7,u8,u9,u10,e11,e12]/\Pn p S S'/\∀d∈rs,∃i,i∈plT ds/\d=D.tup [.int (i:Nat),IS t ls ds i])
  (fun _ _ _ _ => Au) (ds := (plT ds).map fun (i : Nat) => D.tup [.int i, IS t ls ds i]) (E := [e0, e1, Fk (.ref p), Fk (Ae t ls ds), e4, Fk (.lst (JF t ls ds)), e6, e7, e8, e9, e10, e11, e12]) (S := S) ⟨e6, e7, e8, e9, e10, rfl, .refl hp, fun d hd => by
    obtain⟨i,hi,rfl⟩:=uk.mp hd
    exact⟨i,hi,rfl⟩⟩ (by
    rintro dd rs E T ⟨u6,u7,u8,u9,u10,rfl,i1,i2⟩
    obtain⟨i,hi,rfl⟩:=i2 dd uP
    obtain⟨v8,v9,v10,T',e,pn⟩:=jC (S:=T) (e0:=e0) (e1:=e1) (e4:=e4) (e8:=u8) (e9:=u9) (e10:=u10) (e11:=e11) (e12:=e12) h hl i1.pen hi
    exact⟨_,_,T',by simp,e,_,_,v8,v9,v10,rfl,i1.trans pn,λd hd=>i2 d (uJ _ hd)⟩)
 exact⟨u6,u7,u8,u9,u10,S',ef,pn⟩
def plE:Ev:=(C9 [] 2 (YZ (eIx (eV 3) (eI 2))) (tTp [tNm 0,tNm 1]) (eOp (o2 wEq) [eIx (eV 1) (eI 0),eC (.str "throw")]) (eV 0))
def rwE:Ev:=(C9 [3] 1 (Js (eV 4)) (tNm 1) Cr (AJ CI [eV 0,eV 1]))
theorem iy(h:BP t ls ds):plE [e0,e1,e2,Fk (Ae t ls ds),e4,e5,e6,e7,e8,e9,e10,e11,e12] S=Fk (.lst (plD ds),S):=by
 have e:=plC (S:=S) (ds:=ds) (by have:=h.len;lia)
 have e':C7 [] (tTp [tNm 0,tNm 1]) (eOp (o2 wEq) [eIx (eV 1) (eI 0),eC (.str "throw")]) (eV 0) (Rl 0 (ds.map Ab.d)) [] [uC,uC] S=Fk (plD ds,S):=e
 simp only[Ae]
 generalize plD ds=P at*
 simp[plE,Pa,e']
theorem iK(h:BP t ls ds):∃S',rwE [e0,e1,e2,Fk (Ae t ls ds),Fk (.lst (plD ds)),e5,e6,e7,e8,e9,e10,e11,e12] S=Fk (.lst (JF t ls ds),S')/\Ce [] S S':=by
 obtain⟨S',e,s1⟩:=kj (S:=S) (o:=uC) (acc:=[]) h (is:=plT ds) (λ_ hi=>hi) (by have:=WI (ds:=ds);have:=h.len;simp;lia)
 refine⟨S',?_,s1⟩
 rw[uz]at e
 have e':C7 [] (tNm 1) Cr (AJ CI [eV 0,eV 1]) (plD ds) [] [Fk (Ae t ls ds),uC] S=Fk (JF t ls ds,S'):=e
 generalize plD ds=P at*
 generalize Ae t ls ds=bk at*
 generalize JF t ls ds=R at*
 simp[rwE,Pa,e']
def lV:Ex:=(Aa (BQ 2 (AJ Ju [AJ D7 [eV 0,eV 1]]))
    (Aa (BQ 3 (AJ Gb [eV 2,eI 8]))
    (Aa (BQ 4 plE)
    (Aa (BQ 5 rwE)
    (Aa (MH (Yh (eV 4) (eV 5)) (tTp [tNm 6,tNm 7]) jM)
    (MH (Js mB) (tNm 11) ja))))))
theorem kI{e3:uD D}{ns:Gc Int}{k:Nat}(h0:S[0]?=Fk (Cl.tab "_law_all_so")):∃u2 u3 u4 u5 u6 u7 u8 u9 u10 u11 u12 S',lV [Fk (.scr ns),Fk (.int k),e2,e3,e4,e5,e6,e7,e8,e9,e10,e11,e12] S=Fk (.nx,[Fk (.scr ns),Fk (.int k),u2,u3,u4,u5,u6,u7,u8,u9,u10,u11,u12],S')/\S'[0]?=Fk (Cl.tab "_law_all_so"):=by
 obtain⟨c,ec⟩:=fG (S:=S) (ns:=ns) (k:=k)
 obtain⟨p,S1,q1,p1,s1,l1⟩:=iN (S:=S) c
 have p0:0≠p:=by have:=Ad h0;lia
 obtain⟨t,ls,ds,S2,q2,hb,hl,p2,h2⟩:=Xm p1 (s1.tab h0) p0
 have q3:=iy (S:=S2) (e0:=Fk (.scr ns)) (e1:=Fk (.int k)) (e2:=Fk (.ref p)) (e4:=e4) (e5:=e5) (e6:=e6) (e7:=e7) (e8:=e8) (e9:=e9) (e10:=e10) (e11:=e11) (e12:=e12) hb
 obtain⟨S3,q4,s3⟩:=iK (S:=S2) (e0:=Fk (.scr ns)) (e1:=Fk (.int k)) (e2:=Fk (.ref p)) (e5:=e5) (e6:=e6) (e7:=e7) (e8:=e8) (e9:=e9) (e10:=e10) (e11:=e11) (e12:=e12) hb
 have p3:CQ p S3:=p2.keep s3 (by simp)
 obtain⟨u6,u7,u8,u9,u10,S4,q5,pn4⟩:=aW (S:=S3) (e0:=Fk (.scr ns)) (e1:=Fk (.int k)) (e4:=Fk (.lst (plD ds))) (e6:=e6) (e7:=e7) (e8:=e8) (e9:=e9) (e10:=e10) (e11:=e11) (e12:=e12) hb hl p3
 have h4:=pn4.get (s3.tab h2) p0
 obtain⟨L,u11,u12,S5,S',q6,q7,h5⟩:=av (S:=S4) (e0:=Fk (.scr ns)) (e1:=Fk (.int k)) (e5:=Fk (.lst (JF t ls ds))) (e6:=u6) (e7:=u7) (e8:=u8) (e9:=u9) (e10:=u10) (e11:=e11) (e12:=e12) hb pn4.pen p0 h4
 refine⟨Fk (.ref p),Fk (Ae t ls ds),Fk (.lst (plD ds)),Fk (.lst (JF t ls ds)),u6,u7,u8,u9,u10,u11,u12,S',?_,h5⟩
 generalize Ae t ls ds=bk at*
 generalize plD ds=P at*
 generalize JF t ls ds=R at*
 simp[lV,ec,q1,q2,q3,q4,q5,q6,q7]
theorem j5(ns:Gc Int)(hl:ns.length<=63):∃S',Oq [.scr ns] [Cl.tab "_law_all_so"]=Fk (.bl true,S'):=by
 obtain⟨n,hn,hn2⟩:∃n:Nat,(if(if(2:Int)<ns.length then(2:Int)else ns.length)>1 then(if(2:Int)<ns.length then(2:Int)else ns.length)else 1)=(n:Int)/\n<=2:=by
  refine⟨(if(if(2:Int)<ns.length then(2:Int)else ns.length)>1 then(if(2:Int)<ns.length then(2:Int)else ns.length)else 1).toNat,?_,?_⟩
  .split<;>split<;>lia
  .split<;>split<;>lia
 have rn:Jn (n:Int)=true:=DY (by lia) (by lia)
 obtain⟨E',S',ef,q1,q2,q3,q4,q5,q6,q7,q8,q9,q10,q11,q12,rfl,_⟩:=kK (gs:=[]) (t:=tNm 1) (b:=lV) (L:=J6 0 n)
  (Iv:=λi E S'=>∃q1 q2 q3 q4 q5 q6 q7 q8 q9 q10 q11 q12,E=[Fk (.scr ns),q1,q2,q3,q4,q5,q6,q7,q8,q9,q10,q11,q12]/\S'[0]?=Fk (Cl.tab "_law_all_so"))
  (fun _ _ _ _ => Au) (E := [Fk (.scr ns), uC, uC, uC, uC, uC, uC, uC, uC, uC, uC, uC, uC]) (S := [Cl.tab "_law_all_so"]) ⟨_, _, _, _, _, _, _, _, _, _, _, _, rfl, rfl⟩ (by
    rintro i dd E T hi ⟨q1,q2,q3,q4,q5,q6,q7,q8,q9,q10,q11,q12,rfl,h0⟩
    obtain⟨rfl,hi'⟩:=ju hi
    obtain⟨u2,u3,u4,u5,u6,u7,u8,u9,u10,u11,u12,T2,e,h1⟩:=kI (S:=T) (ns:=ns) (k:=i) (e2:=q2) (e3:=q3) (e4:=q4) (e5:=q5) (e6:=q6) (e7:=q7) (e8:=q8) (e9:=q9) (e10:=q10) (e11:=q11) (e12:=q12) h0
    exact⟨_,_,T2,by simp,e,_,_,_,_,_,_,_,_,_,_,_,_,rfl,h1⟩)
 refine⟨S',?_⟩
 have eb:Wm=Aa (MH (PM [eOp (o2 mT) [eI 1,eOp (o2 Z0) [eOp (o1 Jq) [eV 0],eI 2]]]) (tNm 1) lV) (BI (eC (.bl true))):=rfl
 unfold Oq
 rw[eb]
 simp[hn,rn,ef]
end
open PyProof.Rows (boot_isinstance boot_int boot_bool boot_tuple boot_str boot_list boot_abs boot_all boot_any boot_sum boot_max boot_min boot_range boot_enumerate boot_zip boot_sorted boot_set boot_divmod)
theorem iZ{K:KE}{h:ux}{mg:Str->uD Wp}{xs:Gc Str}{y:Str}{C':uF}(X:K.In h)(G:h.Ns mainGlobals mg)(e:wO K mainGlobals y=Fk (Fk (.ref C')))(t:∀x∈xs,∃C b,wO K mainGlobals x=Fk (Fk (.ref C))/\x5 K (.ref C) (.ref C')=Fk b/\(x==y)=b):XmD K mg xs y:=nT X G e λx hx=>by
 obtain⟨C,b,h1,h2,h3⟩:=t x hx
 exact⟨C,h1,by rw[h3];exact h2⟩
theorem jd{K:KE}{xs:Gc Str}{x y:Str}{C C':uF}{b:vE}(h1:wO K mainGlobals x=Fk (Fk (.ref C)))(h2:x5 K (.ref C) (.ref C')=Fk b)(h3:(x==y)=b)(t:∀z∈xs,∃C b,wO K mainGlobals z=Fk (Fk (.ref C))/\x5 K (.ref C) (.ref C')=Fk b/\(z==y)=b):∀z∈x::xs,∃C b,wO K mainGlobals z=Fk (Fk (.ref C))/\x5 K (.ref C) (.ref C')=Fk b/\(z==y)=b:=λz m=>by
 rcases uI.mp m with e|m
 .rw[e];exact⟨C,b,h1,h2,h3⟩
 .exact t z m
structure All(w:vG)(K:KE)(mg:Str->uD Wp):Prop where
 bt:Bts mg
 UQ:WD K mg "ALL" Xt
 JK:WD K mg "MAKERS" EZ
 EM:WD K mg "NOTHING" GY
 Hd:XcD K mg "NoThrow"
 FL:XmD K mg ["NoThrow"] "NoThrow"
 GR:St.Src K mg "is_whole" GR
 Hl:St.Src K mg "is_from" Hl
 FN:St.Src K mg "is_within" FN
 Dv:St.Src K mg "are_same" Dv
 HV:St.Src K mg "is_same" HV
 CB:St.Src K mg "greatest_divisor" CB
 Il:St.Src K mg "lowest" Il
 Ly:St.Src K mg "plus" Ly
 L8:St.Src K mg "less" L8
 J3:St.Src K mg "times" J3
 Jx:St.Src K mg "mixed" Jx
 KH:St.Src K mg "total" KH
 ET:St.Src K mg "has_pieces" ET
 Ge:St.Src K mg "can_pool" Ge
 GL:St.Src K mg "can_swap" GL
 Fy:St.Src K mg "can_do" Fy
 DV:St.Src K mg "held_without" DV
 De:St.Src K mg "held_behind" De
 Bu:St.Src K mg "held_at_first" Bu
 Hq:St.Src K mg "held_by" Hq
 FJ:St.Src K mg "made_from" FJ
 Di:St.Src K mg "first_wrong" Di
 C3:St.Src K mg "refuse_undone" C3
 GU:St.Src K mg "is_place" GU
 D0:St.Src K mg "is_place_of" D0
 Co:St.Src K mg "all_to_one" Co
 B6:St.Src K mg "mixed_shares" B6
 Dx:St.Src K mg "made_shares" Dx
 B5:St.Src K mg "worth_of_all" B5
 Df:St.Src K mg "part_thrown" Df
 C6:St.Src K mg "thrown_shares" C6
 Dj:St.Src K mg "sold_shares" Dj
 C5:St.Src K mg "shares_behind" C5
 Bt:St.Src K mg "owners_behind" Bt
 Dm:St.Src K mg "state_by" Dm
 BU:St.Src K mg "refuse_no_throw" BU
 B7:St.Src K mg "worth_theirs" B7
 DP:St.Src K mg "bearing_told" DP
 Ef:St.Src K mg "cost_of" Ef
 Ek:St.Src K mg "bearing" Ek
 Bv:St.Src K mg "bearing_holds" Bv
 FY:St.Src K mg "_law_cell_at" FY
 KA:St.Src K mg "_law_pen" KA
 Iy:St.Src K mg "_law_draw" Iy
 Gf:St.Src K mg "_law_common" Gf
 Io:St.Src K mg "_law_made" Io
 Ig:St.Src K mg "_law_plus" Ig
 HQ:St.Src K mg "_law_times" HQ
 Iz:St.Src K mg "_law_less" Iz
 Kj:St.Src K mg "_law_sum" Kj
 DL:St.Src K mg "_law_whole" DL
 GK:St.Src K mg "_law_pieces" GK
 HH:St.Src K mg "_law_train" HH
 Hk:St.Src K mg "_law_first" Hk
 Hf:St.Src K mg "_law_share" Hf
 Dt:St.Src K mg "_law_worths" Dt
 Eo:St.Src K mg "_law_begun" Eo
 GN:St.Src K mg "_law_pooled" GN
 Ff:St.Src K mg "_law_cost" Ff
 HL:St.Src K mg "_law_borne" HL
 Ie:St.Src K mg "_law_sold" Ie
 JB:St.Src K mg "_law_turn" JB
 JP:St.Src K mg "_law_do" JP
 C1:St.Src K mg "_law_deed" C1
 F3:St.Src K mg "_law_book" F3
 Cg:St.Src K mg "_law_states" Cg
 Cb:St.Src K mg "_law_thrown" Cb
 Ed:St.Src K mg "_law_worth" Ed
 FG:St.Src K mg "_law_bearing" FG
 Ej:St.Src K mg "_law_thing" Ej
 GH:St.Src K mg "_law_spoilt" GH
 F1:St.Src K mg "_law_same" F1
 Dg:St.Src K mg "_law_otherwise" Dg
 B3:St.Src K mg "_law_all_so" B3
 Gn:St.Src K mg "law" Gn
 Ia:St.Src K mg "_law_word" Ia
section
variable{P:ug}{w:vG}{K:KE}{mg:Str->uD Wp}{base:ux}
theorem Z8{f:uF}{fd:wV}(F:Fun K "law" "law" Gn f fd)(B:Bts mg)(Bc:Fw P w K mg base)(Fd:MB P w K mg base)(KJ:R3 P w K mg base)(Ga:NJ P w K mg base)(Fb:Lr P w K mg base)(Bw:OD P w K mg base 8)(DA:R8 P w K mg base 8)(E5:Vt P w K mg base 8)(Dr:Kl P w K mg base)(Gh:NF P w K mg base):Up P w K mg base CX0 20 f fd ["_law_script"] (spD K 1 Oq):=by
 refine je (k:=19) F EB rfl λcdv A outer s H E hr=>?_
 have hu:=LL hr
 exact(AG (FA uu rfl (Fm rfl B.range (AA (Ac (WN rfl) rfl B.max boot_max (AA AF (AA (Ac (PF rfl) rfl B.min boot_min (AA (Ac Bq rfl B.len wj (AA (AB 0) AD)) (AA AF AD))) AD))) AD)) (Ah 1 EB.nd) (AG (Ai 2 (deM KJ hr (AA (deM Fd hr (AA (AB 0) (AA (AB 1) AD))) AD)) EB.nd)
      (AG (Ai 3 (deM Ga hr (AA (AB 2) (AA AF AD))) EB.nd)
      (AG (CW [] 2 ["_law_at","_law_deed_here"] rfl EB.nd rfl rfl V3 (SR rfl B.enumerate (AL AW (AB 3) AF)) (λs H fp=>⟨FC rfl (AO (Ah 0 QP) (AO (Ah 1 QP) Bg)),Jz (Av (Bn hu) (AL AW (AB 1) AF) A9),AB 0⟩))
      (AG (CW [3] 1 ["_law_book_here","_law_at"] rfl EB.nd rfl rfl Vz (DU (AB 4)) (λs H fp=>⟨Ah 1 VW,Cn,deM Fb hr (AA (AB 0) (AA (AB 1) AD))⟩))
      (AG (FA uu rfl (QB rfl B.zip (AB 4) (AB 5)) (FC rfl (AO (Ah 6 EB.nd) (AO (Ah 7 EB.nd) Bg))) (AG (Ai 8 (AX AZ (AB 5) (BJ (AA (AB 7) (AA (A6 AD) (AA Ln (AA (deM Bw hr (AA (AB 2) (AA AF AD))) (AA (deM DA hr (AA (AB 2) (AA (AB 7) AD))) AD))))))) EB.nd)
      (AK (FA uu rfl (DU (AX AZ (AB 8) (Dp [2,7] 1 ["_law_pen_here","_law_due","_law_turn_here"] rfl Vv (Fm rfl B.range (AA AF AD)) (λs H fp=>⟨Ah 2 V1,Cn,deM Dr hr (AA (AB 0) (AA (AB 1) AD))⟩)))) (Ah 9 EB.nd) (AG (Ai 10 (deM Bc hr (AA (AB 3) (AA (AB 6) (AA (AB 9) AD)))) EB.nd)
      (AK (CF (DW.dt (Zt (Sx (JD (Ac Bz rfl B.isi vO (AA (AB 10) (AA (Jw rfl B.bool AA6) AD))))) (U9 (Av (MD hu) (AB 10) (deM E5 hr (AA (AB 9) (AA (AB 7) AD))))))) (AK (AR UL)) Az)))))))
      (AK (FA uu rfl (DU (AX AZ (oP rfl rfl B.list rfl B.range (AA (AX AZ (Ac Bq rfl B.len wj (AA (AL AW (AB 3) AF) AD)) AF) AD)) (BJ (AA (NV Gp AF) (AA UL (AA Ln (AA A9 (AA (AX RA AF AF) (AA (deM Bw hr (AA (AB 2) (AA AF AD))) AD))))))))) (Ah 11 EB.nd) (AG (Ai 12 (GX (Ac Bz rfl B.isi vO (AA (AB 11) (AA (Jw rfl B.int AAA) AD))) (GX (dM (Ac Bz rfl B.isi vO (AA (AB 11) (AA (Jw rfl B.bool AA6) AD)))) (HF (Es PD (AB 11) (AB 4))))) EB.nd)
      (AK (CF (Sx (JD (deM Gh hr (AA (AB 3) (AA (AB 11) (AA (AL AW (BJ (AA A9 (AA A9 AD))) (An Li rfl B.int AAA (AA (AB 12) AD))) AD)))))) (AK (AR UL)) Az)))))))))))
      (AK (AR UL)))
theorem j7{f:uF}{fd:wV}(F:Fun K "law" "law" Gn f fd)(hm:mg "law"=Fk (.ref f))(bm:BmB mg base)(T:All w K mg):Up P w K mg base CX0 20 f fd ["_law_script"] (spD K 1 Oq):=by
 have B:=T.bt
 have UQ:=T.UQ
 have JK:=T.JK
 have EM:=T.EM
 have Hd:=T.Hd
 have FL:=T.FL
 have Cf:=Cf (P:=P) (w:=w) (base:=base) T.GR B
 have HZ:=HZ (P:=P) (w:=w) (base:=base) T.Hl Cf
 have FW:=FW (P:=P) (w:=w) (base:=base) T.FN HZ
 obtain⟨d_p_are_same,d_p_is_same⟩:=kn (P:=P) (w:=w) (base:=base) T.Dv T.HV B Cf 8 (by decide)
 have CC:=CC (P:=P) (w:=w) (base:=base) T.CB B
 have Be:=Be (P:=P) (w:=w) (base:=base) T.Il CC
 have FU:=FU (P:=P) (w:=w) (base:=base) T.Ly Be
 have MJ:=MJ (P:=P) (w:=w) (base:=base) T.L8 Be
 have FP:=FP (P:=P) (w:=w) (base:=base) T.J3 Be
 have Ka:=Ka (P:=P) (w:=w) (base:=base) T.Jx Be
 have Km:=Km (P:=P) (w:=w) (base:=base) T.KH EM FU
 have BM:=BM (P:=P) (w:=w) (base:=base) T.ET B
 have Gg:=Gg (P:=P) (w:=w) (base:=base) T.Ge BM
 have E7:=E7 (P:=P) (w:=w) (base:=base) T.GL BM
 have JE:=JE (P:=P) (w:=w) (base:=base) T.Fy BM Gg E7
 have Bo:=Bo (P:=P) (w:=w) (base:=base) T.DV
 have BK:=BK (P:=P) (w:=w) (base:=base) T.De Bo
 have A8:=A8 (P:=P) (w:=w) (base:=base) T.Bu
 have El:=El (P:=P) (w:=w) (base:=base) T.Hq BK A8
 have FI:=FI (P:=P) (w:=w) (base:=base) T.FJ B
 have Dw:=Dw (P:=P) (w:=w) (base:=base) T.Di B JE BK A8
 have AV:=AV (P:=P) (w:=w) (base:=base) T.C3 Dw
 have GZ:=GZ (P:=P) (w:=w) (base:=base) T.GU B FW
 have B0:=B0 (P:=P) (w:=w) (base:=base) T.D0 GZ
 have EN:=EN (P:=P) (w:=w) (base:=base) T.Co B UQ EM
 have Bp:=Bp (P:=P) (w:=w) (base:=base) T.B6 B Ka
 have Dd:=Dd (P:=P) (w:=w) (base:=base) T.Dx B FI Bp
 have DQ:=DQ (P:=P) (w:=w) (base:=base) T.B5 B
 have BR:=BR (P:=P) (w:=w) (base:=base) T.Df Be DQ
 have C0:=C0 (P:=P) (w:=w) (base:=base) T.C6 Bp BR
 have Ds:=Ds (P:=P) (w:=w) (base:=base) T.Dj B FU MJ FP
 have BZ:=BZ (P:=P) (w:=w) (base:=base) T.C5 C0 Ds
 have Cu:=Cu (P:=P) (w:=w) (base:=base) T.Bt JK EN Dd BZ
 have Ew:=Ew (P:=P) (w:=w) (base:=base) T.Dm BK A8 BZ Cu
 have Aw:=Aw (P:=P) (w:=w) (base:=base) T.BU B0 Hd
 have AS:=AS (P:=P) (w:=w) (base:=base) T.BU B0
 have CY:=CY (P:=P) (w:=w) (base:=base) T.B7 B FU FP Km
 have A7:=A7 (P:=P) (w:=w) (base:=base) T.DP B Ew CY
 have Hi:=Hi (P:=P) (w:=w) (base:=base) T.Ef El AV BR AS Aw
 have HY:=HY (P:=P) (w:=w) (base:=base) T.Ef El AV BR AS
 have HR:=HR (P:=P) (w:=w) (base:=base) T.Ek AV AS A7 Aw
 have Hj:=Hj (P:=P) (w:=w) (base:=base) T.Ek AV AS A7
 have Cy:=Cy (P:=P) (w:=w) (base:=base) T.Bv d_p_is_same AV AS A7 Aw
 have Bc:=Bc (P:=P) (w:=w) (base:=base) T.Bv d_p_is_same AV AS A7
 have Fd:=Fd (P:=P) (w:=w) (base:=base) T.FY B
 have KJ:=KJ (P:=P) (w:=w) (base:=base) T.KA B
 have AM:=AM (P:=P) (w:=w) (base:=base) T.Iy
 have Gk:=Gk (P:=P) (w:=w) (base:=base) T.Gf
 have BG:=BG (P:=P) (w:=w) (base:=base) T.Io B Gk
 have Bb:=Bb (P:=P) (w:=w) (base:=base) T.Ig BG
 have BF:=BF (P:=P) (w:=w) (base:=base) T.HQ BG
 have E8:=E8 (P:=P) (w:=w) (base:=base) T.Iz Bb
 have KW:=KW (P:=P) (w:=w) (base:=base) T.Kj Bb
 have Dz:=Dz (P:=P) (w:=w) (base:=base) T.DL B AM BG
 have Ba:=Ba (P:=P) (w:=w) (base:=base) T.GK AM
 have Hb:=Hb (P:=P) (w:=w) (base:=base) T.HH AM Dz
 have Ha:=Ha (P:=P) (w:=w) (base:=base) T.Hk B AM Dz Ba
 have Hc:=Hc (P:=P) (w:=w) (base:=base) T.Hf AM BG
 have DB:=DB (P:=P) (w:=w) (base:=base) T.Dt B AM
 have CP:=CP (P:=P) (w:=w) (base:=base) T.Eo B
 have GG:=GG (P:=P) (w:=w) (base:=base) T.GN B BG Bb BF
 have Ij:=Ij (P:=P) (w:=w) (base:=base) T.Ff B BG
 have Fp:=Fp (P:=P) (w:=w) (base:=base) T.HL B Bb BF E8
 have HE:=HE (P:=P) (w:=w) (base:=base) T.Ie B Bb BF E8
 have Ir:=Ir (P:=P) (w:=w) (base:=base) T.JB Ij Fp HE
 have EY:=EY (P:=P) (w:=w) (base:=base) T.JP B GG Ir
 have Ib:=Ib (P:=P) (w:=w) (base:=base) T.C1 B AM Ba Hc DB
 have IZ:=IZ (P:=P) (w:=w) (base:=base) T.F3 B AM Hb Ha CP EY Ib
 have GV:=GV (P:=P) (w:=w) (base:=base) T.Cg B CP EY
 have Ga:=Ga (P:=P) (w:=w) (base:=base) T.Cb B AM Ba DB CP EY IZ
 have Ft:=Ft (P:=P) (w:=w) (base:=base) T.Ed BF KW
 have Fb:=Fb (P:=P) (w:=w) (base:=base) T.FG B GV Ft
 have Bw:=Bw (P:=P) (w:=w) (base:=base) T.Ej B AM 8 (by decide)
 have DA:=DA (P:=P) (w:=w) (base:=base) T.GH B AM Bw 8 (by decide)
 have E5:=E5 (P:=P) (w:=w) (base:=base) T.F1 B 8 (by decide)
 have Dr:=Dr (P:=P) (w:=w) (base:=base) T.Dg B AM
 have Gh:=Gh (P:=P) (w:=w) (base:=base) T.B3 bm T.Ia HY Hj Bc FL Hi HR Cy
 exact Z8 (P:=P) (w:=w) (base:=base) F B Bc Fd KJ Ga Fb Bw DA E5 Dr Gh
end
theorem jR{K:KE}{x:Str}{P f c:uF}{oc oc2:Wp}{od od2:uD uF}{osl osl2:vQ (uD Wp)}{fd:wV}{vs:vQ Wp}{file:Str}{tf tg tt:Tok}{flags text:Int}{inF:vE}(e1:wO K mainGlobals x=Fk (Fk (.ref f)))(e2:K.lookup f=Fk ⟨oc,od,.func fd,osl⟩)(e3:fd.code=.ref c)(e4:K.lookup c=Fk ⟨oc2,od2,.fields vs,osl2⟩)(h0:oc2=.type "code")(h11:vs[11]?=Fk (.ref P))(h11':vs.getD 11 vo=.ref P)(h18:vs.getD 18 vo=.str file tf)(h7:vs.getD 7 vo=.int flags tg)(h9:vs.getD 9 vo=.bool inF)(h10:vs.getD 10 vo=.int text tt)(ne:c≠P):TabAt K x P:=
 ⟨f,oc,od,fd,osl,c,e1,e2,e3,_,vs,file,tf,flags,tg,inF,text,tt,e4,h0,rfl,h11,h11',h18,h7,h9,h10,ne⟩
theorem YC{P:uF}:∀{K:KE},P∉K.map (·.1)->K.lookup P=uC
 | [],_=>rfl
 |(a,o)::K,h=>by
  rw[ui,uI,AAt]at h
  have:(P==a)=false:=by simpa using h.1
  rw[vz,this]
  exact YC h.2
theorem walk{l:AAC}{q:ug}{loose:Gc Str}{XP:(Str->uD Wp)->ux->Prop}{d:DefRec}{K:Params->KE}{as:Gc uF}{ea:∀(P:Params),as=List.map (λx=>x.fst) (K P)}{ts:Gc uF}(hn:l.most=Fk 63)(hdf:d.params.defaults=[])(na:∀P∈ts,P∉as)(nd:(((["_law_all_so"]:Gc Str).zip ts).map (·.2)).Nodup)(hl:V8 ((["_law_all_so"]:Gc Str).zip ts)=[Cl.tab "_law_all_so"])(hd:d.name="law")(F:∀(w:vG) (mg:Str->uD Wp) (h:ux),(K w.params).In h->h.Ns mainGlobals mg->(∀z∈(["_law_all_so"]:Gc Str).zip ts,TabAt (K w.params) z.1 z.2)/\All w (K w.params) mg):PySem.W.WalkO q loose XP (PySem.W.kmHook K as ea ts).says l.row.toRowW d [] (λf vs=>PySem.call f vs):=by
 refine ny (x:="_law_script") (k:=20) (Fn0:=Oq) ((["_law_all_so"]:Gc Str).zip ts) hn hdf ⟨rfl,by decide,by decide⟩ (λw h Y=>⟨Y.1,λz hz=>Y.2 _ (vx hz).2⟩) nd (λw mg fa h KX G hmg=>?_) λns hns=>by rw[hl];exact j5 ns hns
 obtain⟨hT,T⟩:=F w mg h KX G
 refine⟨λz hz=>⟨hT z hz,YC (by rw[<-ea];exact na _ (vx hz).2)⟩,?_⟩
 obtain⟨f,fd,F,hm⟩:=T.Gn.ex
 rw[hd]at hmg
 have e:=hmg.symm.trans hm
 cases e
 refine⟨fd,λs v=>?_,λbase _ _ bm=>j7 (P:=l.prog) (w:=w) (base:=base) F hm bm T⟩
 obtain⟨oc,od,kV,doc,pm,an,cdv,ct,osl,hfd,_⟩:=F.ex
 subst hfd
 exact .of_eq rfl
end Mi
end
noncomputable section
namespace PySem.W.Fast
def tw16846636736184114863:=0
def tw12445127434896826009:=0
def tw11255814311299920624:=0
def tw12269113574288766484:=0
def tw16713711324506349580:=0
def tw18263644068744333736:=0
def tw1881398849957463662:=0
def tw965148896247576257:=0
def tw3201229510748733390:=0
def tw13259974645460316923:=0
def tw14051989832130815625:=0
def tw4495018910346857724:=0
def tw6743466456157377139:=0
def tw8947450341190729617:=0
def tw4731653509771839993:=0
def tw14378468345250809326:=0
def tw7394689896612926333:=0
def tw8379953759602728914:=0
def tw2718483239748559891:=0
def tw1839180215656533424:=0
def tw12539771513060415887:=0
def tw12725762309655923040:=0
def tw6836003091716421518:=0
def tw14057514771200740403:=0
def tw17522245592375162607:=0
def tw14290516501334443812:=0
def tw13970546953457953062:=0
def tw11000033154798711028:=0
def tw14330021280183010549:=0
def tw543024712030359822:=0
def tw8484900551665851595:=0
def tw9369587571527471074:=0
def tw8977403051230780410:=0
def tw14247702388303325793:=0
def tw8794128405023459007:=0
def tw10269164256680051062:=0
def tw12583516346776985555:=0
def tw10492715622986872225:=0
def tw9362144017993759757:=0
def tw6044752966394866185:=0
def tw5958007260420631372:=0
def tw4402661749955008542:=0
def tw1976216351059592821:=0
def tw12459507320801871670:=0
def tw17943548996743513539:=0
def tw6421605732955089968:=0
def tw15267851751190721606:=0
def tw15747140904110039641:=0
def tw17128339180779202553:=0
def tw5213868320712280770:=0
def tw15311462667788230774:=0
def tw14359905273294651440:=0
def tw7129389907649823948:=0
def tw3567614330386206500:=0
def tw8659793553564588686:=0
def tw14704088468531328166:=0
def tw6463242554476514989:=0
def tw3187393396630089129:=0
def tw11454441723126012839:=0
def tw5205353531700599161:=0
def tw8545330982733234917:=0
def tw18099412956688384395:=0
def tw11267377881635765885:=0
def tw11802375565359905653:=0
def tw9325243269763525605:=0
def tw4042823078550140389:=0
def tw17973862066510752750:=0
def tw6980123822758769836:=0
def tw13383776330323120508:=0
def tw1717997896547968624:=0
def tw6390791739397517503:=0
def tw15320313941522625173:=0
def tw389031866987391880:=0
def tw17249360371251023324:=0
def tw7748858306362106183:=0
def tw14350051941650990559:=0
def tw1382608687368381893:=0
def tw15827213442641508485:=0
def tw1139150526251236137:=0
def tw8762376891796960417:=0
def tw9274757698833778685:=0
def tw9670992841962177494:=0
def tw3050821225433560066:=0
def tw10118749759077541950:=0
def tw4335881224924739017:=0
def tw13669307832917277209:=0
def tw6155270936996499181:=0
def tw34517417425607951:=0
def tw15578289508051355829:=0
def tw11894882635515846496:=0
def tw18408541290013767780:=0
def tw12416775486976266848:=0
def tw15958303732158826428:=0
def tw5555220049410150707:=0
def tw405453267466322011:=0
def tw2717135168189717284:=0
def tw1248059986042441288:=0
def tw140552555292418217:=0
def tw7219146777649242303:=0
def tw725421258237426033:=0
def tw8806893025019006383:=0
def tw14468238922460843283:=0
def tw5794716396925934717:=0
def tw3376107389225912009:=0
def tw1981519758869244949:=0
def tw4680216071110694386:=0
def tw11112544984076897378:=0
def tw4774660402207886188:=0
def tw16845134036345628291:=0
def tw8722034470245612181:=0
def tw6097622424344597855:=0
def tw2975655400646641066:=0
def tw7309165608843259880:=0
def tw14087866527410854881:=0
def tw16957893152665501649:=0
def tw8892524285646152708:=0
def tw11477375667317252172:=0
def tw5688873607388642781:=0
def tw6615410803158443120:=0
def tw12231072944598890109:=0
def tw8586897343570622547:=0
def tw2660076939723560407:=0
def tw569338213080516594:=0
def tw5298074471988639570:=0
def tw16636100459350428962:=0
def tw513599326692255213:=0
def tw2768758565205462108:=0
def tw17475275127547834765:=0
def tw14418478669299768866:=0
def tw17421704342681431366:=0
def tw1771456649976062525:=0
def tw5053080825041250299:=0
def tw11200948604625013263:=0
def tw512287783340216716:=0
def tw13538401039563044132:=0
def tw10456772220311360502:=0
def tw15286521169109616220:=0
def tw11392046029430117927:=0
def tw1136384989166701328:=0
def tw11195590057081893420:=0
def tw1369866833022612959:=0
def tw1601676494983539027:=0
def tw431455691158033657:=0
def tw7097445104541709655:=0
def tw1801814173535078497:=0
def tw4678830137349382249:=0
def tw14086281488687444425:=0
def tw5414706127257395781:=0
def tw4444453102956451979:=0
def tw1604442597666924253:=0
def tw5779068238464208278:=0
def tw5001813014388182059:=0
def tw10230588568584235772:=0
def tw9029273574061657063:=0
def tw7395004454810404588:=0
def tw10066152934679328516:=0
def tw17206644800430394679:=0
def tw17963495440245863912:=0
def tw6723422843459296365:=0
def tw10841192212556222662:=0
def tw16194393842746838687:=0
def tw13010553827376596782:=0
def tw16177469115872145692:=0
def tw16333275251474909369:=0
def tw8028513526016876845:=0
def tw1230113909167160905:=0
def tw7783554319368892801:=0
def tw856528281415314555:=0
def tw9902164511085696431:=0
def tw16229111899980515612:=0
def tw13143828041828406758:=0
def tw13322951635911073659:=0
def tw8767051442613255247:=0
def tw14935380659464246757:=0
def tw2700044724547070900:=0
def tw15394088750608113013:=0
def tw577432376469668774:=0
def tw11215135595217832964:=0
def tw16561550442462211119:=0
def tw15409255366166618180:=0
def tw16129826383304601756:=0
def tw17251784044542871896:=0
def tw11880185987879827201:=0
def tw6770438728648265515:=0
def tw17718276141850706708:=0
def tw18374857812121013528:=0
def tw14772099233506196603:=0
def tw13336109921829947555:=0
def tw4861892415085870026:=0
def tw5539158645204210384:=0
def tw2832190468666663977:=0
def tw16462484607437629067:=0
def tw15688489483030051262:=0
def tw17009677329188897775:=0
def tw11506785731938323648:=0
def tw10842637523183029291:=0
def tw9892438287913150520:=0
def tw13931473688739163755:=0
def tw18108623821830307588:=0
def tw154202147599643693:=0
def tw8494913098954092249:=0
def tw10194918223207684304:=0
def tw3753841341647280660:=0
def tw855431955288033858:=0
def tw8679148756963528497:=0
def tw16183328625323574330:=0
def tw5433649527925576240:=0
def tw14309166071525502113:=0
def tw13118981584841410928:=0
def tw7840668169338560569:=0
def tw11610988074982139473:=0
def tw15506585884246195387:=0
def tw9050479268888193108:=0
def tw14099934985239491594:=0
def tw11739219957643800120:=0
def tw17622127733127114490:=0
def tw9144255737860581258:=0
def tw16060367461782559954:=0
def tw14880018248161906530:=0
def tw6660562414298619864:=0
def tw18273861354424472189:=0
def tw6439776250689313674:=0
def tw11556344134657168173:=0
def tw1819444608083551005:=0
def tw15983134482549041330:=0
def tw16337873425325206395:=0
def tw11043670034654807739:=0
def tw11572561693642981348:=0
def tw16137328009383464846:=0
def tw13533578310034421780:=0
def tw1905795756704131030:=0
def tw14684335798125985441:=0
def tw6497452898480085419:=0
def tw10841159615629346853:=0
def tw8478103012927315270:=0
def tw12365131008983839620:=0
def tw13241714314396793531:=0
def tw3977782146894536469:=0
def tw1999270115789032990:=0
def tw6030040581794840812:=0
def tw16959039606568945747:=0
def tw9346124297024079669:=0
def tw17179782904158064457:=0
def tw4036792751189464746:=0
def tw17905454364614515481:=0
def tw15351282311035910834:=0
def tw12285882035073480561:=0
def tw4244486746043546152:=0
def tw15010657421797196473:=0
def tw7588460726059820812:=0
def tw3926312293747956408:=0
def tw5465688707582006543:=0
def tw3008546553902277409:=0
def tw11986116121097607156:=0
def tw3194608880790212352:=0
def tw7720064856954765005:=0
def tw13438965965628164339:=0
def tw13382830242773825096:=0
def tw7897886483528995978:=0
def tw16046671997406191449:=0
def tw3784794800632792412:=0
def tw16308870531557047923:=0
def tw12863140137750725650:=0
def tw5061794011474100681:=0
def tw1822632944525383035:=0
def tw3712322531069016399:=0
def tw2690853868689550867:=0
def tw15053127391381030623:=0
def tw13302022407925081206:=0
def tw10702687585120560211:=0
def tw1523813999699476709:=0
def tw17455886487029250180:=0
def tw1086050701807245269:=0
def tw17480673311401913154:=0
def tw3568184316635356405:=0
def tw12568951533407720504:=0
def tw15482331812049754297:=0
def tw6447741699015053545:=0
def tw13600809933245729081:=0
def tw10868998836507549029:=0
def tw12941195430967430737:=0
def tw11181414077786203123:=0
def tw10195222432436211493:=0
def tw2975576124062536867:=0
def tw206618953586616173:=0
def tw8547313334572314241:=0
def tw3251832510298821232:=0
def tw15595019909053253450:=0
def tw3853050416705200673:=0
def tw4845417410255482704:=0
def tw12834454204503078335:=0
def tw16106932154535833100:=0
def tw7390505876007783016:=0
def tw18427331340549998530:=0
def tw12948769522277003110:=0
def tw7819743563805690905:=0
def tw6612003067797601559:=0
def tw5525007141280703242:=0
def tw18080799875452005210:=0
def tw6089566374775458696:=0
def tw10382642915570165919:=0
def tw14036590108525630054:=0
def tw308256903463496769:=0
def tw764290003975022432:=0
def tw12186736800171093206:=0
def tw11927634509601876274:=0
def tw17619786197854273466:=0
def tw7580012338248282937:=0
def tw9388039578141360772:=0
def tw480859575115068655:=0
def tw5635656915508807332:=0
def tw4610550322987041040:=0
def tw6224979170235521162:=0
def tw18074908016089943939:=0
def tw12210499161595928622:=0
def tw7599116889455779975:=0
def tw6698440033073275505:=0
def tw15540059899470107412:=0
def tw13686061436644857521:=0
def tw15717734820819037346:=0
def tw5689789489965243478:=0
def tw3839897664674007691:=0
def tw7785595748978258561:=0
def tw9606442256790492939:=0
def tw3791652380737531577:=0
def tw17681825453964289787:=0
def tw14110408504779689436:=0
def tw11226346967575085423:=0
def tw16649874618831584798:=0
def tw6861878688314143996:=0
def tw120752532574377086:=0
def tw7016060674251496437:=0
def tw652350046113818109:=0
def tw17663755361675156936:=0
def tw11601423376930034164:=0
def tw6537912760654889604:=0
def tw18043416839124297355:=0
def tw17986186230722278148:=0
def tw6173123792199326417:=0
def tw2816281812628819494:=0
def tw6366725440435806404:=0
def tw11536296667900266445:=0
def tw477427004729772166:=0
def tw8113929994384754217:=0
def tw17648611394605286181:=0
def tw12897709534305364121:=0
def tw2237716401221806947:=0
def tw2229477181139543242:=0
def tw6896437321023074482:=0
def tw8363406149712541953:=0
def tw15985727568485695963:=0
def tw2817343073161660023:=0
def tw8079518431852639787:=0
def tw2737196174953059078:=0
def tw6678163668792393979:=0
def tw1514261787653027224:=0
def tw3367808910232509745:=0
def tw8074477908661243139:=0
def tw4995500149896620591:=0
def tw9614396268409822881:=0
def tw472367827905376564:=0
def tw1443526943778879212:=0
def tw9152774986758817288:=0
def tw11310868356700971421:=0
def tw12815139076168783613:=0
def tw4761303023589337951:=0
def tw12972236265413517296:=0
def tw9556936285638124306:=0
def tw9607910674863162584:=0
def tw8536181630369525118:=0
def tw7148693950710569060:=0
def tw16803542758132408369:=0
def tw5565052927864240757:=0
def tw7383615542799685324:=0
def tw9311831916675222131:=0
def tw2652921871846157982:=0
def tw17001416735415780220:=0
def tw1214580564716868757:=0
def tw15138688648313398277:=0
def tw11497993110507083952:=0
def tw7951761817983361362:=0
def tw15800840412675110638:=0
def tw15685805310485749880:=0
def tw3596841616383125914:=0
def tw7517345384435857434:=0
def tw18266167252010485943:=0
def tw15779471743443682585:=0
def tw9892346983981857834:=0
def tw4845225742775890700:=0
def tw18384960430379387333:=0
def tw74541318051689456:=0
def tw4314019729664714325:=0
def tw17537346627749243216:=0
def tw13983871049854932470:=0
def tw1520485520187120717:=0
def tw1269014283189035049:=0
def tw15977680488318104036:=0
def tw13624603340458337117:=0
def tw15237269883054402849:=0
def tw13371040873821105796:=0
def tw1208326051193847876:=0
def tw9740591026348917978:=0
def tw5021865399610003244:=0
def tw18285356132607484234:=0
def tw15786750161932076998:=0
def tw1984793365247139440:=0
def tw10299593243751463315:=0
def tw3454759112964372335:=0
def tw1058330950005504714:=0
def tw17258535232196656127:=0
def tw6463374740376613093:=0
def tw5279941089242890445:=0
def tw11910154103208885777:=0
def tw12290786280121274698:=0
def tw8533945022320664178:=0
def tw3682458104619381445:=0
def tw8616159516950584912:=0
def tw2912484913899897485:=0
def tw2983321484421551994:=0
def tw15156656344902813603:=0
def tw10424190805058990502:=0
def tw16358546515621885448:=0
def tw1204488102367558694:=0
def tw4281264630276035887:=0
def tw9194185221945415815:=0
def tw8737417414017892395:=0
def tw16504241249951739690:=0
def tw13975452431591235662:=0
def tw1818960567123426147:=0
def tw5586794772441048255:=0
def tw6325046641712815119:=0
def tw3900217353137484421:=0
def tw12301777587800829437:=0
def tw1327265872001679393:=0
def tw15000543767683612:=0
def tw8067348249870370874:=0
def tw2608589103570029007:=0
def tw3917713720745553632:=0
def tw2740425827831766045:=0
def tw4066755443453919690:=0
def tw15079731261036033388:=0
def tw18178452175804944035:=0
def tw17502445965431949265:=0
def tw1919340962249934021:=0
def tw15308376447052344323:=0
def tw17940302716382653338:=0
def tw10250605697287375898:=0
def tw14467132354658195904:=0
def tw4899929763726876261:=0
def tw2180169386157561543:=0
def tw12514316735465092184:=0
def tw15460178228747308380:=0
def tw4415833530971193181:=0
def tw14012444882607241907:=0
def tw2617097815670605232:=0
def tw11641414420473362954:=0
def tw12112709408192272690:=0
def tw3176869944890820055:=0
def tw907840268058660242:=0
def tw7400939141700961902:=0
def tw7867336026119077902:=0
def tw11402044502001966475:=0
def tw11208219433066848786:=0
def tw6094008836787608167:=0
def tw2115520832048041719:=0
def tw4808951540136136501:=0
def tw3294214616607140708:=0
def tw6395720902362368167:=0
def tw4130364338949188158:=0
def tw9619215138526219906:=0
def tw11740855028388588031:=0
def tw7113769297760826326:=0
def tw3857610202749356707:=0
def tw16222587602226953406:=0
def tw567152279299082623:=0
def tw6150049069440777010:=0
def tw16577359722347647119:=0
def tw9479157736575720780:=0
def tw9733322675024352381:=0
def tw9597864614127812418:=0
def tw539470689938754302:=0
def tw4568899466251159059:=0
def tw11181835107318328349:=0
def tw15008418828040742727:=0
def tw11372117149486645627:=0
def tw3420647404423367015:=0
def tw13301422146328254757:=0
def tw14633542850183151348:=0
def tw15819271062190215210:=0
def tw8119250854586606626:=0
def tw9033799754441111516:=0
def tw153411315747044505:=0
def tw2179849025160541003:=0
def tw17338554584566047271:=0
def tw12757231354640206916:=0
def tw7105027235624938933:=0
def tw16298531956107373255:=0
def tw11207018475159953498:=0
def tw952591626715231156:=0
def tw4211947480953516070:=0
def tw17940165053487316412:=0
def tw14846940267702173286:=0
def tw2529997341590874970:=0
def tw17396998172321063691:=0
def tw7283535429100799328:=0
def tw1400008155559657497:=0
def tw16960176278099422729:=0
end PySem.W.Fast
open PySem PySem.W PyProof.Rows
set_option maxRecDepth 100000 in
set_option maxHeartbeats 0 in
theorem PySem.Challenge.cw_sharetrail_k38_bearings_looked_at_holds : PySem.Challenge.rw_sharetrail_k38_bearings_looked_at.Holds := by
 w_on;o_law;k_head;(case hw=>w_witness2)
 k_fill
 refine Mi.walk (l:=PySem.Challenge.rw_sharetrail_k38_bearings_looked_at) rfl rfl (by decide) (by decide) rfl rfl ?F
 case F=>
  intro w mg h KX G
  refine⟨?T,?_⟩
  case T=>
   intro z hz
   rcases List.mem_cons.mp hz with e|hz
   .subst e
    refine' Mi.jR ?t1 ?t2 ?t3 ?t4 ?t5 ?t6 ?t7 ?t8 ?t9 ?t10 ?t11 ?t12
    (case t1=>k_is)
    (case t2=>k_is)
    (case t3=>rfl)
    (case t4=>k_is)
    (case t5=>rfl)
    (case t6=>rfl)
    (case t7=>rfl)
    (case t8=>rfl)
    (case t9=>rfl)
    (case t10=>rfl)
    (case t11=>rfl)
    (case t12=>decide)
   .cases hz
  have UQ:Mi.WD (L2.KOf KX) mg "ALL" Mi.Xt:=by
   dsimp only[L2.KOf]
   refine' Mi.YA KX G ?e ?r
   (case e=>k_is)
   case r=>
    refine' Mi.UI ?l ?z ?r
    (case l=>k_is)
    (case z=>decide)
    case r=>
     refine' Paired.cons ?_ ?_
     .exact Mi.Q8
     refine' Paired.cons ?_ ?_
     .exact Mi.Q8
     exact Paired.nil
  have JK:Mi.WD (L2.KOf KX) mg "MAKERS" Mi.EZ:=by
   dsimp only[L2.KOf]
   refine' Mi.YA KX G ?e ?r
   (case e=>k_is)
   case r=>
    refine' Mi.UI ?l ?z ?r
    (case l=>k_is)
    (case z=>decide)
    case r=>
     refine' Paired.cons ?_ ?_
     .exact Mi.Qc
     refine' Paired.cons ?_ ?_
     .exact Mi.Qc
     refine' Paired.cons ?_ ?_
     .exact Mi.Qc
     refine' Paired.cons ?_ ?_
     .exact Mi.Qc
     exact Paired.nil
  have EM:Mi.WD (L2.KOf KX) mg "NOTHING" Mi.GY:=by
   dsimp only[L2.KOf]
   refine' Mi.YA KX G ?e ?r
   (case e=>k_is)
   case r=>
    refine' Mi.UI ?l ?z ?r
    (case l=>k_is)
    (case z=>decide)
    case r=>
     refine' Paired.cons ?_ ?_
     .exact Mi.Q8
     refine' Paired.cons ?_ ?_
     .exact Mi.Q8
     exact Paired.nil
  have Hd:Mi.XcD (L2.KOf KX) mg "NoThrow":=by
   dsimp only[L2.KOf]
   refine' Mi.pQ KX G ?xce ?xcq
   (case xce=>k_is)
   (case xcq=>k_exc)
  have FL:Mi.XmD (L2.KOf KX) mg ["NoThrow"] "NoThrow":=by
   dsimp only[L2.KOf]
   refine' Mi.iZ KX G ?xme ?xmt
   (case xme=>k_is)
   case xmt=>
    refine' Mi.jd ?xma ?xmb ?xmc ?_
    (case xma=>k_is)
    (case xmb=>kts_exm)
    (case xmc=>decide)
    exact Mi.all_nil
  have z_abs:mg "abs"=none:=by
   refine' PySem.W.mg_none_of KX G ?z
   (case z=>k_is)
  have z_all:mg "all"=none:=by
   refine' PySem.W.mg_none_of KX G ?z
   (case z=>k_is)
  have z_bool:mg "bool"=none:=by
   refine' PySem.W.mg_none_of KX G ?z
   (case z=>k_is)
  have z_enumerate:mg "enumerate"=none:=by
   refine' PySem.W.mg_none_of KX G ?z
   (case z=>k_is)
  have z_int:mg "int"=none:=by
   refine' PySem.W.mg_none_of KX G ?z
   (case z=>k_is)
  have z_isinstance:mg "isinstance"=none:=by
   refine' PySem.W.mg_none_of KX G ?z
   (case z=>k_is)
  have z_len:mg "len"=none:=by
   refine' PySem.W.mg_none_of KX G ?z
   (case z=>k_is)
  have z_list:mg "list"=none:=by
   refine' PySem.W.mg_none_of KX G ?z
   (case z=>k_is)
  have z_max:mg "max"=none:=by
   refine' PySem.W.mg_none_of KX G ?z
   (case z=>k_is)
  have z_min:mg "min"=none:=by
   refine' PySem.W.mg_none_of KX G ?z
   (case z=>k_is)
  have z_range:mg "range"=none:=by
   refine' PySem.W.mg_none_of KX G ?z
   (case z=>k_is)
  have z_sorted:mg "sorted"=none:=by
   refine' PySem.W.mg_none_of KX G ?z
   (case z=>k_is)
  have z_str:mg "str"=none:=by
   refine' PySem.W.mg_none_of KX G ?z
   (case z=>k_is)
  have z_sum:mg "sum"=none:=by
   refine' PySem.W.mg_none_of KX G ?z
   (case z=>k_is)
  have z_tuple:mg "tuple"=none:=by
   refine' PySem.W.mg_none_of KX G ?z
   (case z=>k_is)
  have z_zip:mg "zip"=none:=by
   refine' PySem.W.mg_none_of KX G ?z
   (case z=>k_is)
  refine⟨⟨z_abs,z_all,z_bool,z_enumerate,z_int,z_isinstance,z_len,z_list,z_max,z_min,z_range,z_sorted,z_str,z_sum,z_tuple,z_zip⟩,UQ,JK,EM,Hd,FL,?_,?_,?_,?_,?_,?_,?_,?_,?_,?_,?_,?_,?_,?_,?_,?_,?_,?_,?_,?_,?_,?_,?_,?_,?_,?_,?_,?_,?_,?_,?_,?_,?_,?_,?_,?_,?_,?_,?_,?_,?_,?_,?_,?_,?_,?_,?_,?_,?_,?_,?_,?_,?_,?_,?_,?_,?_,?_,?_,?_,?_,?_,?_,?_,?_,?_,?_,?_,?_,?_,?_,?_,?_,?_,?_,?_⟩
  all_goals (refine' Mi.jf KX G ?a ?l ?c ?k;(case a=>k_is);(case l=>k_is);(case c=>k_is);(case k=>k_is))
end
