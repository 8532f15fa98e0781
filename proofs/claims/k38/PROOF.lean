import PyProof.Rows.All
import Wide.All
import OpenK.AllK
import Wide.FinOn
import Lean
import PyProof.EqAt
import PyProof.EqKinds
import PyProof.TupleCall
import PyProof.Draws
import PyProof.EnumMake
import PyProof.EnumFor
import PyProof.ZipIter
import PyProof.FactsAll.dict_1
import PyProof.ListMulRoad
import PyProof.NeData
import PyProof.SumWalkG
import KE.KSortedM
import PyProof.ListRange
import KE.KIsAll
import PySem.Challenge.RW_sharetrail_k38_bearings_looked_at
set_option Elab.async false
set_option linter.all false
set_option maxRecDepth 100000
set_option maxHeartbeats 4000000
set_option exponentiation.threshold 10000
open _root_ renaming List->Gc,Option->uL,of_decide_eq_true->uf,Bool->vL,if_pos->vM,if_neg->vP,Array->vY,or_false->vd,decide_eq_true->w6,False->xB,String->xI,decide_eq_false->xS,decide_eq_true_eq->xZ,if_true->yi,if_false->zX,True->AAm,not_or->AA3,beq_eq_false_iff_ne->ABH,beq_iff_eq->ABY
open Array renaming length_toList->zG
open Bool renaming and_eq_true->ub,false_ne_true->va,or_eq_true->vo,noConfusion->wk,false_and->AAv,and_false->AAz,false_eq_true->ABZ
open False renaming elim->wL
open ForInStep renaming yield->zC
open Int renaming toNat_of_nonneg->vX,mul_pos->vv,natAbs_natCast->wm,emod_nonneg->xU,natAbs_mul->xl,emod_lt_of_pos->xu,toNat_natCast->x8,eq_ofNat_of_zero_le->yb,mul_nonneg->yt,mul_le_mul->yu,mul_le_mul_of_nonneg_right->y0,lt_of_lt_of_le->zo,le_refl->zy,mul_ediv_cancel_left->z8,pow_succ->AAd,natCast_mul->AAi
open List renaming getElem?_eq_getElem->tz,getElem?_append_left->uP,mem_cons->uQ,mem_cons_of_mem->uR,getElem?_set_ne->uS,getD_eq_getElem?_getD->uT,getElem?_eq_some_iff->uU,mem_cons_self->uX,getElem?_map->uY,getElem?_set_self->ua,range->uc,size_toArray->ue,not_mem_nil->ug,mem_of_getElem?->uh,getElem?_concat_length->uj,mem_append->uk,replicate->um,map_cons->uv,mem_map->ux,mem_singleton->uy,filterMap_cons->vB,drop_eq_getElem_cons->vG,nil_append->vH,getElem?_append_right->vQ,length_cons->vR,cons_append->vS,length_map->vT,mem_append_right->vZ,drop_eq_nil_of_le->vf,map_map->vh,length_append->vm,prefix_rfl->vp,of_mem_zip->wF,map_nil->wG,lookup_cons->wH,getElem_mem->wI,append_nil->wU,replicate_succ->wd,map_append->wg,sum_cons->wq,mem_filter->xC,nodup_cons->xD,length_set->xE,all_cons->xG,any_cons->xH,mem_iff_getElem?->xO,length_filter_le->xP,getElem?_eq_none_iff->xQ,mem_or_eq_of_mem_set->xR,flatten_cons->xV,length->xp,prefix_append->xt,map_set->yK,getElem?_zip_eq_some->yM,getElem?_range->yO,length_filterMap_le->yS,length_nil->yV,lookup_append->yW,append_assoc->yj,take_of_length_le->yk,length_range->yl,getElem?_inj->ym,nodup_append->yn,mem_range'_1->yr,length_take->yy,mem_append_left->y8,getElem?_zipWith_eq_some->zB,zipWith->zO,mem_range->zR,mem_filterMap->zT,mapM_cons->zh,getElem_range->zk,ext_getElem?->zx,map_take->z9,getElem?_replicate->AAC,length_drop->AAE,any_eq_true->AAK,range_succ_eq_map->AAW,all_map->AAX,forIn_cons->AAg,range_succ->AAl,length_singleton->AAq,set_append_right->AAr,getElem?_eq_none->AAs,forIn_nil->AA1,drop_eq_nil_iff->AA6,set_append_left->ABB,length_pos_iff->ABL,foldl->ABX,zip_cons_cons->ABc
open List.MergeSort.Internal renaming splitInTwo->ABd
open Nat renaming lt_of_lt_of_le->uO,le_refl->uV,le_trans->uW,pow_le_pow_right->uz,mul_le_mul_right->vI,ne_of_lt->vK,lt_of_le_of_lt->vb,le_succ_of_le->vk,lt_irrefl->wD,zero_le->we,mul_comm->xW,lt_or_ge->xY,le_of_succ_le->x9,mul_pos->yH,pos_of_ne_zero->yY,mul_assoc->y7,le_of_lt->zI,gcd->zM,mul_le_mul->zl,one_lt_two_pow->zm,add_comm->AAV,zero_add->AAa,gcd_comm->AAb,pow_succ->AAc,not_lt_zero->AAk,pow_lt_pow_right->ABC
open Ne renaming symm->wR
open Option renaming some->Fk,none->uK,bind_some->yI,map->yX
open Option.some renaming inj->vg
open PyProof.Rows renaming slot_tuple_getitem->vE,boot_isinstance->vW,boot_tuple->vc,envOfC->ve,callWith_type1->wW,boot_list->xo,IntsAre->yR,AllBare->yZ,entry_tuple_getitem->zH,assignInOrder_cons->zS,slicePart_none->zY,args_tuple_getitem->zZ,boot_int->AAJ,subscriptTail_builtinR->AAT,Subscript_->AAt,boot_bool->ABG,tupleItemsOf_->ABQ
open PyProof.Rows.IsTup renaming new->xf
open PySem renaming Value->W1,wpAny_bind->uI,Shared->uM,Addr->uN,wpAny_pure->uZ,starEach->uo,Program->ur,Expr->uu,Heap->vF,Stmt->vJ,Around->vN,World->vO,mem_of_lookup->vV,Scope->vx,wpAny_newObj_type->v3,wpAny_callSpecial?_slot->v5,wpAny_Call_Name_kw->wB,wpAny_mono->wK,wpAny_field->wM,Env->wN,wpAny_call_entry->wV,wpAny_holding->wX,FuncData->wY,wpAny_pyIter_list->wZ,wpAny_pyIter_tuple->wj,ExceptHandler->wt,boot_len->xA,call_meets->xF,wpAny_setField_rec->xN,wpAny_passesOwn->xT,IsPair->xg,wpAny_execs_cons->xi,NameKind->xj,wpAny_getItem_str_slice->xk,wpAny_truthy_bool->x5,Builtin->yA,typeIs_int->yD,wpAny_seqItems->yE,wpAny_binaryOp_repeat_ref->yL,wpAny_standAt->yP,wpAny_execs_nil->yU,wpAny_pyNext_list_item->yd,wpAny_pyNext_list_end->yv,wpAny_updateSeq_pair->zA,post_val_or_str->zF,Arguments->zQ,wpAny_newFunctionEnv_cells->zW,typeIs_str->zc,IsZip->ze,Data->zf,Keyword->zt,wpAny_sequenceKey->zu,wpAny_comprehension_free->z0,wpAny_onRaise->z6,noFill_tuple_add->AAD,wpAny_rule->AAO,wpAny_call->AAP,codeAny_mono->AAQ,IsPart->AAR,wpAny_typeOf->AAS,wpAny_pyIter_listiter->AAn,codeAny_call_function->AAo,wpAny_Expr_any->AAu,intBits_le_iff->AA5,wpAny_newFunctionEnv->AA9,seq_tuple_add->ABP,evalPart_none->ABR
open PySem.Around renaming frames_deeper->AAx
open PySem.AutoSeq1 renaming wpAny_loadPart'->uw
open PySem.Builtin.List renaming listTooLong->wO
open PySem.Builtin.Slice renaming slicePlaces->vj,sliceAdjust->wJ,sliceApplied->xK,sliceFields->zp
open PySem.Builtin.SmallTypes renaming nextOf->vU,ownedTupleIsFree->wQ,ownedTupleHandOut->yN
open PySem.Builtin.Str renaming tooLong->ABM
open PySem.Builtin.Tuple renaming tupleExact->vn,tupleItemsOf->yC,tupleTooMany->zg
open PySem.Calls renaming Name_function_global->yB,spliced_cons->yf,spliced_nil->yw,loadGlobal_global->AAB,callWith_builtin->AAU,evalArgs_plain->AAy
open PySem.Challenge renaming pw_sharetrail_k38_bearings_looked_at->zL
open PySem.F renaming slot_list_append->vA,type_list_append->vD,slot_tuple_iterator_next->xM,slot_str_getitem->xh,slot_int_rmul->xw,slot_dict_eq->yF,args_tuple_add_2->yQ,entry_tuple_add->ya,slot_tuple_add->yh,slot_tuple_mul->yz,slot_list_extend->y9,args_tuple_iterator_next_1->zD,slot_zip_next->zE,entry_tuple_iterator_next->zJ,args_int_rmul_2->zv,slot_int_index->AAF,entry_int_rmul->AAG,args_dict_eq_2->AAI,slot_str_upper->AAZ,fills_int_mul->AAf,entry_dict_eq->AAh,args_list_extend_2->AA0,slot_tuple_eq_refl->AA4,excBase_ValueError->AA7,entry_list_extend->ABI,slot_list_eq_refl->ABK,slot_int_eq_refl->ABa,args_tuple_mul_2->ABb
open PySem.Heap renaming get?_push_of_some->uJ,lt_size->ui,get?_push_size->uq,size_push->wC,get?_update_other->xr,SameBut->yc,IsTuple->zK,ExtBut->zw,get?_update_self->AAp,IsList->AA2
open PySem.Heap.IsSliceOf renaming new->ABW
open PySem.Heap.SameBut renaming update->ABJ
open PySem.NameKind renaming free->vq,cell->xy
open PySem.Obj renaming mapSeq->zb
open PySem.PassesOwn renaming never->vC
open PySem.PyData renaming strOk->vt,depth->xv,canLayAll0->yo
open PySem.SeqAt renaming rc_eq_decline_or->AAH
open PySem.SeqAt.EqAt renaming int_str->ABS,str_int->ABT
open PySem.Shared renaming heap->xX
open PySem.Str renaming ofString->vw
open PySem.Txt renaming slice_le->AAY,upper->ABF
open PySem.Value renaming ref->vi,none->vz,int->zP,str->AAA,bool->AAM,type->AAN,isStrOf->ABO
open PySem.W renaming Frag->Wp,kia_one->vy,nsIn->wc,envX->wu,keepIn->wy,kitOne->xJ,fnOf->xq,exmOne->yG,mg_of->yT,findIn->ye,cellsFrom_some->yg,tabObj->yp,kla_fn->yq,callWith_K->zU,codeIn->zV,methodObj->zq,excIn->z7,OpenLaw->AAL,instObj->AAe,kla_obj->AAj,lookIn->AAw,kla_callFunE->AA8,kla_codeExpr->ABA,callWith_F0->ABN,kitx_tuple->ABU,codeRec_of->ABV
open PySem.codeAmong renaming eq_def->yJ
open Rat renaming intCast_eq_zero_iff->xn
open Sum renaming inl->ABD,inr->ABE
open True renaming intro->yx
noncomputable section
namespace L2
open PySem PySem.Spec PyProof.Rows
abbrev Key:=Sum Int Str
noncomputable def V7:Key->W1->vL
 | .inl k,v=>Value.isInt k v
 | .inr x,v=>ABO x v
noncomputable def rW(w:vO):Key->Int
 | .inl k=>hashInt k
 | .inr x=>hashStr w x
theorem DL:∀{k:Key} {v:W1},V7 k v=true->(∃i t,k=ABD i/\v=zP i t)\/(∃x t,k=ABE x/\v=AAA x t)
 | .inl i,v,h=>by
   obtain⟨t,e⟩:=Value.isInt_shape (k:=i) (v:=v) h
   exact .inl ⟨i,t,rfl,e⟩
 | .inr x,v,h=>by
   obtain⟨t,e⟩:=Value.isStrOf_shape (x:=x) (v:=v) h
   exact .inr ⟨x,t,rfl,e⟩
theorem X4(i:Int)(t:Tok):V7 (.inl i) (.int i t)=true:=by simp[V7,Value.isInt]
theorem Xo(x:Str)(t:Tok):V7 (.inr x) (.str x t)=true:=by simp[V7,ABO]
theorem j9(a b:Int):decide ((ABD a:Key)=ABD b)=(a==b):=by
 by_cases e:a=b
 .subst e;simp
 .have h:¬(ABD a:Key)=ABD b:=λq=>e (Sum.inl.inj q)
  rw[xS h]
  exact(ABH.mpr e).symm
theorem ia(a b:Str):decide ((ABE a:Key)=ABE b)=decide (a=b):=by
 by_cases e:a=b
 .subst e;simp
 .have h:¬(ABE a:Key)=ABE b:=λq=>e (Sum.inr.inj q)
  rw[xS h,xS e]
theorem jC(a:Int)(b:Str):decide ((ABD a:Key)=ABE b)=false:=xS (λq=>nomatch q)
theorem kU(a:Str)(b:Int):decide ((ABE a:Key)=ABD b)=false:=xS (λq=>nomatch q)
noncomputable def Eg(prog:ur)(w:vO):PySem.KeyKind prog w Key where
 is:=V7
 hash:=rW w
 inj:=λv a b ha hb=>by
  rcases DL ha with⟨i,t,rfl,rfl⟩|⟨x,t,rfl,rfl⟩
  .rcases DL hb with⟨j,u,rfl,e⟩|⟨y,u,rfl,e⟩
   .injection e with e1 _;rw[e1]
   .exact nomatch e
  .rcases DL hb with⟨j,u,rfl,e⟩|⟨y,u,rfl,e⟩
   .exact nomatch e
   .injection e with e1 _;rw[e1]
 byValue:=λk v h=>by
  rcases DL h with⟨i,t,rfl,rfl⟩|⟨x,t,rfl,rfl⟩<;>rfl
 pyHash:=λhv h=>by
  rcases DL hv with⟨i,t,rfl,rfl⟩|⟨x,t,rfl,rfl⟩
  .exact wpAny_pyHash_int h
  .exact wpAny_pyHash_str h
 eqBool:=λhu hv h=>by
  rcases DL hu with⟨i,t,rfl,rfl⟩|⟨x,t,rfl,rfl⟩
  .rcases DL hv with⟨j,u,rfl,rfl⟩|⟨y,u,rfl,rfl⟩
   .rw[j9]at h;exact wpAny_eqBool_int h
   .rw[jC]at h;exact ABS i t y u _ _ _ _ h
  .rcases DL hv with⟨j,u,rfl,rfl⟩|⟨y,u,rfl,rfl⟩
   .rw[kU]at h;exact ABT x t j u _ _ _ _ h
   .rw[ia]at h;exact wpAny_eqBool_str h
 «strs» :=λk x t v h=>by
  rcases DL h with⟨i,u,rfl,e⟩|⟨y,u,rfl,e⟩
  .exact nomatch e
  .injection e with e1 _
   subst e1
   cases v<;>rfl
theorem UL(prog:ur)(w:vO)(i:Int)(t:Tok):(Eg prog w).is (.inl i) (.int i t)=true:=X4 i t
theorem UE(prog:ur)(w:vO)(x:Str)(t:Tok):(Eg prog w).is (.inr x) (.str x t)=true:=Xo x t
end L2
namespace L2
open PySem PySem.Spec PyProof.Rows
inductive V where
 |non|bl (b:vL)|int (i:Int)|str (x:Str)|byt (b:vY UInt8)|flt (b:UInt64)|ref (a:uN)|ty (n:xI)
 deriving DecidableEq
def RelV:V->W1->Prop
 | .non,u=>u=vz
 | .bl b,u=>u=AAM b
 | .int i,u=>∃t,u=zP i t
 | .str x,u=>∃t,u=AAA x t
 | .byt b,u=>∃t,u=Value.bytes b t
 | .flt b,u=>∃t,u=Value.float b t
 | .ref a,u=>u=vi a
 | .ty n,u=>u=AAN n
abbrev Vals:Gc V->Gc W1->Prop:=Paired RelV
theorem Vals.length{xs:Gc V}{us:Gc W1}(r:Vals xs us):xs.length=us.length:=Paired.length r
theorem Vals.get:∀{xs:Gc V} {us:Gc W1} {i:Nat} {x:V},Vals xs us->xs[i]?=Fk x->∃u,us[i]?=Fk u/\RelV x u
 |_,_,_,_,.nil,e=>by simp at e
 |_,_,0,_,.cons r _,e=>by simp at e;subst e;exact⟨_,rfl,r⟩
 |_,_,i+1,x,.cons _ t,e=>by
  obtain⟨u,h1,h2⟩:=Vals.get (i:=i) (x:=x) t (by simpa using e)
  exact⟨u,by simpa using h1,h2⟩
theorem Vals.set{x:V}{u:W1}(r:RelV x u):∀{xs:Gc V} {us:Gc W1} (i:Nat),Vals xs us->Vals (xs.set i x) (us.set i u)
 |_,_,_,.nil=>.nil
 |_,_,0,.cons _ t=>.cons r t
 |_,_,i+1,.cons q t=>.cons q (Vals.set r i t)
theorem Vals.append:∀{xs ys:Gc V} {us ws:Gc W1},Vals xs us->Vals ys ws->Vals (xs++ys) (us++ws)
 |_,_,_,_,.nil,s=>s
 |_,_,_,_,.cons r t,s=>.cons r (Vals.append t s)
theorem Vals.take:∀{xs:Gc V} {us:Gc W1} (n:Nat),Vals xs us->Vals (xs.take n) (us.take n)
 |_,_,0,_=>.nil
 |_,_,_+1,.nil=>.nil
 |_,_,n+1,.cons r t=>.cons r (Vals.take n t)
theorem Vals.drop:∀{xs:Gc V} {us:Gc W1} (n:Nat),Vals xs us->Vals (xs.drop n) (us.drop n)
 |_,_,0,r=>r
 |_,_,_+1,.nil=>.nil
 |_,_,n+1,.cons _ t=>Vals.drop n t
theorem Vals.none_of:∀{xs:Gc V} {us:Gc W1} {i:Nat},Vals xs us->xs[i]?=uK->us[i]?=none:=λ{xs us i} r e=>by
 have h1:=r.length
 have h2:xs.length<=i:=xQ.mp e
 exact xQ.mpr (by lia)
def mC:uL V->uL W1->Prop
 |some v,Fk u=>RelV v u
 |none,uK=>AAm
 |_,_=>xB
def KV{κ:Type}:Gc (κ×V)->Gc (κ×W1)->Prop:=Paired λ(p:κ×V) (q:κ×W1)=>p.1=q.1/\RelV p.2 q.2
noncomputable def kV:Key->V
 | .inl i=>.int i
 | .inr x=>.str x
inductive HO where
 |lst (xs:Gc V)
 |tup (xs:Gc V)
 |dK (kvs:Gc (Key×V))|dT (kvs:Gc (Gc Key×V))
 |set (S:Int->vL) (n:Nat)
 |ins (C dx:uN) (fs:Gc (Str×V))
 |own (x:uN)
 |xd (fs:Gc (Str×V))
 |met (f x:uN)
 |rng (lo hi:Int)
 |frz (o:Obj) (u:HO)
 |tbl (ps:vY W1)
 |ext (φ:vF->Prop)
abbrev Hp:=uN->uL HO
noncomputable def upd(H:Hp)(a:uN)(o:HO):Hp:=λb=>if b=a then Fk o else H b
theorem Bf{H:Hp}{a:uN}{o:HO}:upd H a o a=Fk o:=by unfold upd;rw[vM rfl]
theorem An{H:Hp}{a b:uN}{o:HO}(h:b≠a):upd H a o b=H b:=by unfold upd;rw[vP h]
theorem Bv{H:Hp}{a b:uN}{o:HO}(h:H a=Fk o)(h':H b=uK):a≠b:=by
 intro e;subst e;rw[h]at h';cases h'
section
variable(P:ur)(w:vO)
def ES(H:Hp)(h:vF)(a:uN):HO->Prop
 | .lst xs=>xs.length<=sizeLine/\∃(its:Gc W1) (n:Nat),Vals xs its/\h.get? a=Fk {cls:=.type "list",data:=.seq its.toArray n}
 | .tup xs=>xs.length<=sizeLine/\∃its:Gc W1,Vals xs its/\IsTup h a its.toArray
 | .dK kvs=>kvs.length<=sizeLine/\(a==sysModules)=false/\∃vs,KV kvs vs/\h.DictOf (Eg P w) a vs
 | .dT kvs=>kvs.length<=sizeLine/\(a==sysModules)=false/\∃xs:Gc (Gc Key×uN×W1),
    Paired (λ(p:Gc Key×V) (q:Gc Key×uN×W1)=>p.1=q.1/\H q.2.1=Fk (.tup (p.1.map kV))/\RelV p.2 q.2.2) kvs xs/\
    ∃o es ep,h.get? a=Fk o/\o.ExactDict/\o.data=.dict es ep/\es.toList=xs.map (entryOfKey (tupleKind (Eg P w)))/\(xs.map (·.1)).Nodup
 | .set S n=>h.SetOf (intKind P w) a S n
 | .ins C dx fs=>H dx=Fk (.own a)/\fs.length<=1000/\dx≠a/\h.get? a=Fk (AAe C dx)/\
    ∃mA,h.Ns1 dx mA/\(∀f,mC (fs.lookup f) (mA f))/\PySem.Within mA (fs.map (·.1))
 | .own _=>∃o,h.get? a=Fk o
 | .xd fs=>∃mA,h.Ns1 a mA/\∀f,mC (fs.lookup f) (mA f)
 | .rng lo hi=>∃t u v,h.get? a=Fk {cls:=.type "range",data:=.fields #[.int lo t,.int hi u,.int 1 v]}
 | .frz o u=>h.get? a=Fk o/\ES H h a u
 | .tbl ps=>h.get? a=Fk {cls:=.none,data:=.fields ps}
 | .met f x=>h.get? a=Fk (zq (.ref f) (.ref x))
 | .ext φ=>φ h/\(∃o,h.get? a=Fk o)/\∀h1 h2:vF,φ h1->(∀o,h1.get? a=Fk o->h2.get? a=Fk o)->φ h2
def HOk(H:Hp)(h:vF):Prop:=∀a o,H a=Fk o->ES P w H h a o
end
section
variable{P:ur}{w:vO}{H H':Hp}{h h':vF}{a:uN}{o:HO}
theorem ES.lt(x:ES P w H h a o):a<h.objs.size:=by
 cases o with
 |lst xs=>obtain⟨_,_,_,_,e⟩:=x;exact ui e
 |tup xs=>obtain⟨_,_,_,p⟩:=x;exact p.lt
 |dK kvs=>obtain⟨_,_,_,_,o,_,_,e,_⟩:=x;exact ui e
 |dT kvs=>obtain⟨_,_,_,_,o,_,_,e,_⟩:=x;exact ui e
 |set S n=>obtain⟨o,_,_,_,e,_⟩:=x;exact ui e
 |ins C dx fs=>obtain⟨_,_,_,e,_⟩:=x;exact ui e
 |own y=>obtain⟨_,e⟩:=x;exact ui e
 |xd fs=>obtain⟨_,⟨_,_,_,e,_⟩,_⟩:=x;exact ui e
 |rng lo hi=>obtain⟨_,_,_,e⟩:=x;exact ui e
 |frz ob u=>obtain⟨e,_⟩:=x;exact ui e
 |tbl ps=>exact ui (show h.get? a=Fk _ from x)
 |met f y=>exact ui (show h.get? a=Fk _ from x)
 |ext φ=>obtain⟨_,⟨_,e⟩,_⟩:=x;exact ui e
theorem Paired.qv{α β:Type}{F G:α->β->Prop}:∀{l₁:Gc α} {l₂:Gc β},Paired F l₁ l₂->(∀a b,F a b->G a b)->Paired G l₁ l₂
 |_,_,.nil,_=>.nil
 |_,_,.cons r t,f=>.cons (f _ _ r) (Paired.qv t f)
theorem ES.Yv(x:ES P w H h a o)(k:∀b u,(b=a\/H b=Fk (.own a))->h.get? b=Fk u->h'.get? b=Fk u)(ho:∀b,H b=Fk (.own a)->H' b=Fk (.own a))(ht:∀b xs,H b=Fk (.tup xs)->H' b=Fk (.tup xs)):ES P w H' h' a o:=by
 induction o with
 |lst xs=>obtain⟨z,its,n,r,e⟩:=x;exact⟨z,its,n,r,k _ _ (.inl rfl) e⟩
 |tup xs=>obtain⟨z,its,r,ob,e,c⟩:=x;exact⟨z,its,r,ob,k _ _ (.inl rfl) e,c⟩
 |dK kvs=>obtain⟨z,y,vs,r,ob,es,ep,e,c⟩:=x;exact⟨z,y,vs,r,ob,es,ep,k _ _ (.inl rfl) e,c⟩
 |dT kvs=>
  obtain⟨z,y,xs,r,ob,es,ep,e,c⟩:=x
  exact⟨z,y,xs,Paired.qv r λp q z=>⟨z.1,ht _ _ z.2.1,z.2.2⟩,ob,es,ep,k _ _ (.inl rfl) e,c⟩
 |set S n=>obtain⟨ob,es,ep,t,e,c⟩:=x;exact⟨ob,es,ep,t,k _ _ (.inl rfl) e,c⟩
 |ins C dx fs=>
  obtain⟨d,z,ne,e,mA,⟨od,es,ep,e2,c⟩,r⟩:=x
  exact⟨ho _ d,z,ne,k _ _ (.inl rfl) e,mA,⟨od,es,ep,k _ _ (.inr d) e2,c⟩,r⟩
 |own y=>obtain⟨ob,e⟩:=x;exact⟨ob,k _ _ (.inl rfl) e⟩
 |xd fs=>obtain⟨mA,⟨od,es,ep,e,c⟩,r⟩:=x;exact⟨mA,⟨od,es,ep,k _ _ (.inl rfl) e,c⟩,r⟩
 |rng lo hi=>obtain⟨t,u,v,e⟩:=x;exact⟨t,u,v,k _ _ (.inl rfl) e⟩
 |frz ob u ih=>obtain⟨e,q⟩:=x;exact⟨k _ _ (.inl rfl) e,ih q⟩
 |tbl ps=>
  have e:h.get? a=Fk {cls:=.none,data:=.fields ps}:=x
  show h'.get? a=Fk {cls:=.none,data:=.fields ps}
  exact k a _ (.inl rfl) e
 |met f y=>
  have e:h.get? a=Fk (zq (.ref f) (.ref y)):=x
  show h'.get? a=Fk (zq (.ref f) (.ref y))
  exact k a _ (.inl rfl) e
 |ext φ=>obtain⟨p,⟨o,e⟩,st⟩:=x;exact⟨st _ _ p λo q=>k _ _ (.inl rfl) q,⟨o,k _ _ (.inl rfl) e⟩,st⟩
theorem HOk.lt(x:HOk P w H h)(e:H a=Fk o):a<h.objs.size:=(x a o e).lt
theorem HOk.fresh(x:HOk P w H h)(e:h.objs.size<=a):H a=none:=by
 cases q:H a with
 |none=>rfl
 |some u=>exact absurd (uO (x.lt q) e) (wD _)
theorem HOk.kept(x:HOk P w H h)(k:∀b u,h.get? b=Fk u->h'.get? b=Fk u):HOk P w H h':=λa o e=>
 (x a o e).Yv (λb u _ q=>k b u q) (λ_ q=>q) λ_ _ q=>q
theorem HOk.laid(x:HOk P w H h)(k:∀b u,h.get? b=Fk u->h'.get? b=Fk u)(hp:h.objs.size<=a)(new:ES P w (upd H a o) h' a o):HOk P w (upd H a o) h':=λb u e=>by
 have hn:=x.fresh hp
 by_cases hb:b=a
 .subst hb;rw[Bf]at e;cases e;exact new
 .rw[An hb]at e
  exact(x b u e).Yv (λc v _ q=>k c v q) (λc q=>by rw[An (Bv q hn)];exact q) λc xs q=>by rw[An (Bv q hn)];exact q
end
def Rd(H:Hp)(a:uN)(u:HO):Prop:=H a=Fk u\/∃o,H a=Fk (.frz o u)
theorem Rd.ok{P:ur}{w:vO}{H:Hp}{h:vF}{a:uN}{u:HO}(r:Rd H a u)(x:HOk P w H h):ES P w H h a u:=by
 rcases r with r|⟨o,r⟩
 .exact x a u r
 .obtain⟨_,q⟩:=x a _ r
  exact q
def Mut:uL HO->Prop
 |some (.lst _)=>AAm
 |some (.dK _)=>AAm
 |some (.dT _)=>AAm
 |some (.set _ _)=>AAm
 |some (.ins _ _ _)=>AAm
 |some (.ext _)=>AAm
 |_=>xB
section
variable{P:ur}{w:vO}{H:Hp}{h h':vF}{x e:uN}{o':HO}
theorem HOk.write(ok:HOk P w H h)(mu:Mut (H x))(he:e=x\/H e=Fk (.own x))(k:∀b u,b≠e->h.get? b=Fk u->h'.get? b=Fk u)(heo:∃u,h'.get? e=Fk u)(new:ES P w (upd H x o') h' x o'):HOk P w (upd H x o') h':=λb u q=>by
 have nown:∀c y,H c=Fk (.own y)->c≠x:=λc y r z=>by subst z;rw[r]at mu;exact mu
 have ntup:∀c xs,H c=Fk (.tup xs)->c≠x:=λc xs r z=>by subst z;rw[r]at mu;exact mu
 by_cases hb:b=x
 .subst hb;rw[Bf]at q;cases q;exact new
 .rw[An hb]at q
  by_cases hbe:b=e
  .have q':H b=Fk (.own x):=by
    rcases he with z|z
    .exact absurd (hbe.trans z) hb
    .rw[hbe];exact z
   rw[q]at q';cases q'
   obtain⟨v,hv⟩:=heo
   exact⟨v,by rw[hbe];exact hv⟩
  .refine(ok b u q).Yv (λc v hc r=>k c v ?_ r) (λc r=>by rw[An (nown c b r)];exact r) λc xs r=>by rw[An (ntup c xs r)];exact r
   rcases hc with rfl|hc
   .exact hbe
   .rintro rfl
    rcases he with z|z
    .exact nown c b hc z
    .rw[hc]at z;cases z;exact hb rfl
end
structure Un(fs ex:Gc uN)(H H':Hp)(h h':vF):Prop where
 keep:∀b o,h.get? b=Fk o->H b=uK->b∉fs->b∉ex->h'.get? b=Fk o
 slot:∀b o,h.get? b=Fk o->H b=uK->b∈fs->b∉ex->∃sl,h'.get? b=Fk {o with slots:=sl}
 free:∀b o,h.get? b=Fk o->H b=uK->b∉ex->H' b=uK
 there:∀b o,h.get? b=Fk o->b∉ex->∃o',h'.get? b=Fk o'
 aL:∀b xs,H b=Fk (.tup xs)->H' b=Fk (.tup xs)
 W0:∀b o u,H b=Fk (.frz o u)->H' b=Fk (.frz o u)
 Yz:∀b ps,H b=Fk (.tbl ps)->∃more,H' b=Fk (.tbl (ps++more))
section
variable{fs fs' ex ex':Gc uN}{H H1 H2:Hp}{h h1 h2 h':vF}{a x e:uN}{o:HO}
theorem Un.any(u:Un fs ex H H1 h h1){b:uN}{ob:Obj}(q:h.get? b=Fk ob)(n:H b=uK)(hx:b∉ex):∃sl,h1.get? b=Fk {ob with slots:=sl}:=by
 by_cases hb:b∈fs
 .exact u.slot b ob q n hb hx
 .exact⟨ob.slots,u.keep b ob q n hb hx⟩
theorem Un.kept(k:∀b u,h.get? b=Fk u->h'.get? b=Fk u):Un fs ex H H h h':=
 ⟨λb ob q _ _ _=>k b ob q,λb ob q _ _ _=>⟨ob.slots,k b ob q⟩,λ_ _ _ n _=>n,λb ob q _=>⟨ob,k b ob q⟩,λ_ _ q=>q,λ_ _ _ q=>q,λ_ ps q=>⟨#[],by rw[q];simp⟩⟩
theorem Un.refl:Un fs ex H H h h:=Un.kept λ_ _ q=>q
theorem Un.laid(k:∀b u,h.get? b=Fk u->h'.get? b=Fk u)(hp:h.objs.size<=a)(hn:H a=uK):Un fs ex H (upd H a o) h h' where
 keep:=λb u q _ _ _=>k b u q
 slot:=λb u q _ _ _=>⟨u.slots,k b u q⟩
 free:=λb u q n _=>by rw[An (vK (uO (ui q) hp))];exact n
 there:=λb u q _=>⟨u,k b u q⟩
 aL:=λb xs q=>by rw[An (Bv q hn)];exact q
 W0:=λb u xs q=>by rw[An (Bv q hn)];exact q
 Yz:=λb ps q=>⟨#[],by rw[An (Bv q hn),q];simp⟩
theorem Un.write(mu:Mut (H x))(he:e=x\/H e=Fk (.own x))(k:∀b u,b≠e->h.get? b=Fk u->h'.get? b=Fk u)(heo:∃u,h'.get? e=Fk u):Un fs ex H (upd H x o) h h':=by
 have hx:∀b,H b=uK->b≠x:=λb n z=>by subst z;rw[n]at mu;exact mu
 have hb:∀b,H b=uK->b≠e:=λb n z=>by
  subst z
  rcases he with r|r
  .exact hx b n r
  .rw[n]at r;cases r
 have hm:∀b u,H b=Fk u->¬Mut (Fk u)->b≠x:=λb u q nm z=>by subst z;rw[q]at mu;exact nm mu
 refine⟨λb u q n _ _=>k b u (hb b n) q,λb u q n _ _=>⟨u.slots,k b u (hb b n) q⟩,λb u q n _=>by rw[An (hx b n)];exact n,λb u q _=>?_,
  λb xs q=>by rw[An (hm b _ q λz=>z)];exact q,λb u xs q=>by rw[An (hm b _ q λz=>z)];exact q,λb ps q=>⟨#[],by rw[An (hm b _ q λz=>z),q];simp⟩⟩
 by_cases hbe:b=e
 .subst hbe;exact heo
 .exact⟨u,k b u hbe q⟩
end
noncomputable def trk(h:vF)(H:Hp):Gc uN:=(uc h.objs.size).filter λa=>(H a).isSome
noncomputable def Yi(h:vF)(H:Hp):vF:=PySem.W.hideAll h (trk h H)
theorem Wh(h:vF)(H:Hp):(Yi h H).objs.size=h.objs.size:=PySem.W.hideAll_size _ _
theorem ZH{h:vF}{H:Hp}{b:uN}{o:Obj}(e:h.get? b=Fk o)(n:H b=uK):(Yi h H).get? b=Fk o:=
 PySem.W.hideAll_get _ e λhm=>by
  have q:(H b).isSome=true:=(xC.mp hm).2
  rw[n]at q;simp at q
theorem gh{h:vF}{H:Hp}{b:uN}{o:Obj}(e:(Yi h H).get? b=Fk o):h.get? b=Fk o/\H b=none:=by
 have e':h.get? b=Fk o:=PySem.W.of_hideAll (trk h H) e
 refine⟨e',?_⟩
 cases q:H b with
 |none=>rfl
 |some x=>
  have hm:b∈trk h H:=xC.mpr ⟨zR.mpr (ui e'),by simp[q]⟩
  have z:(Yi h H).get? b=none:=PySem.W.hideAll_none (trk h H) hm
  rw[z]at e;cases e
noncomputable def eY(g h:vF)(L:uN):Gc (uN×Obj):=(uc h.objs.size).filterMap λa=>if a=L\/(g.get? a).isSome=true then uK else(h.get? a).map λo=>(a,o)
noncomputable def rest(g h:vF)(L d:uN):Gc (uN×Obj):=(eY g h L).filter λp=>decide (p.1≠d)
end L2
namespace L2
open PySem PySem.Spec PyProof.Rows
structure Mod(K:Wp)(mg:Str->uL W1)(base:vF):Prop where
 kin:K.In base
 glob:base.Ns mainGlobals mg
 blt:∃mb,base.Ns builtinsNs mb/\∀x:Str,x≠ "__name__"->mb x=bootBuiltins x
 nolimit:base.NoLimit
structure Cx where
 prog:ur
 w:vO
 K:Wp
 mg:Str->uL W1
 base:vF
 A:vN
 N:Gc Str
 s₀:uM
 H₀:Hp
 env:Env
 outer:Gc Env
 stack:Gc Env
 ex:Gc uN
 fn:Str->vL
 calm:vL
 pn:Gc (uN×Obj)
 xe:W1->uM->Prop
noncomputable def frs(l:Gc Env):Gc uN:=l.filterMap (·.frame)
abbrev Cx.fs(X:Cx):Gc uN:=frs X.outer
def Vis(sc:vx)(x:Str):Prop:=sc.names.lookup x=Fk .local\/sc.names.lookup x=Fk .cell\/sc.names.lookup x=Fk .free
def Loc(sc:vx)(x:Str):Prop:=sc.names.lookup x=Fk .local\/sc.names.lookup x=Fk .cell
def Look(env:Env)(h:vF)(m:Str->uL W1)(x:Str)(u:W1):Prop:=
 (env.kindOf x=Fk .local/\m x=Fk u)\/((env.kindOf x=Fk .cell\/env.kindOf x=Fk .free)/\∃c,env.cells.lookup x=Fk c/\h.IsCell c (Fk u))
structure Cx.Ok(X:Cx):Prop where
 mod:Mod X.K X.mg X.base
 kind:X.env.scope.kind=.function
 glob:X.env.globals=mainGlobals
 blt:X.env.builtins=builtinsNs
 above:X.s₀.heap.objs.size<=X.env.locals
 inj:∀x y c,X.env.cells.lookup x=Fk c->X.env.cells.lookup y=Fk c->x=y
 has:∀x,(X.env.kindOf x=Fk .cell\/X.env.kindOf x=Fk .free)->∃c,X.env.cells.lookup x=Fk c
 cab:∀x c,X.fn x=true->X.env.cells.lookup x=Fk c->X.s₀.heap.objs.size<=c
 hd:X.calm=true->X.A.handled=uK
 frames:X.A.frames=Fk X.stack
 stk:X.stack=X.outer\/(X.stack=X.env::X.outer/\X.env.frame=Fk X.env.locals)
 exf:∀b∈X.ex,b≠X.env.locals/\∀x c,X.env.cells.lookup x=Fk c->c≠b
 bs:∀b o,X.base.get? b=Fk o->X.s₀.heap.get? b=Fk o/\X.H₀ b=uK
 bsz:X.base.objs.size<=X.s₀.heap.objs.size
 cQ:∀b o,X.base.get? b=Fk o->b∉X.ex
 eD:∀b∈X.ex,b∉X.fs
 VP:X.s₀.heap.FunFrames X.base X.outer
 frf:∀b∈X.fs,X.H₀ b=uK
structure Inv(X:Cx)(pins:Gc (uN×Obj))(σ:Gc (uL V))(H:Hp)(s:uM):Prop where
 ok:X.Ok
 os:s.os=X.s₀.os
 bare:yZ s.gens
 base:Un X.fs X.ex X.H₀ H X.s₀.heap s.heap
 loc:∃m,s.heap.Ns X.env.locals m/\∀(i:Nat) (x:Str) (v:V),X.N[i]?=Fk x->σ[i]?=Fk (Fk v)->Vis X.env.scope x->∃u,RelV v u/\Look X.env s.heap m x u
 cell:∀x c,X.env.cells.lookup x=Fk c->∃v,s.heap.IsCell c v
 free:H X.env.locals=uK
 MN:∀x c,X.env.cells.lookup x=Fk c->H c=uK
 pin:∀p∈X.pn++pins,s.heap.get? p.1=Fk p.2/\H p.1=uK/\p.1≠X.env.locals/\p.1∉X.fs/\∀v,p.2.data≠.cell v
 hok:HOk X.prog X.w H s.heap
 len:σ.length=X.N.length
section
variable{X:Cx}{pins:Gc (uN×Obj)}{σ:Gc (uL V)}{H H':Hp}{s:uM}{h':vF}
theorem Cx.Ok.tO(ok:X.Ok){b:uN}{o:Obj}(e:X.base.get? b=Fk o):b∉X.fs:=λhb=>by
 have:=(ok.VP.mem hb).1
 rw[e]at this;cases this
theorem Inv.bs(I:Inv X pins σ H s):∀b o,X.base.get? b=Fk o->s.heap.get? b=Fk o/\H b=none:=λb o e=>
 ⟨I.base.keep b o (I.ok.bs b o e).1 (I.ok.bs b o e).2 (I.ok.tO e) (I.ok.cQ b o e),I.base.free b o (I.ok.bs b o e).1 (I.ok.bs b o e).2 (I.ok.cQ b o e)⟩
theorem Inv.bk(I:Inv X pins σ H s):∀b o,X.base.get? b=Fk o->s.heap.get? b=Fk o:=λb o e=>(I.bs b o e).1
theorem Inv.mod(I:Inv X pins σ H s):Mod X.K X.mg X.base:=I.ok.mod
theorem Inv.kIn(I:Inv X pins σ H s):X.K.In s.heap:=I.ok.mod.kin.keeps I.bk
theorem Inv.nolimit(I:Inv X pins σ H s):s.heap.NoLimit:=I.ok.mod.nolimit.keeps I.bk
theorem Inv.lt(I:Inv X pins σ H s):X.env.locals<s.heap.objs.size:=let⟨_,hn,_⟩:=I.loc;hn.lt
theorem Inv.sz(I:Inv X pins σ H s):X.s₀.heap.objs.size<=s.heap.objs.size:=uW I.ok.above (zI I.lt)
theorem Inv.tQ(I:Inv X pins σ H s){a:uN}(h:s.heap.objs.size<=a):a∉X.fs:=λhb=>by
 obtain⟨_,o,ho,_⟩:=I.ok.VP.mem hb
 exact absurd (uO (ui ho) (uW I.sz h)) (wD _)
theorem Inv.cne(I:Inv X pins σ H s):∀x c,X.env.cells.lookup x=Fk c->c≠X.env.locals:=λx c e z=>by
 obtain⟨v,o,ho,hd⟩:=I.cell x c e
 obtain⟨m,⟨o',es,ep,ho',hd',_⟩,_⟩:=I.loc
 rw[z,ho']at ho;cases ho;rw[hd']at hd;cases hd
theorem Inv.VP(I:Inv X pins σ H s):s.heap.FunFrames X.base X.outer:=by
 have all:∀(l:Gc Env),(∀b∈frs l,b∈X.fs)->X.s₀.heap.FunFrames X.base l->s.heap.FunFrames X.base l:=by
  intro l
  induction l with
  |nil=>intro _ _;trivial
  |cons env r ih=>
   intro hs hl
   obtain⟨hk,⟨L,o,hf,hn,ho,hd⟩,hr⟩:=hl
   have hL:L∈X.fs:=hs L (by unfold frs;rw[vB,hf];exact uX)
   obtain⟨sl,e⟩:=I.base.slot L o ho (I.ok.frf L hL) hL λz=>I.ok.eD L z hL
   exact⟨hk,⟨L,_,hf,hn,e,hd⟩,ih (λb hb=>hs b (by unfold frs;rw[vB,hf];exact uR _ hb)) hr⟩
 exact all X.outer (λ_ hb=>hb) I.ok.VP
theorem Inv.stack(I:Inv X pins σ H s):s.heap.FunFrames X.base X.stack:=by
 rcases I.ok.stk with e|⟨e,hf⟩
 .rw[e];exact I.VP
 .rw[e]
  obtain⟨m,hn,_⟩:=I.loc
  refine .cons (by rw[I.ok.kind];decide) hf hn ?_ I.VP
  exact Heap.get?_none_of_le (uW I.ok.bsz I.ok.above)
theorem Inv.Xc(I:Inv X pins σ H s):∀b∈frs X.stack,b∈X.env.locals::X.fs:=λb hb=>by
 rcases I.ok.stk with e|⟨e,hf⟩
 .rw[e]at hb;exact uR _ hb
 .rw[e]at hb
  unfold frs at hb
  rw[vB,hf]at hb
  exact hb
theorem Inv.T7(I:Inv X pins σ H s):∀b∈frs X.stack,H b=none:=λb hb=>by
 rcases uQ.mp (I.Xc b hb)with e|hb
 .rw[e];exact I.free
 .obtain⟨_,o,ho,_⟩:=I.ok.VP.mem hb
  exact I.base.free b o ho (I.ok.frf b hb) λz=>I.ok.eD b z hb
theorem Inv.step{g':vY GenState}{t':Nat}{d':Drawn}{ch:Gc uN}(I:Inv X pins σ H s)(hch:∀b∈ch,(b∈X.ex\/X.s₀.heap.objs.size<=b)/\b≠X.env.locals/\(∀x c,X.env.cells.lookup x=Fk c->c≠b)/\∀p∈X.pn++pins,p.1≠b)(keep:∀b o,b≠X.env.locals->b∉X.fs->b∉ch->s.heap.get? b=Fk o->H b=uK->h'.get? b=Fk o)(slot:∀b o,b≠X.env.locals->b∈X.fs->b∉ch->s.heap.get? b=Fk o->H b=uK->∃sl,h'.get? b=Fk {o with slots:=sl})(free:∀b o,b∉ch->s.heap.get? b=Fk o->H b=uK->H' b=uK)(there:∀b o,b∉ch->s.heap.get? b=Fk o->∃o',h'.get? b=Fk o')(aL:∀b xs,H b=Fk (.tup xs)->H' b=Fk (.tup xs))(W0:∀b o u,H b=Fk (.frz o u)->H' b=Fk (.frz o u))(Yz:∀b ps,H b=Fk (.tbl ps)->∃more,H' b=Fk (.tbl (ps++more)))(ns:∀m,s.heap.Ns X.env.locals m->h'.Ns X.env.locals m)(hok:HOk X.prog X.w H' h')(hg:yZ g'):Inv X pins σ H' {s with heap:=h',gens:=g',drawn:=d',toks:=t'}:=by
 have neL:∀b o,X.s₀.heap.get? b=Fk o->b≠X.env.locals:=λb o e=>vK (uO (ui e) I.ok.above)
 have neC:∀b o,X.s₀.heap.get? b=Fk o->b∉X.ex->b∉ch:=λb o e hx hb=>by
  rcases(hch b hb).1 with z|z
  .exact hx z
  .exact absurd (uO (ui e) z) (wD _)
 have cellK:∀x c,X.env.cells.lookup x=Fk c->∀v,s.heap.IsCell c v->h'.IsCell c v:=λx c e v ⟨o,ho,hd⟩=>by
  have nch:c∉ch:=λz=>(hch c z).2.2.1 x c e rfl
  by_cases hc:c∈X.fs
  .obtain⟨sl,q⟩:=slot c o (I.cne x c e) hc nch ho (I.MN x c e)
   exact⟨_,q,hd⟩
  .exact⟨o,keep c o (I.cne x c e) hc nch ho (I.MN x c e),hd⟩
 refine⟨I.ok,I.os,hg,⟨λb o e n hb hx=>?_,λb o e n hb hx=>?_,λb o e n hx=>?_,λb o e hx=>?_,λb xs e=>aL b xs (I.base.aL b xs e),λb o xs e=>W0 b o xs (I.base.W0 b o xs e),λb ps e=>?_⟩,?_,λx c e=>?_,?_,λx c e=>?_,λp hp=>?_,hok,I.len⟩
 .exact keep b o (neL b o e) hb (neC b o e hx) (I.base.keep b o e n hb hx) (I.base.free b o e n hx)
 .obtain⟨sl,e1⟩:=I.base.slot b o e n hb hx
  obtain⟨sl',e2⟩:=slot b _ (neL b o e) hb (neC b o e hx) e1 (I.base.free b o e n hx)
  exact⟨sl',e2⟩
 .obtain⟨o',e1⟩:=I.base.there b o e hx
  exact free b o' (neC b o e hx) e1 (I.base.free b o e n hx)
 .obtain⟨o',e1⟩:=I.base.there b o e hx
  exact there b o' (neC b o e hx) e1
 .obtain⟨m1,e1⟩:=I.base.Yz b ps e
  obtain⟨m2,e2⟩:=Yz b _ e1
  exact⟨m1++m2,by rw[e2,Array.append_assoc]⟩
 .obtain⟨m,hn,hl⟩:=I.loc
  refine⟨m,ns m hn,λi x v e1 e2 e3=>?_⟩
  obtain⟨u,r,l⟩:=hl i x v e1 e2 e3
  refine⟨u,r,?_⟩
  rcases l with l|⟨k,c,e,z⟩
  .exact .inl l
  .exact .inr ⟨k,c,e,cellK x c e _ z⟩
 .obtain⟨v,z⟩:=I.cell x c e
  exact⟨v,cellK x c e v z⟩
 .obtain⟨m,⟨o,_,_,ho,_⟩,_⟩:=I.loc
  exact free _ o (λz=>(hch _ z).2.1 rfl) ho I.free
 .obtain⟨v,o,ho,hd⟩:=I.cell x c e
  exact free c o (λz=>(hch c z).2.2.1 x c e rfl) ho (I.MN x c e)
 .obtain⟨e,n,ne,nf,d⟩:=I.pin p hp
  have nch:p.1∉ch:=λz=>(hch p.1 z).2.2.2 p hp rfl
  exact⟨keep p.1 p.2 ne nf nch e n,free p.1 p.2 nch e n,ne,nf,d⟩
theorem Inv.un{t':Nat}(I:Inv X pins σ H s)(u:Un X.fs [] H H' s.heap h')(hok:HOk X.prog X.w H' h'):Inv X pins σ H' {s with heap:=h',toks:=t'}:=by
 obtain⟨m,⟨o,es,ep,ho,r⟩,_⟩:=id I.loc
 obtain⟨sl,hL⟩:=u.any ho I.free (by simp)
 exact I.step (g':=s.gens) (d':=s.drawn) (ch:=[]) (λ_ z=>nomatch z) (λb o _ hb _ e n=>u.keep b o e n hb (by simp)) (λb o _ hb _ e n=>u.slot b o e n hb (by simp)) (λb o _ e n=>u.free b o e n (by simp)) (λb o _ e=>u.there b o e (by simp)) u.aL u.W0 u.Yz (λm' hm=>by
  obtain⟨o',es',ep',ho',r'⟩:=hm
  rw[ho]at ho';cases ho'
  exact⟨_,es',ep',hL,r'⟩) hok I.bare
theorem Inv.call{g':vY GenState}{t':Nat}{d':Drawn}{ch:Gc uN}(I:Inv X pins σ H s)(u:Un (frs X.stack) ch H H' s.heap h')(hok:HOk X.prog X.w H' h')(hg:yZ g')(hch:∀b∈ch,(b∈X.ex\/X.s₀.heap.objs.size<=b)/\b≠X.env.locals/\(∀x c,X.env.cells.lookup x=Fk c->c≠b)/\∀p∈X.pn++pins,p.1≠b):Inv X pins σ H' {s with heap:=h',gens:=g',drawn:=d',toks:=t'}:=by
 obtain⟨m,⟨o,es,ep,ho,r⟩,_⟩:=id I.loc
 obtain⟨sl,hL⟩:=u.any ho I.free λz=>(hch _ z).2.1 rfl
 exact I.step (ch:=ch) hch (λb o hL hb hc e n=>u.keep b o e n (λz=>(uQ.mp (I.Xc b z)).elim hL hb) hc) (λb o _ _ hc e n=>u.any e n hc) (λb o hc e n=>u.free b o e n hc) (λb o hc e=>u.there b o e hc) u.aL u.W0 u.Yz (λm' hm=>by
  obtain⟨o',es',ep',ho',r'⟩:=hm
  rw[ho]at ho';cases ho'
  exact⟨_,es',ep',hL,r'⟩) hok hg
theorem Inv.turned{t':Nat}{it:uN}(I:Inv X pins σ H s)(k:∀b o,b≠it->s.heap.get? b=Fk o->h'.get? b=Fk o)(hn:H it=uK)(hL:it≠X.env.locals)(h1:it∈X.ex\/X.s₀.heap.objs.size<=it)(h2:∀x c,X.env.cells.lookup x=Fk c->c≠it)(h3:∀p∈X.pn++pins,p.1≠it):Inv X pins σ H {s with heap:=h',toks:=t'}:=by
 have nit:∀b u,H b=Fk u->b≠it:=λb u e z=>by rw[z,hn]at e;cases e
 refine I.step (g':=s.gens) (d':=s.drawn) (ch:=[it]) (λb hb=>?_) (λb o _ _ hc e _=>k b o (λz=>hc (by simp[z])) e) (λb o _ _ hc e _=>⟨o.slots,k b o (λz=>hc (by simp[z])) e⟩) (λ_ _ _ _ n=>n)
  (λb o hc e=>⟨o,k b o (λz=>hc (by simp[z])) e⟩) (λ_ _ e=>e) (λ_ _ _ e=>e) (λb ps e=>⟨#[],by rw[e];simp⟩) (λm hm=>?_) (λb u e=>?_) I.bare
 .have e:b=it:=by simpa using hb
  subst e
  exact⟨h1,hL,h2,h3⟩
 .obtain⟨o,es,ep,ho,r⟩:=hm
  exact⟨o,es,ep,k _ o (wR hL) ho,r⟩
 .refine(I.hok b u e).Yv (λc v hc q=>k c v ?_ q) (λ_ q=>q) λ_ _ q=>q
  rcases hc with z|z
  .rw[z];exact nit b u e
  .exact nit c _ z
theorem Inv.tok(I:Inv X pins σ H s)(t:Nat):Inv X pins σ H {s with toks:=t}:=I.un (h':=s.heap) (t':=t) Un.refl I.hok
theorem Inv.kept{t':Nat}(I:Inv X pins σ H s)(k:∀b u,s.heap.get? b=Fk u->h'.get? b=Fk u):Inv X pins σ H {s with heap:=h',toks:=t'}:=I.un (Un.kept k) (I.hok.kept k)
theorem Inv.laid{a:uN}{o:HO}{t':Nat}(I:Inv X pins σ H s)(k:∀b u,s.heap.get? b=Fk u->h'.get? b=Fk u)(hp:s.heap.objs.size<=a)(new:ES X.prog X.w (upd H a o) h' a o):Inv X pins σ (upd H a o) {s with heap:=h',toks:=t'}:=I.un (Un.laid k hp (I.hok.fresh hp)) (I.hok.laid k hp new)
theorem Inv.write{x e:uN}{o:HO}{t':Nat}(I:Inv X pins σ H s)(mu:Mut (H x))(he:e=x\/H e=Fk (.own x))(k:∀b u,b≠e->s.heap.get? b=Fk u->h'.get? b=Fk u)(heo:∃u,h'.get? e=Fk u)(new:ES X.prog X.w (upd H x o) h' x o):Inv X pins σ (upd H x o) {s with heap:=h',toks:=t'}:=I.un (Un.write mu he k heo) (I.hok.write mu he k heo new)
theorem Inv.XO{pins':Gc (uN×Obj)}(I:Inv X pins σ H s)(h:∀p∈pins',s.heap.get? p.1=Fk p.2/\H p.1=uK/\p.1≠X.env.locals/\p.1∉X.fs/\∀v,p.2.data≠.cell v):Inv X pins' σ H s:=
 ⟨I.ok,I.os,I.bare,I.base,I.loc,I.cell,I.free,I.MN,λp hp=>(uk.mp hp).elim (λz=>I.pin p (y8 _ z)) (h p),I.hok,I.len⟩
theorem UU{N:Gc Str}(hN:N.Nodup){i j:Nat}{x:Str}(a:N[i]?=Fk x)(b:N[j]?=Fk x):i=j:=by
 obtain⟨h1,e1⟩:=uU.mp a
 obtain⟨h2,e2⟩:=uU.mp b
 exact(List.getElem_inj hN).mp (e1.trans e2.symm)
theorem Sv{M:Model}{A:vN}{E:W1->uM->Prop}{i:Nat}{x:Str}{v:V}{u:W1}{Q:Unit->uM->Prop}(I:Inv X pins σ H s)(hN:X.N.Nodup)(hi:X.N[i]?=Fk x)(hx:Loc X.env.scope x)(r:RelV v u)(h:∀s',Inv X pins (σ.set i (Fk v)) H s'->(∃a,yc a s.heap s'.heap/\(a=X.env.locals\/X.env.cells.lookup x=Fk a))->Q () s')(hf:X.fn x=true\/X.env.scope.names.lookup x=Fk .local:=by first|exact .inl rfl|exact .inr rfl|assumption):wpAny M A (storeName X.env x u) Q E s:=by
 obtain⟨m,hn,hl⟩:=id I.loc
 have hcls:(X.env.scope.kind== .class||(X.env.scope.kind== .module && X.env.locals !=X.env.globals))=false:=by rw[I.ok.kind];rfl
 have hiσ:i<σ.length:=by rw[I.len];exact(uU.mp hi).1
 have cne:=I.cne
 have tracked:∀{a:uN} {h':vF},(∃o,s.heap.get? a=Fk o/\H a=uK)->yc a s.heap h'->HOk X.prog X.w H h':=λ{a h'} ha hs b ob e=>by
  obtain⟨_,_,hfree⟩:=ha
  refine(I.hok b ob e).Yv (λc w' hc q=>(hs.2 c ?_).trans q) (λ_ q=>q) λ_ _ q=>q
  rintro rfl
  rcases hc with rfl|hc
  .rw[hfree]at e;cases e
  .rw[hfree]at hc;cases hc
 rcases hx with hk|hk
 .refine wpAny_storeName_local hk hn (λh' hn' hs=>?_) hcls
  obtain⟨oL,_,_,hoL,_⟩:=id hn
  refine h _ ⟨I.ok,I.os,I.bare,⟨λb o e n hb hx=>?_,λb o e n hb hx=>?_,I.base.free,λb o e hx=>?_,I.base.aL,I.base.W0,I.base.Yz⟩,⟨_,hn',λj y v' e1 e2 e3=>?_⟩,λy c e=>?_,I.free,I.MN,λp hp=>?_,tracked ⟨oL,hoL,I.free⟩ hs,by simpa using I.len⟩ ⟨_,hs,.inl rfl⟩
  .exact(hs.2 b (vK (uO (ui e) I.ok.above))).trans (I.base.keep b o e n hb hx)
  .obtain⟨sl,e1⟩:=I.base.slot b o e n hb hx
   exact⟨sl,(hs.2 b (vK (uO (ui e) I.ok.above))).trans e1⟩
  .obtain⟨o',e1⟩:=I.base.there b o e hx
   exact⟨o',(hs.2 b (vK (uO (ui e) I.ok.above))).trans e1⟩
  .by_cases hj:j=i
   .subst hj
    rw[hi]at e1;cases e1
    rw[ua hiσ]at e2
    cases e2
    exact⟨u,r,.inl ⟨hk,by simp⟩⟩
   .rw[uS (wR hj)]at e2
    obtain⟨u',r',q⟩:=hl j y v' e1 e2 e3
    refine⟨u',r',?_⟩
    rcases q with⟨k,e⟩|⟨k,c,e,z⟩
    .refine .inl ⟨k,?_⟩
     have:y≠x:=λe=>hj (UU hN e1 (e▸hi))
     simp[this,e]
    .exact .inr ⟨k,c,e,z.sameBut hs (cne y c e)⟩
  .obtain⟨w',z⟩:=I.cell y c e
   exact⟨w',z.sameBut hs (cne y c e)⟩
  .obtain⟨e,n,ne,nf,d⟩:=I.pin p hp
   exact⟨(hs.2 p.1 ne).trans e,n,ne,nf,d⟩
 .have hfn:X.fn x=true:=by
   rcases hf with z|z
   .exact z
   .rw[z]at hk;cases hk
  obtain⟨c,hc⟩:=I.ok.has x (.inl hk)
  obtain⟨w',z⟩:=I.cell x c hc
  refine wpAny_storeName_cell I.ok.kind hk hc z (λh' hc' hs=>?_)
  obtain⟨oc,hoc,hocd⟩:=id z
  refine h {s with heap:=h'} ⟨I.ok,I.os,I.bare,⟨λb o e n hb hx=>?_,λb o e n hb hx=>?_,I.base.free,λb o e hx=>?_,I.base.aL,I.base.W0,I.base.Yz⟩,⟨m,hn.sameBut hs (wR (cne x c hc)),λj y v' e1 e2 e3=>?_⟩,λy c' e=>?_,I.free,I.MN,λp hp=>?_,tracked ⟨oc,hoc,I.MN x c hc⟩ hs,by simpa using I.len⟩ ⟨c,hs,.inr hc⟩
  .exact(hs.2 b (vK (uO (ui e) (I.ok.cab x c hfn hc)))).trans (I.base.keep b o e n hb hx)
  .obtain⟨sl,e1⟩:=I.base.slot b o e n hb hx
   exact⟨sl,(hs.2 b (vK (uO (ui e) (I.ok.cab x c hfn hc)))).trans e1⟩
  .obtain⟨o',e1⟩:=I.base.there b o e hx
   exact⟨o',(hs.2 b (vK (uO (ui e) (I.ok.cab x c hfn hc)))).trans e1⟩
  .by_cases hj:j=i
   .subst hj
    rw[hi]at e1;cases e1
    rw[ua hiσ]at e2
    cases e2
    exact⟨u,r,.inr ⟨.inl hk,c,hc,hc'⟩⟩
   .rw[uS (wR hj)]at e2
    obtain⟨u',r',q⟩:=hl j y v' e1 e2 e3
    refine⟨u',r',?_⟩
    rcases q with q|⟨k,c',e,z'⟩
    .exact .inl q
    .refine .inr ⟨k,c',e,z'.sameBut hs ?_⟩
     rintro rfl
     exact hj (UU hN e1 (I.ok.inj _ _ _ e hc▸hi))
  .by_cases hcc:c'=c
   .subst hcc;exact⟨_,hc'⟩
   .obtain⟨w2,z2⟩:=I.cell y c' e
    exact⟨w2,z2.sameBut hs hcc⟩
  .obtain⟨e,n,ne,nf,d⟩:=I.pin p hp
   refine⟨(hs.2 p.1 ?_).trans e,n,ne,nf,d⟩
   intro q
   rw[q,hoc]at e
   have q':oc=p.2:=vg e
   exact d w' (by rw[<-q'];exact hocd)
theorem Nt{M:Model}{A:vN}{E:W1->uM->Prop}{i:Nat}{x:Str}{v:V}{u:W1}{Q:Unit->uM->Prop}(I:Inv X pins σ H s)(hN:X.N.Nodup)(hi:X.N[i]?=Fk x)(hx:Loc X.env.scope x)(r:RelV v u)(h:∀s',Inv X pins (σ.set i (Fk v)) H s'->Q () s')(hf:X.fn x=true\/X.env.scope.names.lookup x=Fk .local:=by first|exact .inl rfl|exact .inr rfl|assumption):wpAny M A (storeName X.env x u) Q E s:=
 Sv I hN hi hx r (λs' I' _=>h s' I') hf
theorem Inv.fE{s':uM}{ch:Gc uN}(I:Inv X pins σ H s)(ho:s'.os=s.os)(u:Un (frs X.stack) ch H H' s.heap s'.heap)(hok:HOk X.prog X.w H' s'.heap)(hg:yZ s'.gens)(hch:∀b∈ch,(b∈X.ex\/X.s₀.heap.objs.size<=b)/\b≠X.env.locals/\(∀x c,X.env.cells.lookup x=Fk c->c≠b)/\∀p∈X.pn++pins,p.1≠b):Inv X pins σ H' s':=by
 obtain⟨h',g',d',t',o'⟩:=s'
 have e:o'=s.os:=ho
 subst e
 exact I.call (g':=g') (t':=t') (d':=d') u hok hg hch
end
abbrev XK:=W1->uL uN->Hp->Prop
abbrev St:=Gc (uL V)
abbrev VK:=V->Hp->Prop
abbrev TE:=St->Hp->VK->Prop
abbrev TT:=St->Hp->(vL->Hp->Prop)->Prop
abbrev TA:=St->Hp->(Gc V->Hp->Prop)->Prop
structure Ends where
 nx:St->Hp->Prop
 rt:VK
 bk:St->Hp->Prop:=λ_ _=>xB
 ct:St->Hp->Prop:=λ_ _=>xB
abbrev TS:=Ends->St->Hp->Prop
def EP(X:Cx)(pins:Gc (uN×Obj))(σ:St)(Q:VK)(u:W1)(s':uM):Prop:=∃v H',Inv X pins σ H' s'/\RelV v u/\Q v H'
def TP(X:Cx)(pins:Gc (uN×Obj))(σ:St)(Q:vL->Hp->Prop)(b:vL)(s':uM):Prop:=∃H',Inv X pins σ H' s'/\Q b H'
def AP(X:Cx)(pins:Gc (uN×Obj))(σ:St)(Q:Gc V->Hp->Prop)(us:Gc W1)(s':uM):Prop:=∃vs H',Inv X pins σ H' s'/\Vals vs us/\Q vs H'
def SP(X:Cx)(pins:Gc (uN×Obj))(D:Ends)(f:Flow)(s':uM):Prop:=
 match f with
 | .next=>∃σ' H',Inv X pins σ' H' s'/\D.nx σ' H'
 | .brk=>∃σ' H',Inv X pins σ' H' s'/\D.bk σ' H'
 | .cont=>∃σ' H',Inv X pins σ' H' s'/\D.ct σ' H'
 | .ret u=>∃v σ' H',Inv X pins σ' H' s'/\RelV v u/\D.rt v H'
def PE(X:Cx)(e:uu)(t:TE):Prop:=
 ∀(pins:Gc (uN×Obj)) (s:uM) (σ:St) (H:Hp) (Q:VK),Inv X pins σ H s->t σ H Q->wpAny (model X.prog X.w) X.A (eval e X.env) (EP X pins σ Q) X.xe s
def PT(X:Cx)(e:uu)(t:TT):Prop:=
 ∀(pins:Gc (uN×Obj)) (s:uM) (σ:St) (H:Hp) (Q:vL->Hp->Prop),Inv X pins σ H s->t σ H Q->wpAny (model X.prog X.w) X.A (isTrue e X.env (eval e X.env)) (TP X pins σ Q) X.xe s
def PW(X:Cx)(e:uu)(t:TT):Prop:=
 ∀(whole:Sem W1) (pins:Gc (uN×Obj)) (s:uM) (σ:St) (H:Hp) (Q:vL->Hp->Prop),Inv X pins σ H s->t σ H Q->wpAny (model X.prog X.w) X.A (isTrue e X.env whole) (TP X pins σ Q) X.xe s
theorem PW.pt{X:Cx}{e:uu}{t:TT}(h:PW X e t):PT X e t:=h _
def PA(X:Cx)(es:Gc uu)(t:TA):Prop:=
 ∀(pos:Pos) (pins:Gc (uN×Obj)) (s:uM) (σ:St) (H:Hp) (Q:Gc V->Hp->Prop),Inv X pins σ H s->t σ H Q->wpAny (model X.prog X.w) X.A (spliced (backTo pos (uo es X.env))) (AP X pins σ Q) X.xe s
def PS(X:Cx)(st:vJ)(t:TS):Prop:=
 ∀(pins:Gc (uN×Obj)) (s:uM) (σ:St) (H:Hp) (D:Ends),Inv X pins σ H s->t D σ H->wpAny (model X.prog X.w) X.A (exec st X.env) (SP X pins D) X.xe s
def PSs(X:Cx)(st:Gc vJ)(t:TS):Prop:=
 ∀(pins:Gc (uN×Obj)) (s:uM) (σ:St) (H:Hp) (D:Ends),Inv X pins σ H s->t D σ H->wpAny (model X.prog X.w) X.A (execs st X.env) (SP X pins D) X.xe s
theorem thn{α:Type}{t:Sem α}{Q Q':α->uM->Prop}{M:Model}{A:vN}{E:W1->uM->Prop}{s:uM}(h:wpAny M A t Q E s)(hQ:∀a s,Q a s->Q' a s):wpAny M A t Q' E s:=wK h hQ λ_ _ x=>x
end L2
namespace L2
open PySem PySem.Spec PyProof.Rows
section
variable{X:Cx}
noncomputable def sf(i:Nat):TE:=λσ H Q=>∃v,σ[i]?=Fk (Fk v)/\Q v H
noncomputable def tC(v:V):TE:=λ_ H Q=>Q v H
theorem Xm{i:Nat}{x:Str}{pos:Pos}(hN:X.N[i]?=Fk x)(hv:Vis X.env.scope x)(hd:(x==("__debug__":Str))=false:=by decide)(hcd:(x==("__classdict__":Str))=false:=by decide):PE X (.Name x pos) (sf i):=by
 intro pins s σ H Q I h
 obtain⟨v,e,h⟩:=h
 obtain⟨m,hn,hl⟩:=I.loc
 obtain⟨u,r,l⟩:=hl i x v hN e hv
 have fin:EP X pins σ Q u s:=⟨v,H,I,r,h⟩
 rcases l with⟨hk,hm⟩|⟨hk,c,hc,hcell⟩
 .exact wpAny_Name (wpAny_loadName_local I.ok.kind hk hn hm fin) hd
 .rcases hk with hk|hk
  .exact wpAny_Name (wpAny_loadName_cell I.ok.kind hk hc hcell fin) hd
  .exact wpAny_Name (wpAny_loadName_free I.ok.kind hk hc hcell fin hcd) hd
theorem dC{i j pos}:PE X (.Constant (.int i) j pos) (tC (.int i)):=λ_ _ _ H _ I h=>wpAny_Constant_int ⟨.int i,H,I.tok _,⟨_,rfl⟩,h⟩
theorem pW{b j pos}:PE X (.Constant (.bool b) j pos) (tC (.bl b)):=λ_ _ _ H _ I h=>Constant_bool ⟨.bl b,H,I,rfl,h⟩
theorem iy{j pos}:PE X (.Constant .none j pos) (tC .non):=λ_ _ _ H _ I h=>Constant_none ⟨.non,H,I,rfl,h⟩
theorem ji{x j pos}:PE X (.Constant (.str x) j pos) (tC (.str x)):=λ_ _ _ H _ I h=>Calls.Constant_str ⟨.str x,H,I.tok _,⟨_,rfl⟩,h⟩
def Gl(X:Cx)(x:Str):Prop:=X.env.kindOf x=Fk .globalImplicit
theorem Oa{E:W1->uM->Prop}{pins:Gc (uN×Obj)}{s:uM}{σ:St}{H:Hp}{x:Str}{u:W1}{pos:Pos}{Q:W1->uM->Prop}(I:Inv X pins σ H s)(hg:Gl X x)(hm:X.mg x=Fk u)(h:Q u s)(hd:(x==("__debug__":Str))=false:=by decide):wpAny (model X.prog X.w) X.A (eval (.Name x pos) X.env) Q E s:=
 yB I.ok.kind hg (AAB (by rw[I.ok.glob];exact I.mod.glob.keeps I.bk) hm h) hd
theorem Mn{E:W1->uM->Prop}{pins:Gc (uN×Obj)}{s:uM}{σ:St}{H:Hp}{x:Str}{u:W1}{pos:Pos}{Q:W1->uM->Prop}(I:Inv X pins σ H s)(hg:Gl X x)(hm:X.mg x=uK)(hv:bootBuiltins x=Fk u)(h:Q u s)(hn:x≠ "__name__":=by decide)(hd:(x==("__debug__":Str))=false:=by decide):wpAny (model X.prog X.w) X.A (eval (.Name x pos) X.env) Q E s:=by
 obtain⟨mb,h1,h2⟩:=I.mod.blt
 exact yB I.ok.kind hg (Calls.loadGlobal_builtin (by rw[I.ok.glob];exact I.mod.glob.keeps I.bk) hm (by rw[I.ok.blt];exact h1.keeps I.bk) ((h2 x hn).trans hv) h) hd
theorem d8{x:Str}{v:V}{u:W1}{pos:Pos}(hg:Gl X x)(hm:X.mg x=Fk u)(r:RelV v u)(hd:(x==("__debug__":Str))=false:=by decide):PE X (.Name x pos) (tC v):=
 λ_ _ _ H _ I h=>Oa I hg hm ⟨v,H,I,r,h⟩ hd
theorem gy{x:Str}{v:V}{u:W1}{pos:Pos}(hg:Gl X x)(hm:X.mg x=uK)(hv:bootBuiltins x=Fk u)(r:RelV v u)(hn:x≠ "__name__":=by decide)(hd:(x==("__debug__":Str))=false:=by decide):PE X (.Name x pos) (tC v):=
 λ_ _ _ H _ I h=>Mn I hg hm hv ⟨v,H,I,r,h⟩ hn hd
variable{a b:uu}{ta tb:TE}{pos:Pos}
noncomputable def tB(t:TE):TT:=λσ H Q=>t σ H λx H1=>∃c,x=.bl c/\Q c H1
theorem kA{e:uu}{t:TE}(h:PE X e t)(he:∀whole,isTrue e X.env whole=(do let v<-whole;standAt e.pos;holding [v] (truthy v)):=by intro _;rfl):PT X e (tB t):=by
 intro pins s σ H Q I hw
 refine isTrue_plain (thn (h pins s σ H _ I hw) λv s1 ⟨x,H1,I1,r1,q1⟩=>?_) (he _)
 obtain⟨d,rfl,q⟩:=q1
 cases r1
 exact x5 ⟨H1,I1,q⟩
variable{tA tB':TT}{rest:Gc uu}
noncomputable def tF(t u:TT):TT:=λσ H Q=>t σ H λc H1=>if c=true then u σ H1 Q else Q false H1
noncomputable def tOr(t u:TT):TT:=λσ H Q=>t σ H λc H1=>if c=true then Q true H1 else u σ H1 Q
noncomputable def sH(t:TT):TT:=λσ H Q=>t σ H λc H1=>Q (!c) H1
theorem gX(ha:PT X a tA):PW X (.BoolOp .And [a] pos) tA:=by
 intro wh pins s σ H Q I h
 refine isTrue_and (thn (ha pins s σ H Q I h) λc s1 e=>?_)
 cases c with
 |true=>exact isTrue_and_nil e
 |false=>exact e
theorem jr(ha:PT X a tA):PW X (.BoolOp .Or [a] pos) tA:=by
 intro wh pins s σ H Q I h
 refine isTrue_or (thn (ha pins s σ H Q I h) λc s1 e=>?_)
 cases c with
 |false=>exact isTrue_or_nil e
 |true=>exact e
theorem iO(ha:PT X a tA)(hb:PW X (.BoolOp .And (b::rest) pos) tB'):PW X (.BoolOp .And (a::b::rest) pos) (tF tA tB'):=by
 intro wh pins s σ H Q I h
 refine isTrue_and (thn (ha pins s σ H _ I h) λc s1 ⟨H1,I1,q1⟩=>?_)
 cases c with
 |true=>exact hb wh pins s1 σ H1 Q I1 q1
 |false=>exact⟨H1,I1,q1⟩
theorem pN(ha:PT X a tA)(hb:PW X (.BoolOp .Or (b::rest) pos) tB'):PW X (.BoolOp .Or (a::b::rest) pos) (tOr tA tB'):=by
 intro wh pins s σ H Q I h
 refine isTrue_or (thn (ha pins s σ H _ I h) λc s1 ⟨H1,I1,q1⟩=>?_)
 cases c with
 |true=>exact⟨H1,I1,q1⟩
 |false=>exact hb wh pins s1 σ H1 Q I1 q1
theorem jJ(ha:PT X a tA):PT X (.UnaryOp .Not a pos) (sH tA):=by
 intro pins s σ H Q I h
 exact isTrue_not (ha pins s σ H (λc H1=>Q (!c) H1) I h)
noncomputable def pZ(ta tb:TE):TE:=λσ H Q=>ta σ H λx H1=>∃c,x=.bl c/\if c=true then tb σ H1 Q else Q (.bl false) H1
noncomputable def oj(ta:TE):TE:=λσ H Q=>ta σ H λx H1=>∃c,x=.bl c/\Q (.bl (!c)) H1
theorem km{op}{t:TE}(h:PE X a t):PE X (.BoolOp op [a] pos) t:=λpins s σ H Q I hw=>BoolOp_one (h pins s σ H Q I hw)
theorem kX(ha:PE X a ta)(hb:PE X (.BoolOp .And (b::rest) pos) tb):PE X (.BoolOp .And (a::b::rest) pos) (pZ ta tb):=by
 intro pins s σ H Q I h
 refine BoolOp_and (thn (ha pins s σ H _ I h) λv s1 ⟨x,H1,I1,r1,q1⟩=>?_)
 obtain⟨c,rfl,q1⟩:=q1
 cases r1
 refine x5 ?_
 cases c with
 |true=>exact hb pins s1 σ H1 Q I1 q1
 |false=>exact⟨.bl false,H1,I1,rfl,q1⟩
theorem ij(ha:PE X a ta):PE X (.UnaryOp .Not a pos) (oj ta):=by
 intro pins s σ H Q I h
 refine UnaryOp_ (thn (ha pins s σ H _ I h) λv s1 ⟨x,H1,I1,r1,q1⟩=>?_)
 obtain⟨c,rfl,q1⟩:=q1
 cases r1
 exact not_of (x5 ⟨.bl (!c),H1,I1,rfl,q1⟩)
noncomputable def tIf(t:TT)(ta tb:TE):TE:=λσ H Q=>t σ H λc H1=>if c=true then ta σ H1 Q else tb σ H1 Q
theorem Z6{c:uu}(hc:PT X c tA)(ha:PE X a ta)(hb:PE X b tb):PE X (.IfExp c a b pos) (tIf tA ta tb):=by
 intro pins s σ H Q I h
 refine wpAny_IfExp (thn (hc pins s σ H _ I h) λd s1 ⟨H1,I1,q1⟩=>?_)
 cases d with
 |true=>exact ha pins s1 σ H1 Q I1 q1
 |false=>exact hb pins s1 σ H1 Q I1 q1
end
end L2
namespace L2
open PySem PySem.Spec PyProof.Rows
def SqL(K:Wp)(H:Hp)(a:uN)(xs:Gc V):Prop:=
 Rd H a (.lst xs)∨
  ∃(o:Obj) (its:vY W1) (n:Nat),K.lookup a=Fk o/\o.cls=.type "list" /\o.dict=uK/\o.data=.seq its n/\its.size<=sizeLine/\Vals xs its.toList
def SqT(K:Wp)(H:Hp)(a:uN)(xs:Gc V):Prop:=
 Rd H a (.tup xs)∨
  ∃(o:Obj) (its:vY W1) (n:Nat),K.lookup a=Fk o/\o.cls=.type "tuple" /\o.data=.seq its n/\its.size<=sizeLine/\Vals xs its.toList
noncomputable def rT:W1->uL V
 | .none=>Fk .non
 | .bool b=>Fk (.bl b)
 | .int i _=>Fk (.int i)
 | .str x _=>Fk (.str x)
 | .bytes b _=>Fk (.byt b)
 | .float b _=>Fk (.flt b)
 | .ref a=>Fk (.ref a)
 | .type n=>Fk (.ty n)
 |_=>uK
theorem RelV.abs{x:V}{u:W1}(r:RelV x u):rT u=Fk x:=by
 cases x with
 |non=>cases r;rfl
 |bl _=>cases r;rfl
 |int _=>obtain⟨t,rfl⟩:=r;rfl
 |str _=>obtain⟨t,rfl⟩:=r;rfl
 |byt _=>obtain⟨t,rfl⟩:=r;rfl
 |flt _=>obtain⟨t,rfl⟩:=r;rfl
 |ref _=>cases r;rfl
 |ty _=>cases r;rfl
theorem RelV.inj{x y:V}{u:W1}(r:RelV x u)(q:RelV y u):x=y:=vg (r.abs.symm.trans q.abs)
theorem Vals.inj:∀{xs ys:Gc V} {us:Gc W1},Vals xs us->Vals ys us->xs=ys
 |_,_,_,.nil,.nil=>rfl
 |_,_,_,.cons r t,.cons r' t'=>by rw[r.inj r',Vals.inj t t']
section
variable{X:Cx}{pins:Gc (uN×Obj)}{σ:St}{H:Hp}{s:uM}{a:uN}{xs ys:Gc V}
theorem SqL.of{K:Wp}(h:H a=Fk (.lst xs)):SqL K H a xs:=.inl (.inl h)
theorem SqT.of{K:Wp}(h:H a=Fk (.tup xs)):SqT K H a xs:=.inl (.inl h)
theorem Inv.list(I:Inv X pins σ H s)(h:SqL X.K H a xs):∃its:Gc W1,Vals xs its/\PlainL s.heap a its.toArray/\xs.length<=sizeLine:=by
 rcases h with h|⟨o,its,n,hk,hc,hd,hs,hz,r⟩
 .obtain⟨z,its,n,r,e⟩:=h.ok I.hok
  exact⟨its,r,⟨_,n,e,rfl,rfl,rfl⟩,z⟩
 .refine⟨its.toList,r,⟨o,n,I.kIn a o hk,hc,hd,by simpa using hs⟩,?_⟩
  have e:=r.length
  simp only[zG]at e
  lia
theorem Inv.tuple(I:Inv X pins σ H s)(h:SqT X.K H a xs):∃its:Gc W1,Vals xs its/\IsTup s.heap a its.toArray/\xs.length<=sizeLine:=by
 rcases h with h|⟨o,its,n,hk,hc,hs,hz,r⟩
 .obtain⟨z,its,r,p⟩:=h.ok I.hok
  exact⟨its,r,p,z⟩
 .refine⟨its.toList,r,⟨o,I.kIn a o hk,hc,n,by simpa using hs⟩,?_⟩
  have e:=r.length
  simp only[zG]at e
  lia
theorem Inv.U7(I:Inv X pins σ H s)(h:SqL X.K H a xs)(h':SqL X.K H a ys):xs=ys:=by
 obtain⟨its,r,⟨o,n,e,_,_,d⟩,_⟩:=I.list h
 obtain⟨its',r',⟨o',n',e',_,_,d'⟩,_⟩:=I.list h'
 rw[e]at e';cases e'
 rw[d]at d'
 injection d' with d1 _
 have:its=its':=by simpa using congrArg Array.toList d1
 subst this
 exact r.inj r'
theorem Inv.SQ(I:Inv X pins σ H s)(h:SqT X.K H a xs)(h':SqT X.K H a ys):xs=ys:=by
 obtain⟨its,r,⟨o,e,_,n,d⟩,_⟩:=I.tuple h
 obtain⟨its',r',⟨o',e',_,n',d'⟩,_⟩:=I.tuple h'
 rw[e]at e';cases e'
 rw[d]at d'
 injection d' with d1 _
 have:its=its':=by simpa using congrArg Array.toList d1
 subst this
 exact r.inj r'
end
abbrev Cx.WG(X:Cx)(E:W1->uM->Prop):Cx:={X with xe:=E}
abbrev Cx.nox(X:Cx):Cx:=X.WG λ_ _=>xB
theorem Cx.Ok.WG{X:Cx}(ok:X.Ok)(E:W1->uM->Prop):(X.WG E).Ok:=
 ⟨ok.mod,ok.kind,ok.glob,ok.blt,ok.above,ok.inj,ok.has,ok.cab,ok.hd,ok.frames,ok.stk,ok.exf,ok.bs,ok.bsz,ok.cQ,ok.eD,ok.VP,ok.frf⟩
theorem Cx.Ok.NA{X:Cx}{E:W1->uM->Prop}(ok:(X.WG E).Ok):X.Ok:=
 ⟨ok.mod,ok.kind,ok.glob,ok.blt,ok.above,ok.inj,ok.has,ok.cab,ok.hd,ok.frames,ok.stk,ok.exf,ok.bs,ok.bsz,ok.cQ,ok.eD,ok.VP,ok.frf⟩
section
variable{X:Cx}{pins:Gc (uN×Obj)}{σ:St}{H:Hp}{s:uM}{E:W1->uM->Prop}
theorem Inv.WG(I:Inv X pins σ H s)(E:W1->uM->Prop):Inv (X.WG E) pins σ H s:=⟨I.ok.WG E,I.os,I.bare,I.base,I.loc,I.cell,I.free,I.MN,I.pin,I.hok,I.len⟩
theorem Inv.NA(I:Inv (X.WG E) pins σ H s):Inv X pins σ H s:=⟨I.ok.NA,I.os,I.bare,I.base,I.loc,I.cell,I.free,I.MN,I.pin,I.hok,I.len⟩
theorem SP.NA{D:Ends}{f:Flow}{s':uM}(h:SP (X.WG E) pins D f s'):SP X pins D f s':=by
 cases f with
 |next=>obtain⟨σ',H',I,q⟩:=h;exact⟨σ',H',I.NA,q⟩
 |brk=>obtain⟨σ',H',I,q⟩:=h;exact⟨σ',H',I.NA,q⟩
 |cont=>obtain⟨σ',H',I,q⟩:=h;exact⟨σ',H',I.NA,q⟩
 |ret u=>obtain⟨v,σ',H',I,r,q⟩:=h;exact⟨v,σ',H',I.NA,r,q⟩
theorem PSs.nox{st:Gc vJ}{t:TS}(h:PSs X.nox st t):PSs X st t:=λpins s σ H D I hw=>
 wK (h pins s σ H D (I.WG _) hw) (λ_ _ q=>q.NA) λ_ _ z=>wL z
end
section
variable{X:Cx}{st:vJ}{rest:Gc vJ}{t u:TS}{e:uu}{te:TE}{pos:Pos}
noncomputable def nR:TS:=λD σ H=>D.nx σ H
noncomputable def rY(t u:TS):TS:=λD σ H=>t {D with nx:=u D} σ H
theorem fV:PSs X [] nR:=λ_ _ σ H _ I h=>yU ⟨σ,H,I,h⟩
theorem VU(h1:PS X st t)(h2:PSs X rest u):PSs X (st::rest) (rY t u):=by
 intro pins s σ H D I h
 refine xi (thn (h1 pins s σ H {D with nx:=u D} I h) λf s1 q=>?_)
 cases f with
 |next=>
  obtain⟨σ',H',I',q⟩:=q
  exact h2 pins s1 σ' H' D I' q
 |ret v=>exact q
 |brk=>exact q
 |cont=>exact q
theorem T4(h1:PS X st t):PSs X [st] t:=by
 intro pins s σ H D I h
 refine xi (thn (h1 pins s σ H D I h) λf s1 q=>?_)
 cases f with
 |next=>exact yU q
 |ret v=>exact q
 |brk=>exact q
 |cont=>exact q
theorem Inv.quiet{pins:Gc (uN×Obj)}{σ:St}{H:Hp}{s:uM}(I:Inv X pins σ H s):interactive X.env=false:=by simp[interactive,I.ok.kind]
noncomputable def oG(te:TE):TS:=λD σ H=>te σ H λ_ H1=>D.nx σ H1
theorem Xr(he:PE X e te)(hs:swapsWith e uK pos.line X.env=pure false:=by rfl):PS X (.Expr e pos) (oG te):=by
 intro pins s σ H D I h
 exact AAu (thn (he pins s σ H _ I h) λv s1 ⟨x,H1,I1,r1,q1⟩=>⟨σ,H1,I1,q1⟩) I.quiet hs
noncomputable def so(te:TE):TS:=λD σ H=>te σ H D.rt
theorem iY(he:PE X e te):PS X (.Return (Fk e) pos) (so te):=by
 intro pins s σ H D I h
 exact wpAny_Return_some (thn (he pins s σ H _ I h) λv s1 ⟨x,H1,I1,r1,q1⟩=>⟨x,σ,H1,I1,r1,q1⟩)
noncomputable def sj(c:TT)(t u:TS):TS:=λD σ H=>c σ H λb H1=>if b=true then t D σ H1 else u D σ H1
theorem p9{c:uu}{a b:Gc vJ}{tc:TT}(hc:PT X c tc)(ha:PSs X a t)(hb:PSs X b u):PS X (.If c a b pos) (sj tc t u):=by
 intro pins s σ H D I h
 refine wpAny_If (thn (hc pins s σ H _ I h) λd s1 ⟨H1,I1,q1⟩=>?_)
 cases d with
 |true=>exact ha pins s1 σ H1 D I1 q1
 |false=>exact hb pins s1 σ H1 D I1 q1
end
abbrev TG:=V->St->Hp->(St->Hp->Prop)->Prop
abbrev TGs:=Gc V->St->Hp->(St->Hp->Prop)->Prop
def PG(X:Cx)(target:uu)(t:TG):Prop:=
 ∀(pins:Gc (uN×Obj)) (s:uM) (σ:St) (H:Hp) (v:V) (u:W1) (Q:St->Hp->Prop),Inv X pins σ H s->RelV v u->t v σ H Q->
  wpAny (model X.prog X.w) X.A (assign target X.env u) (λ_ s'=>∃σ' H',Inv X pins σ' H' s'/\Q σ' H') X.xe s
def PGs(X:Cx)(ts:Gc uu)(t:TGs):Prop:=
 ∀(pins:Gc (uN×Obj)) (s:uM) (σ:St) (H:Hp) (vs:Gc V) (us:Gc W1) (Q:St->Hp->Prop),Inv X pins σ H s->Vals vs us->t vs σ H Q->
  wpAny (model X.prog X.w) X.A (assignInOrder ((assignEach ts X.env).map (·.2)) us) (λ_ s'=>∃σ' H',Inv X pins σ' H' s'/\Q σ' H') X.xe s
abbrev nV:=V->V->V->Hp->(Hp->Prop)->Prop
def qd(X:Cx)(t:nV):Prop:=
 ∀(pins:Gc (uN×Obj)) (s:uM) (σ:St) (H:Hp) (o i v:V) (ov iv u:W1) (Q:Hp->Prop),Inv X pins σ H s->RelV o ov->RelV i iv->RelV v u->t o i v H Q->
  wpAny (model X.prog X.w) X.A (setItem ov iv u) (λ_ s'=>∃H',Inv X pins σ H' s'/\Q H') X.xe s
section
variable{X:Cx}{pos:Pos}
noncomputable def gB(i:Nat):TG:=λv σ H Q=>Q (σ.set i (Fk v)) H
theorem fC{i:Nat}{x:Str}(hN:X.N.Nodup)(hi:X.N[i]?=Fk x)(hx:Loc X.env.scope x)(hf:X.fn x=true\/X.env.scope.names.lookup x=Fk .local:=by first|exact .inl rfl|exact .inr rfl|assumption):PG X (.Name x pos) (gB i):=by
 intro pins s σ H v u Q I r h
 exact wpAny_assign_Name (Nt I hN hi hx r (λs' I'=>⟨_,H,I',h⟩) hf)
noncomputable def qt:TGs:=λvs σ H Q=>vs=[]/\Q σ H
noncomputable def jx(t:TG)(u:TGs):TGs:=λvs σ H Q=>∃v r,vs=v::r/\t v σ H λσ' H'=>u r σ' H' Q
theorem fX:PGs X [] qt:=by
 intro pins s σ H vs us Q I r h
 obtain⟨e,h⟩:=h
 subst e
 cases r
 exact assignInOrder_nil ⟨σ,H,I,h⟩
theorem Zq{e:uu}{es:Gc uu}{t:TG}{u:TGs}(h1:PG X e t)(h2:PGs X es u)(hs:(assignEach (e::es) X.env).map (·.2)=assign e X.env::(assignEach es X.env).map (·.2):=by rfl):PGs X (e::es) (jx t u):=by
 intro pins s σ H vs us Q I r h
 obtain⟨v,vr,e1,h⟩:=h
 subst e1
 cases r with
 |cons r rr=>
  rw[hs]
  refine zS (thn (h1 pins s σ H _ _ _ I r h) λ_ s1 ⟨σ1,H1,I1,q1⟩=>?_)
  exact h2 pins s1 σ1 H1 _ _ Q I1 rr q1
noncomputable def sR(K:Wp)(n:Nat)(t:TGs):TG:=λv σ H Q=>∃a xs,v=.ref a/\SqT K H a xs/\xs.length=n/\t xs σ H Q
theorem kz{es:Gc uu}{k:Nat}{t:TGs}{n:Nat}(hc:X.calm=true)(h:PGs X es t)(hn:(assignEach es X.env).length=n:=by rfl)(hst:(assignEach es X.env).findIdx? (·.1)=none:=by rfl):PG X (.Tuple es k pos) (sR X.K n t):=by
 intro pins s σ H v u Q I r hw
 obtain⟨a,xs,e1,hq,hl,hw⟩:=hw
 subst e1
 cases r
 obtain⟨its,rv,ht,hz⟩:=I.tuple hq
 refine assign_Tuple_tuple (I.ok.hd hc) ht (by simp[hn,<-hl,rv.length]) hst λh' hx=>?_
 have I1:Inv X pins σ H {s with heap:=h'}:=I.kept (t':=s.toks) λb o e=>hx b o (vK (ui e)) e
 exact h pins _ σ H xs _ Q I1 (by simpa using rv) hw
noncomputable def sv(to ti:TE)(t:nV):TG:=λv σ H Q=>to σ H λo H1=>ti σ H1 λi H2=>t o i v H2 λH3=>Q σ H3
theorem jg {o i : uu} {to ti : TE} {t : nV} (ho : PE X o to) (hi : PE X i ti) (hs : qd X t) (ha : ∀ v, assign (.Subscript o i pos) X.env v = (do
      let ov ← holding [v] (eval o X.env)
      let iv ← holding [v, ov] (eval i X.env)
      standAt pos
      holding [v, ov, iv] (setItem ov iv v)
      release [v, ov, iv] []) := by intro _; rfl) : PG X (.Subscript o i pos) (sv to ti t) := by
  intro pins s σ H v u Q I r h
  rw [ha]
  refine uI (wX (thn (ho pins s σ H _ I h) fun ov s1 ⟨x, H1, I1, r1, q1⟩ => ?_))
  refine uI (wX (thn (hi pins s1 σ H1 _ I1 q1) fun iv s2 ⟨y, H2, I2, r2, q2⟩ => ?_))
  refine uI (yP (uI (wX (thn (hs pins s2 σ H2 x y v ov iv u _ I2 r1 r2 r q2) fun _ s3 ⟨H3, I3, q3⟩ => ?_))))
  exact wpAny_release ⟨σ, H3, I3, q3⟩
noncomputable def oE(te:TE)(g:TG):TS:=λD σ H=>te σ H λx H1=>g x σ H1 D.nx
theorem cj{tg e:uu}{te:TE}{g:TG}(he:PE X e te)(hg:PG X tg g)(hs:swapsWithSole [tg] e pos.line X.env=pure false:=by rfl)(hw:swappedStores [tg] e X.env=pure none:=by rfl)(h1:(assignEach [tg] X.env).map (·.2)=[assign tg X.env]:=by rfl):PS X (.Assign [tg] e pos) (oE te g):=by
 intro pins s σ H D I h
 refine wpAny_Assign_stores (thn (he pins s σ H _ I h) λv s1 ⟨x,H1,I1,r1,q1⟩=>?_) hs hw
 rw[h1]
 exact thn (hg pins s1 σ H1 x v _ I1 r1 q1) λ_ s2 q=>q
theorem lA{i:Nat}{x:Str}{e:uu}{te:TE}{pos':Pos}(hN:X.N.Nodup)(hi:X.N[i]?=Fk x)(hx:Loc X.env.scope x)(he:PE X e te)(hs:swapsWith e (Fk (.Name x pos')) pos.line X.env=pure false:=by rfl)(hf:X.fn x=true\/X.env.scope.names.lookup x=Fk .local:=by first|exact .inl rfl|exact .inr rfl|assumption):PS X (.Assign [.Name x pos'] e pos) (oE te (gB i)):=by
 intro pins s σ H D I h
 refine wpAny_Assign_Name (thn (he pins s σ H _ I h) λv s1 ⟨y,H1,I1,r1,q1⟩=>?_) hs
 exact Nt I1 hN hi hx r1 (λs2 I2=>⟨_,H1,I2,q1⟩) hf
noncomputable def r9(i j:Nat)(ta:TA):TS:=λD σ H=>ta σ H λvs H1=>∃v w,vs=[v,w]/\D.nx ((σ.set i (Fk v)).set j (Fk w)) H1
theorem iM{i j:Nat}{x y:Str}{a b:uu}{ta:TA}{px py pt:Pos}{kt k2 pt2}(hc:X.calm=true)(hN:X.N.Nodup)(hi:X.N[i]?=Fk x)(hj:X.N[j]?=Fk y)(hij:i≠j)(hx:X.env.scope.names.lookup x=Fk .local)(hy:X.env.scope.names.lookup y=Fk .local)(ha:PA X [a,b] ta)(hw:swappedStores [.Tuple [.Name x px,.Name y py] kt pt] (.Tuple [a,b] k2 pt2) X.env=pure (Fk [x,y]))(hs:swapsWithSole [.Tuple [.Name x px,.Name y py] kt pt] (.Tuple [a,b] k2 pt2) pos.line X.env=pure false:=by rfl):PS X (.Assign [.Tuple [.Name x px,.Name y py] kt pt] (.Tuple [a,b] k2 pt2) pos) (r9 i j ta):=by
 intro pins s σ H D I h
 rw[exec_Assign_arm]
 refine uI (yP ?_)
 rw[hs]
 refine uI (uZ ?_)
 rw[vP (by decide)]
 refine uI (Tuple_ (thn (ha _ pins s σ H _ I h) λus s1 ⟨vs,H1,I1,r1,q1⟩=>?_))
 obtain⟨v,w,e1,q1⟩:=q1
 subst e1
 obtain⟨u1,u2,rfl,rv,rw'⟩:∃u1 u2,us=[u1,u2]/\RelV v u1/\RelV w u2:=by
  cases r1 with
  |cons p q=>
   cases q with
   |cons p' q'=>
    cases q'
    exact⟨_,_,rfl,p,p'⟩
 refine v3 ?_ (by show 2<=sizeLine;decide)
 have I2:Inv X pins σ H1 {s1 with heap:=s1.heap.push {cls:=.type "tuple",data:=.seq [u1,u2].toArray}}:=I1.kept (t':=s1.toks) λb o e=>uJ _ e
 rw[hw]
 refine uI (uZ ?_)
 show wpAny (model X.prog X.w) X.A (do rule "assign.swapped-stores"; let items<-unpackItems (.ref s1.heap.objs.size) 2 uK;assignInOrder [λv=>bindName X.env y v,λv=>bindName X.env x v] items.reverse;pure Flow.next) _ _ _
 refine uI (AAO (uI (unpackItems_tuple (items:= #[u1,u2]) (I.ok.hd hc) (xf s1.heap _) λh' hx'=>?_)))
 have I3:=I2.kept (h':=h') (t':=s1.toks) λb o e=>hx' b o (vK (ui e)) e
 show wpAny _ _ (assignInOrder [λv=>bindName X.env y v,λv=>bindName X.env x v] [u2,u1] >>= λ_=>pure Flow.next) _ _ _
 refine uI (zS (wpAny_bindName (Nt I3 hN hj (.inl hy) rw' (λs2 I4=>?_) (.inr hy))))
 refine zS (wpAny_bindName (Nt I4 hN hi (.inl hx) rv (λs3 I5=>assignInOrder_nil (uZ ?_)) (.inr hx)))
 rw[List.set_comm _ _ (wR hij)]at I5
 exact⟨_,H1,I5,q1⟩
end
section
variable{X:Cx}{pos:Pos}
noncomputable def js(c:TT)(tb:TS):TS:=λD σ H=>∃W:Nat->St->Hp->Prop,(∃m,W m σ H)/\∀m σ H,W m σ H->
 c σ H λb H1=>if b=true then∃N:St->Hp->Prop,(∀σ' H',N σ' H'->∃m',m'<m/\W m' σ' H')/\tb {D with nx:=N,ct:=N,bk:=D.nx} σ H1 else D.nx σ H1
theorem bJ{c:uu}{body:Gc vJ}{tc:TT}{tb:TS}(hp:PassesOwn (model X.prog X.w) X.A X.env X.xe)(hc:PT X c tc)(hb:PSs X body tb):PS X (.While c body [] pos) (js tc tb):=by
 intro pins s σ H D I h
 obtain⟨W,⟨m0,w0⟩,turn⟩:=h
 refine wpAny_While (codeAny_whileLoop (λn s'=>∃σ' H',Inv X pins σ' H' s'/\W n σ' H') ?_ m0 ⟨σ,H,I,w0⟩)
 rintro n s1 ⟨σ1,H1,I1,w1⟩
 refine xT hp (thn (hc pins s1 σ1 H1 _ I1 (turn n σ1 H1 w1)) λb s2 ⟨H2,I2,q2⟩=>?_)
 cases b with
 |true=>
  obtain⟨N,hN,q2⟩:=q2
  rw[vM rfl]
  refine xT hp (thn (hb pins s2 σ1 H2 _ I2 q2) λf s3 q3=>?_)
  cases f with
  |next=>
   obtain⟨σ3,H3,I3,n3⟩:=q3
   obtain⟨m',hm,w3⟩:=hN σ3 H3 n3
   exact⟨m',hm,σ3,H3,I3,w3⟩
  |cont=>
   obtain⟨σ3,H3,I3,n3⟩:=q3
   obtain⟨m',hm,w3⟩:=hN σ3 H3 n3
   exact⟨m',hm,σ3,H3,I3,w3⟩
  |brk=>exact q3
  |ret v=>exact q3
 |false=>
  rw[vP va]
  exact yU ⟨σ1,H2,I2,q2⟩
end
structure It where
 go:Nat->Hp->Prop
 yld:Nat->Hp->V->Hp->Prop
 stop:Nat->Hp->Prop
def Tj(X:Cx)(pins:Gc (uN×Obj))(H:Hp)(b:uN):Prop:=
 H b=uK/\b≠X.env.locals/\b∉X.fs/\(b∈X.ex\/X.s₀.heap.objs.size<=b)/\(∀x c,X.env.cells.lookup x=Fk c->c≠b)/\∀p∈X.pn++pins,p.1≠b
theorem Inv.fR{X:Cx}{pins:Gc (uN×Obj)}{σ:St}{H H':Hp}{s:uM}{b:uN}(I:Inv X pins σ H s)(hb:s.heap.objs.size<=b)(hn:H' b=uK):Tj X pins H' b:=by
 refine⟨hn,Nat.ne_of_gt (uO I.lt hb),I.tQ hb,.inr (uW I.sz hb),λx c e z=>?_,λp hp z=>?_⟩
 .obtain⟨v,q⟩:=I.cell x c e
  exact absurd (uO q.lt (by rw[z];exact hb)) (wD _)
 .exact absurd (uO (ui (I.pin p hp).1) (by rw[z];exact hb)) (wD _)
structure Turn(P:ur)(w:vO)(K:Wp)(tg:uu)(J:It)(fp:Gc uN)(it:uN)(tn:Nat->vF->Prop):Prop where
 mem:it∈fp
 obj:∀i h,tn i h->∀b∈fp,∃o,h.get? b=Fk o/\∀v,o.data≠.cell v
 keep:∀i h h',tn i h->(∀b∈fp,∀o,h.get? b=Fk o->h'.get? b=Fk o)->tn i h'
 item:∀(X:Cx),X.prog=P->X.w=w->X.K=K->X.calm=true->∀(i:Nat) (pins:Gc (uN×Obj)) (s:uM) (σ:St) (H:Hp) (E:W1->uM->Prop),Inv X pins σ H s->(∀b∈fp,Tj X pins H b)->tn i s.heap->J.go i H->
  wpAny (model P w) X.A (pyNext (.ref it)) (λr s1=>∃u,r=Fk u/\
   wpAny (model P w) X.A (letOwnedTupleGo tg (.ref it) u) (λ_ s2=>∃x H',Inv X pins σ H' s2/\RelV x u/\J.yld i H x H'/\tn (i+1) s2.heap/\∀b∈fp,H' b=uK) E s1) E s
 done:∀(X:Cx),X.prog=P->X.w=w->X.K=K->X.calm=true->∀(i:Nat) (pins:Gc (uN×Obj)) (s:uM) (σ:St) (H:Hp) (E:W1->uM->Prop),Inv X pins σ H s->(∀b∈fp,Tj X pins H b)->tn i s.heap->J.stop i H->
  wpAny (model P w) X.A (pyNext (.ref it)) (λr s1=>r=uK/\Inv X pins σ H s1) E s
 self:∀(A:vN) (i:Nat) (s:uM) (Q:W1->uM->Prop) (E:W1->uM->Prop),tn i s.heap->Q (.ref it) s->wpAny (model P w) A (pyIter (.ref it)) Q E s
abbrev TI:=St->Hp->(It->Hp->Prop)->Prop
def PIE(X:Cx)(pins:Gc (uN×Obj))(σ:St)(tg:uu)(R:It->Hp->Prop)(itv:W1)(s2:uM):Prop:=
 ∃(it:uN) (fp:Gc uN) (tn:Nat->vF->Prop) (J:It) (H':Hp),itv=.ref it/\Inv X pins σ H' s2/\Turn X.prog X.w X.K tg J fp it tn/\tn 0 s2.heap/\(∀b∈fp,Tj X pins H' b)/\R J H'
def PI(X:Cx)(tg iter:uu)(wi:TI):Prop:=
 ∀(pins:Gc (uN×Obj)) (s:uM) (σ:St) (H:Hp) (R:It->Hp->Prop),Inv X pins σ H s->wi σ H R->
  wpAny (model X.prog X.w) X.A (eval iter X.env) (λv s1=>wpAny (model X.prog X.w) X.A (pyIter v) (PIE X pins σ tg R) X.xe s1) X.xe s
theorem gz{M:Model}{A:vN}{E:W1->uM->Prop}{s:uM}{tg:uu}{it:uN}{u:W1}{o:Obj}{n:xI}{vs:vY W1}{Q:Unit->uM->Prop}(ho:s.heap.get? it=Fk o)(hc:o.cls=.type n)(hd:o.data=.fields vs)(hn:["enumerate","zip","dict_itemiterator","dict_reverseitemiterator","odict_iterator","itertools.zip_longest","itertools.pairwise"].contains n=false)(hQ:Q () s):wpAny M A (letOwnedTupleGo tg (.ref it) u) Q E s:=by
 unfold letOwnedTupleGo
 cases tg<;>first
  |exact uZ hQ
  |(cases u<;>first
     |exact uZ hQ
     |(refine uI (wpAny_load ho ?_)
       rw[hc,hd]
       show wpAny M A (if(["enumerate","zip","dict_itemiterator","dict_reverseitemiterator","odict_iterator","itertools.zip_longest","itertools.pairwise"].contains n && vs[0]?==Fk (rawInt _))=true then _ else _) Q E s
       rw[vP (by intro h;rw[hn,AAv]at h;cases h)]
       exact uZ hQ))
noncomputable def Itl(K:Wp)(a:uN):It:=
 ⟨λi H=>∃xs x,SqL K H a xs/\xs[i]?=Fk x,λi H x H'=>H'=H/\∀xs,SqL K H a xs->xs[i]?=Fk x,λi H=>∃xs,SqL K H a xs/\xs.length<=i⟩
noncomputable def Itt(K:Wp)(a:uN):It:=
 ⟨λi H=>∃xs x,SqT K H a xs/\xs[i]?=Fk x,λi H x H'=>H'=H/\∀xs,SqT K H a xs->xs[i]?=Fk x,λi H=>∃xs,SqT K H a xs/\xs.length<=i⟩
noncomputable def Itr(lo:Int)(n:Nat):It:=⟨λi _=>i<n,λi H x H'=>H'=H/\x=.int (lo+i),λi _=>n<=i⟩
theorem Xu{P:ur}{w:vO}{K:Wp}{tg:uu}(a it:uN):Turn P w K tg (Itl K a) [it] it (λi h=>h.IsListIter it a i) where
 mem:=by simp
 obj:=λi h st b hb=>by
  have e:b=it:=by simpa using hb
  subst e
  obtain⟨o,e,c,d⟩:=st
  exact⟨o,e,λv z=>by rw[d]at z;cases z⟩
 keep:=λi h h' st k=>st.at λo e=>k it (by simp) o e
 item:=by
  intro X hP hw hK hc i pins s σ H E I hf st hg
  subst hP hw hK
  obtain⟨xs,x,hq,hx⟩:=hg
  obtain⟨its,rv,p,hz⟩:=I.list hq
  obtain⟨u,hu,ru⟩:=rv.get hx
  obtain⟨f0,f1,f2,f3,f4,f5⟩:=hf it (by simp)
  refine yd st p.isList (x:=u) (by simpa using hu) λh' st' sb=>?_
  have I1:Inv X pins σ H {s with heap:=h'}:=I.turned (t':=s.toks) (λb o hb e=>(sb.2 b hb).trans e) f0 f1 f3 f4 f5
  obtain⟨o,e,c,d⟩:=id st'
  exact⟨u,rfl,gz (s:={s with heap:=h'}) e c d (by decide) ⟨x,H,I1,ru,⟨rfl,λys hy=>by rw[I.U7 hy hq];exact hx⟩,st',λb hb=>(hf b hb).1⟩⟩
 done:=by
  intro X hP hw hK hc i pins s σ H E I hf st hg
  subst hP hw hK
  obtain⟨xs,hq,hx⟩:=hg
  obtain⟨its,rv,p,hz⟩:=I.list hq
  obtain⟨f0,f1,f2,f3,f4,f5⟩:=hf it (by simp)
  have hl:=rv.length
  exact yv (I.ok.hd hc) st p.isList (by simp;lia) λh' eb=>⟨rfl,I.turned (t':=s.toks) (λb o hb e=>eb b o hb e) f0 f1 f3 f4 f5⟩
 self:=λ_ _ _ _ _ st h=>AAn st h
theorem Vt{P:ur}{w:vO}{K:Wp}{tg:uu}(a it:uN):Turn P w K tg (Itt K a) [it] it (λi h=>h.IsTupleIter it a i) where
 mem:=by simp
 obj:=λi h st b hb=>by
  have e:b=it:=by simpa using hb
  subst e
  obtain⟨o,e,c,d⟩:=st
  exact⟨o,e,λv z=>by rw[d]at z;cases z⟩
 keep:=λi h h' st k=>st.at λo e=>k it (by simp) o e
 item:=by
  intro X hP hw hK hc i pins s σ H E I hf st hg
  subst hP hw hK
  obtain⟨xs,x,hq,hx⟩:=hg
  obtain⟨its,rv,p,hz⟩:=I.tuple hq
  obtain⟨u,hu,ru⟩:=rv.get hx
  obtain⟨f0,f1,f2,f3,f4,f5⟩:=hf it (by simp)
  refine wpAny_pyNext_tuple_item st (show s.heap.IsTuple a its.toArray from p) (x:=u) (by simpa using hu) λh' st' sb=>?_
  have I1:Inv X pins σ H {s with heap:=h'}:=I.turned (t':=s.toks) (λb o hb e=>(sb.2 b hb).trans e) f0 f1 f3 f4 f5
  obtain⟨o,e,c,d⟩:=id st'
  exact⟨u,rfl,gz (s:={s with heap:=h'}) e c d (by decide) ⟨x,H,I1,ru,⟨rfl,λys hy=>by rw[I.SQ hy hq];exact hx⟩,st',λb hb=>(hf b hb).1⟩⟩
 done:=by
  intro X hP hw hK hc i pins s σ H E I hf st hg
  subst hP hw hK
  obtain⟨xs,hq,hx⟩:=hg
  obtain⟨its,rv,p,hz⟩:=I.tuple hq
  obtain⟨f0,f1,f2,f3,f4,f5⟩:=hf it (by simp)
  have hl:=rv.length
  exact wpAny_pyNext_tuple_end (I.ok.hd hc) st (show s.heap.IsTuple a its.toArray from p) (by simp;lia) λh' eb=>⟨rfl,I.turned (t':=s.toks) (λb o hb e=>eb b o hb e) f0 f1 f3 f4 f5⟩
 self:=λ_ _ _ _ _ st h=>wpAny_pyIter_tupleiter st h
theorem Vg{P:ur}{w:vO}{K:Wp}{tg:uu}(it:uN)(lo:Int)(n:Nat):Turn P w K tg (Itr lo n) [it] it (λi h=>IsRangeIter h it (lo+(i:Nat)*1) ((n:Int)-(i:Nat)) 1) where
 mem:=by simp
 obj:=λi h st b hb=>by
  have e:b=it:=by simpa using hb
  subst e
  exact⟨_,st,λv z=>by
   have z':Data.fields _=Data.cell v:=z
   cases z'⟩
 keep:=λi h h' st k=>k it (by simp) _ st
 item:=by
  intro X hP hw hK hc i pins s σ H E I hf st hg
  subst hP hw hK
  obtain⟨f0,f1,f2,f3,f4,f5⟩:=hf it (by simp)
  have W:=Walks.range (prog:=X.prog) (w:=X.w) (I.ok.hd hc) it lo 1 n
  refine W.item i s _ _ hg st λv h' tk hv st' kk=>?_
  obtain⟨t,rfl⟩:=hv
  have I1:Inv X pins σ H {s with heap:=h',toks:=tk}:=I.turned (λb o hb e=>kk b o (by simpa using hb) e) f0 f1 f3 f4 f5
  refine⟨_,rfl,gz (s:={s with heap:=h',toks:=tk}) (n:="range_iterator") st' rfl rfl (by decide) ⟨.int (lo+i),H,I1,⟨t,?_⟩,⟨rfl,rfl⟩,st',λb hb=>(hf b hb).1⟩⟩
  rw[Int.mul_one]
 done:=by
  intro X hP hw hK hc i pins s σ H E I hf st hg
  subst hP hw hK
  obtain⟨f0,f1,f2,f3,f4,f5⟩:=hf it (by simp)
  exact wpAny_pyNext_range_end (I.ok.hd hc) st (by have:n<=i:=hg;lia) λh' eb=>⟨rfl,I.turned (t':=s.toks) (λb o hb e=>eb b o hb e) f0 f1 f3 f4 f5⟩
 self:=λ_ _ _ _ _ st h=>wpAny_pyIter_rangeiter st h
end L2
namespace L2
open PySem PySem.Spec PyProof.Rows
section
variable{X:Cx}{tg:uu}
theorem b9{pins:Gc (uN×Obj)}{σ:St}{H:Hp}{s:uM}{R:It->Hp->Prop}{E:W1->uM->Prop}{lo hi:Int}{t u v:Tok}{tk:Nat}(I:Inv X pins σ H s)(h1: -(2^62)<=lo)(h2:lo<2^62)(h3: -(2^62)<=hi)(h4:hi<2^62)(q:R (Itr lo (hi-lo).toNat) H):wpAny (model X.prog X.w) X.A (pyIter (.ref s.heap.objs.size)) (PIE X pins σ tg R) E {s with heap:=s.heap.push {cls:=.type "range",data:=.fields #[.int lo t,.int hi u,.int 1 v]},toks:=tk}:=by
 refine wpAny_pyIter_range (IsRange.new ..) (small_one h1 h2 h3 h4) ?_
 have I1:Inv X pins σ H {s with heap:=s.heap.push {cls:=.type "range",data:=.fields #[.int lo t,.int hi u,.int 1 v]},toks:=tk}:=I.kept λb o e=>uJ _ e
 refine⟨(s.heap.push {cls:=.type "range",data:=.fields #[.int lo t,.int hi u,.int 1 v]}).objs.size,[(s.heap.push {cls:=.type "range",data:=.fields #[.int lo t,.int hi u,.int 1 v]}).objs.size],_,_,H,rfl,
  I1.kept (t':=tk) λb o e=>uJ _ e,Vg _ lo (hi-lo).toNat,?_,λb hb=>?_,q⟩
 .have e1:lo+((0:Nat):Int)*1=lo:=by simp
  have e2:(((hi-lo).toNat:Nat):Int)-((0:Nat):Int)=Builtin.Range.rangeSize lo hi 1:=by rw[rangeSize_one];split<;>lia
  show IsRangeIter _ _ (lo+((0:Nat):Int)*1) ((((hi-lo).toNat:Nat):Int)-((0:Nat):Int)) 1
  rw[e1,e2]
  exact uq _ rfl
 .have e:b=(s.heap.push {cls:=.type "range",data:=.fields #[.int lo t,.int hi u,.int 1 v]}).objs.size:=by simpa using hb
  subst e
  exact I1.fR (uV _) (I1.hok.fresh (uV _))
noncomputable def pR(ta:TA):TI:=λσ H R=>ta σ H λvs H1=>∃j:Int,vs=[.int j]/\ -(2^62)<=j/\j<2^62/\R (Itr 0 j.toNat) H1
theorem XQ{a:uu}{ta:TA}{p pos:Pos}(hg:Gl X "range")(hm:X.mg "range"=uK)(ha:PA X [a] ta)(hs:uo [a] X.env=[(false,eval a X.env)]:=by rfl):PI X tg (.Call (.Name "range" p) [a] [] pos) (pR ta):=by
 intro pins s σ H R I h
 refine Call_ (Mn I hg hm boot_range (wW (thn (ha pos pins s σ H _ I h) λus s1 ⟨vs,H1,I1,r1,q1⟩=>?_) hs rfl))
 obtain⟨j,e,q1,q2,q⟩:=q1
 subst e
 cases r1 with
 |cons r rr=>
  cases rr
  obtain⟨t,rfl⟩:=r
  exact call_range_1 (b9 I1 (by lia) (by lia) q1 q2 (by simpa using q))
noncomputable def rZ(wi:TI)(g:TG)(tb:TS):TS:=λD σ H=>wi σ H λJ H1=>∃W:Nat->Nat->St->Hp->Prop,(∃m,W 0 m σ H1)/\∀i m σ H,W i m σ H->
 (J.stop i H/\D.nx σ H)\/(J.go i H/\∃N:St->Hp->Prop,(∀σ' H',N σ' H'->∃m',m'<m/\W (i+1) m' σ' H')/\∀x H',J.yld i H x H'->g x σ H' λσ2 H2=>tb {D with nx:=N,ct:=N,bk:=D.nx} σ2 H2)
noncomputable def Sk(fp:Gc uN)(h:vF):Gc (uN×Obj):=fp.filterMap λb=>(h.get? b).map λo=>(b,o)
theorem Kx{fp:Gc uN}{h:vF}{b:uN}{o:Obj}(hb:b∈fp)(e:h.get? b=Fk o):(b,o)∈Sk fp h:=zT.mpr ⟨b,hb,by rw[e];rfl⟩
theorem Wi{fp:Gc uN}{h:vF}{p:uN×Obj}(hp:p∈Sk fp h):p.1∈fp/\h.get? p.1=Fk p.2:=by
 obtain⟨b,hb,e⟩:=zT.mp hp
 cases q:h.get? b with
 |none=>rw[q]at e;cases e
 |some o=>
  rw[q]at e
  have e':(b,o)=p:=vg e
  subst e'
  exact⟨hb,q⟩
theorem Inv.pinned{pins:Gc (uN×Obj)}{σ:St}{H:Hp}{s:uM}{fp:Gc uN}(I:Inv X pins σ H s)(hf:∀b∈fp,Tj X pins H b)(ho:∀b∈fp,∃o,s.heap.get? b=Fk o/\∀v,o.data≠.cell v):Inv X (pins++Sk fp s.heap) σ H s:=
 I.XO λp hp=>(uk.mp hp).elim (λz=>I.pin p (vZ _ z)) λz=>by
  obtain⟨hb,e⟩:=Wi z
  obtain⟨f0,f1,f2,_⟩:=hf p.1 hb
  obtain⟨o,e',d⟩:=ho p.1 hb
  rw[e]at e';cases e'
  exact⟨e,f0,f1,f2,d⟩
theorem Inv.Nq{pins pl:Gc (uN×Obj)}{σ:St}{H:Hp}{s:uM}(I:Inv X (pins++pl) σ H s):Inv X pins σ H s:=I.XO λp hp=>I.pin p (vZ _ (y8 _ hp))
theorem j6{iter:uu}{body:Gc vJ}{wi:TI}{g:TG}{tb:TS}{pos:Pos}(hp:PassesOwn (model X.prog X.w) X.A X.env X.xe)(hc:X.calm=true)(hi:PI X tg iter wi)(hg:PG X tg g)(hb:PSs X body tb)(hs:∀x,foldedSetIterable iter X.env x=pure x:=by intro _;rfl):PS X (.For tg iter body [] pos) (rZ wi g tb):=by
 intro pins s σ H D I h
 refine wpAny_For (thn (hi pins s σ H _ I h) λv s1 h1=>thn h1 λitv s2 h2=>?_) hs
 obtain⟨it,fp,tn,J,H2,e,I2,T,st2,f2,W,⟨m0,w0⟩,turn⟩:=h2
 subst e
 have stat:∀{H':Hp},(∀b∈fp,H' b=uK)->∀b∈fp,Tj X pins H' b:=λhn b hb=>⟨hn b hb,(f2 b hb).2⟩
 refine codeAny_forLoop_any (λn s'=>∃i σ' H',Inv X pins σ' H' s'/\tn i s'.heap/\(∀b∈fp,H' b=uK)/\W i n σ' H') ?_ m0 ⟨0,σ,H2,I2,st2,λb hb=>(f2 b hb).1,w0⟩
 rintro n s3 ⟨i,σ3,H3,I3,st3,fr3,w3⟩
 rcases turn i n σ3 H3 w3 with⟨stop,qn⟩|⟨go,N,hN,step⟩
 .refine xT hp (thn (T.done X rfl rfl rfl hc i pins s3 σ3 H3 X.xe I3 (stat fr3) st3 stop) λr s4 ⟨hr,I4⟩=>?_)
  subst hr
  exact yU ⟨σ3,H3,I4,qn⟩
 .refine xT hp (thn (T.item X rfl rfl rfl hc i pins s3 σ3 H3 X.xe I3 (stat fr3) st3 go) λr s4 ⟨u,hr,h4⟩=>?_)
  subst hr
  refine xT hp (thn h4 λ_ s5 ⟨x,H5,I5,r5,y5,st5,fr5⟩=>?_)
  have I5':=I5.pinned (stat fr5) (T.obj _ _ st5)
  refine xT hp (thn (hg _ s5 σ3 H5 x u _ I5' r5 (step x H5 y5)) λ_ s6 ⟨σ6,H6,I6,q6⟩=>?_)
  refine xT hp (thn (hb _ s6 σ6 H6 _ I6 q6) λf s7 q7=>?_)
  have again:∀{σ7:St} {H7:Hp},Inv X (pins++Sk fp s5.heap) σ7 H7 s7->N σ7 H7->∃m,m<n/\∃i σ' H',Inv X pins σ' H' s7/\tn i s7.heap/\(∀b∈fp,H' b=uK)/\W i m σ' H':=λ{σ7 H7} I7 n7=>by
   obtain⟨m',hm,w7⟩:=hN σ7 H7 n7
   refine⟨m',hm,i+1,σ7,H7,I7.Nq,T.keep _ _ _ st5 λb hb o e=>(I7.pin (b,o) (vZ _ (vZ _ (Kx hb e)))).1,λb hb=>?_,w7⟩
   obtain⟨o,e,d⟩:=T.obj _ _ st5 b hb
   exact(I7.pin (b,o) (vZ _ (vZ _ (Kx hb e)))).2.1
  cases f with
  |next=>obtain⟨σ7,H7,I7,n7⟩:=q7;exact again I7 n7
  |cont=>obtain⟨σ7,H7,I7,n7⟩:=q7;exact again I7 n7
  |brk=>obtain⟨σ7,H7,I7,q7⟩:=q7;exact⟨σ7,H7,I7.Nq,q7⟩
  |ret v=>obtain⟨x7,σ7,H7,I7,r7,q7⟩:=q7;exact⟨x7,σ7,H7,I7.Nq,r7,q7⟩
end
end L2
namespace L2
open PySem PySem.Spec PyProof.Rows
abbrev R2:=V->V->Hp->VK->Prop
def OpR(X:Cx)(f:W1->W1->Sem W1)(r:R2):Prop:=
 ∀(pins:Gc (uN×Obj)) (s:uM) (σ:St) (H:Hp) (x y:V) (v u:W1) (Q:VK),Inv X pins σ H s->RelV x v->RelV y u->r x y H Q->
  wpAny (model X.prog X.w) X.A (f v u) (EP X pins σ Q) X.xe s
def UnR(X:Cx)(f:W1->Sem W1)(r:V->Hp->VK->Prop):Prop:=
 ∀(pins:Gc (uN×Obj)) (s:uM) (σ:St) (H:Hp) (x:V) (v:W1) (Q:VK),Inv X pins σ H s->RelV x v->r x H Q->
  wpAny (model X.prog X.w) X.A (f v) (EP X pins σ Q) X.xe s
def Fd(X:Cx)(f:W1)(r:Gc V->Hp->VK->Prop):Prop:=
 ∀(pins:Gc (uN×Obj)) (s:uM) (σ:St) (H:Hp) (xs:Gc V) (us:Gc W1) (Q:VK),Inv X pins σ H s->Vals xs us->r xs H Q->
  wpAny (model X.prog X.w) X.A (call f us) (EP X pins σ Q) X.xe s
noncomputable def tOp(r:R2)(ta tb:TE):TE:=λσ H Q=>ta σ H λx H1=>tb σ H1 λy H2=>r x y H2 Q
noncomputable def tUn(r:V->Hp->VK->Prop)(ta:TE):TE:=λσ H Q=>ta σ H λx H1=>r x H1 Q
noncomputable def rI(C:Int->Int->Prop)(g:Int->Int->V):R2:=λx y H Q=>∃i j,x=.int i/\y=.int j/\C i j/\Q (g i j) H
noncomputable def rI0(g:Int->Int->V):R2:=λx y H Q=>∃i j,x=.int i/\y=.int j/\Q (g i j) H
def rU(g:Int->V):V->Hp->VK->Prop:=λx H Q=>∃i,x=.int i/\Q (g i) H
section
variable{X:Cx}{a b c:uu}{ta tb tc:TE}{pos:Pos}
theorem nS(ha:PE X a ta)(hb:PE X b tb){pins:Gc (uN×Obj)}{s:uM}{σ:St}{H:Hp}{R:V->V->Hp->Prop}(I:Inv X pins σ H s)(h:ta σ H λx H1=>tb σ H1 λy H2=>R x y H2){Q:W1->uM->Prop}{f:W1->W1->Sem W1}(hf:∀v u s2 x y H2,Inv X pins σ H2 s2->RelV x v->RelV y u->R x y H2->wpAny (model X.prog X.w) X.A (f v u) Q X.xe s2):wpAny (model X.prog X.w) X.A (eval a X.env) (λv s₁=>wpAny (model X.prog X.w) X.A (eval b X.env) (λu s₂=>wpAny (model X.prog X.w) X.A (f v u) Q X.xe s₂) X.xe s₁) X.xe s:=by
 refine thn (ha pins s σ H _ I h) λv s1 ⟨x,H1,I1,r1,q1⟩=>?_
 refine thn (hb pins s1 σ H1 _ I1 q1) λu s2 ⟨y,H2,I2,r2,q2⟩=>?_
 exact hf v u s2 x y H2 I2 r1 r2 q2
theorem pU{op:Operator}{r:R2}(ho:OpR X (binaryOp op) r)(ha:PE X a ta)(hb:PE X b tb):PE X (.BinOp a op b pos) (tOp r ta tb):=by
 intro pins s σ H Q I h
 exact wpAny_BinOp (nS ha hb I h λv u s2 x y H2 I2 rx ry q=>ho pins s2 σ H2 x y v u Q I2 rx ry q)
theorem kS{op:UnaryOp}{r:V->Hp->VK->Prop}(ho:UnR X (unaryOp op) r)(ha:PE X a ta):PE X (.UnaryOp op a pos) (tUn r ta):=by
 intro pins s σ H Q I h
 exact UnaryOp_ (thn (ha pins s σ H _ I h) λv s1 ⟨x,H1,I1,r1,q1⟩=>ho pins s1 σ H1 x v Q I1 r1 q1)
theorem opI{f:W1->W1->Sem W1}{C:Int->Int->Prop}{g:Int->Int->Int}(rule:∀(i j:Int) (t u:Tok) (s:uM) (Q:W1->uM->Prop) (E:W1->uM->Prop),C i j->Q (.int (g i j) s.toks) {s with toks:=s.toks+1}->wpAny (model X.prog X.w) X.A (f (.int i t) (.int j u)) Q E s):OpR X f (rI C λi j=>.int (g i j)):=by
 intro pins s σ H x y v u Q I rx ry h
 obtain⟨i,j,rfl,rfl,hc,q⟩:=h
 obtain⟨t,rfl⟩:=rx
 obtain⟨t',rfl⟩:=ry
 exact rule i j t t' s _ _ hc ⟨.int (g i j),H,I.tok _,⟨_,rfl⟩,q⟩
theorem qb{f:W1->W1->Sem W1}{g:Int->Int->Int}(rule:∀(i j:Int) (t u:Tok) (s:uM) (Q:W1->uM->Prop) (E:W1->uM->Prop),Q (.int (g i j) s.toks) {s with toks:=s.toks+1}->wpAny (model X.prog X.w) X.A (f (.int i t) (.int j u)) Q E s):OpR X f (rI0 λi j=>.int (g i j)):=by
 intro pins s σ H x y v u Q I rx ry h
 obtain⟨i,j,rfl,rfl,q⟩:=h
 obtain⟨t,rfl⟩:=rx
 obtain⟨t',rfl⟩:=ry
 exact rule i j t t' s _ _ ⟨.int (g i j),H,I.tok _,⟨_,rfl⟩,q⟩
theorem mT{f:W1->W1->Sem W1}{g:Int->Int->vL}(rule:∀(i j:Int) (t u:Tok) (s:uM) (Q:W1->uM->Prop) (E:W1->uM->Prop),Q (.bool (g i j)) s->wpAny (model X.prog X.w) X.A (f (.int i t) (.int j u)) Q E s):OpR X f (rI0 λi j=>.bl (g i j)):=by
 intro pins s σ H x y v u Q I rx ry h
 obtain⟨i,j,rfl,rfl,q⟩:=h
 obtain⟨t,rfl⟩:=rx
 obtain⟨t',rfl⟩:=ry
 exact rule i j t t' s _ _ ⟨.bl (g i j),H,I,rfl,q⟩
def tN(i j:Int):Prop:=0<=j/\j<=1000000/\i.natAbs<2^64
def oR(i j:Int):Prop:=(-(2^64)<i/\i<2^64)\/(-(2^64)<j/\j<2^64)
theorem oR.ok{i j:Int}(h:oR i j):IntMulOk i j:=by
 rcases h with⟨h1,h2⟩|⟨h1,h2⟩
 .exact .of_left (intBits_le_64 h1 h2)
 .exact .of_right (intBits_le_64 h1 h2)
theorem jQ:OpR X (binaryOp .Add) (rI0 λi j=>.int (i+j)):=qb λ_ _ _ _ _ _ _ q=>add_int q
theorem jB:OpR X (binaryOp .Sub) (rI0 λi j=>.int (i-j)):=qb λ_ _ _ _ _ _ _ q=>sub_int q
theorem dZ:OpR X (binaryOp .Mult) (rI oR λi j=>.int (i*j)):=opI λ_ _ _ _ _ _ _ hc q=>mul_int q hc.ok
theorem iV:OpR X (binaryOp .Mod) (rI (λ_ j=>0<j) λi j=>.int (i % j)):=opI λi j _ _ _ _ _ hc q=>by
 have h1:(0:Int)<j:=hc
 exact mod_int' (by lia) (by rw[Int.fmod_eq_emod_of_nonneg i (by lia)];exact q)
theorem kT:OpR X (binaryOp .Pow) (rI tN λi j=>.int (i^j.toNat)):=opI λ_ _ _ _ _ _ _ hc q=>pow_int_small hc.1 hc.2.1 hc.2.2 q
theorem unI{f:W1->Sem W1}{g:Int->Int}(rule:∀(i:Int) (t:Tok) (s:uM) (Q:W1->uM->Prop) (E:W1->uM->Prop),Q (.int (g i) s.toks) {s with toks:=s.toks+1}->wpAny (model X.prog X.w) X.A (f (.int i t)) Q E s):UnR X f (rU λi=>.int (g i)):=by
 intro pins s σ H x v Q I rx h
 obtain⟨i,rfl,q⟩:=h
 obtain⟨t,rfl⟩:=rx
 exact rule i t s _ _ ⟨.int (g i),H,I.tok _,⟨_,rfl⟩,q⟩
theorem cM:UnR X (unaryOp .USub) (rU λi=>.int (-i)):=unI λ_ _ _ _ _ q=>neg_int q
end
section
variable{X:Cx}{a b c:uu}{ta tb tc:TE}{pos:Pos}
theorem cb{pins:Gc (uN×Obj)}{σ:St}{H:Hp}{s:uM}{Q:VK}{k k':vL}(I:Inv X pins σ H s)(q:Q (.bl k) H)(e:k=k'):EP X pins σ Q (.bool k') s:=by
 subst e
 exact⟨.bl k,H,I,rfl,q⟩
theorem ng:OpR X (compareOp .Lt) (rI0 λi j=>.bl (decide (i<j))):=mT λ_ _ _ _ _ _ _ q=>lt_int q
theorem pq:OpR X (compareOp .LtE) (rI0 λi j=>.bl (decide (i<=j))):=mT λ_ _ _ _ _ _ _ q=>le_int q
theorem oI:OpR X (compareOp .Gt) (rI0 λi j=>.bl (decide (j<i))):=mT λ_ _ _ _ _ _ _ q=>gt_int q
theorem nj:OpR X (compareOp .GtE) (rI0 λi j=>.bl (decide (j<=i))):=mT λ_ _ _ _ _ _ _ q=>ge_int q
theorem ie:OpR X (compareOp .Is) (λx y H Q=>y=.non/\Q (.bl (decide (x=.non))) H):=by
 intro pins s σ H x y v u Q I rx ry h
 obtain⟨rfl,q⟩:=h
 cases ry
 refine is_none_gen (cb I q ?_)
 cases x<;>first
  |(cases rx;rfl)
  |(obtain⟨t,rfl⟩:=rx;rfl)
theorem dy:OpR X (compareOp .IsNot) (λx y H Q=>y=.non/\Q (.bl (!decide (x=.non))) H):=by
 intro pins s σ H x y v u Q I rx ry h
 obtain⟨rfl,q⟩:=h
 cases ry
 refine isnot_none_gen (cb I q ?_)
 cases x<;>first
  |(cases rx;rfl)
  |(obtain⟨t,rfl⟩:=rx;rfl)
theorem eM{op:CmpOp}{r:R2}(ho:OpR X (compareOp op) r)(ha:PE X a ta)(hb:PE X b tb)(hm:behindInMarks op b=false):PE X (.Compare a [op] [b] pos) (tOp r ta tb):=by
 intro pins s σ H Q I h
 exact wpAny_Compare1 (nS ha hb I h λv u s2 x y H2 I2 rx ry q=>ho pins s2 σ H2 x y v u Q I2 rx ry q) hm
noncomputable def iQ(t:TE):TT:=λσ H Q=>t σ H λx H'=>∃k,x=.bl k/\Q k H'
theorem gu{op:CmpOp}{r:R2}(ho:OpR X (compareOp op) r)(ha:PE X a ta)(hb:PE X b tb)(hm:behindInMarks op b=false):PT X (.Compare a [op] [b] pos) (iQ (tOp r ta tb)):=by
 intro pins s σ H Q I h
 refine wpAny_isTrue_Compare1 (thn (ha pins s σ H _ I h) λv s1 ⟨x,H1,I1,r1,q1⟩=>thn (hb pins s1 σ H1 _ I1 q1) λu s2 ⟨y,H2,I2,r2,q2⟩=>
  thn (ho pins s2 σ H2 x y v u _ I2 r1 r2 q2) λc s3 ⟨z,H3,I3,r3,k,e,q3⟩=>?_) hm
 subst e
 cases r3
 exact x5 ⟨H3,I3,q3⟩
theorem SD:(sizeLine:Nat)<2^63:=by rw[sizeLine_eq];decide
theorem WA:OpR X (binaryOp .Add) (λx y H Q=>∃i j,x=.str i/\y=.str j/\i.length+j.length<=sizeLine/\Q (.str (i++j)) H):=by
 intro pins s σ H x y v u Q I rx ry h
 obtain⟨i,j,rfl,rfl,hz,q⟩:=h
 obtain⟨t,rfl⟩:=rx
 obtain⟨t',rfl⟩:=ry
 exact add_str (λt' tk=>⟨.str (i++j),H,I.tok _,⟨_,rfl⟩,q⟩) hz
theorem vals1{x:V}{us:Gc W1}(r:Vals [x] us):∃u,us=[u]/\RelV x u:=by
 cases r with
 |cons r1 r2=>cases r2;exact⟨_,rfl,r1⟩
theorem vals2{x y:V}{us:Gc W1}(r:Vals [x,y] us):∃u w',us=[u,w']/\RelV x u/\RelV y w':=by
 cases r with
 |cons r1 r2=>
  cases r2 with
  |cons r3 r4=>cases r4;exact⟨_,_,rfl,r1,r3⟩
theorem aO:Fd X (.builtin "abs") (λxs H Q=>∃i,xs=[.int i]/\Q (.int (if i<0 then-i else i)) H):=by
 intro pins s σ H xs us Q I r h
 obtain⟨i,rfl,q⟩:=h
 obtain⟨u,rfl,t,rfl⟩:=vals1 r
 exact call_abs_int λu tk=>⟨.int (if i<0 then-i else i),H,I.tok _,⟨_,rfl⟩,q⟩
theorem XX(hc:X.calm=true):Fd X (.builtin "max") (λxs H Q=>∃i j,xs=[.int i,.int j]/\Q (.int (if j>i then j else i)) H):=by
 intro pins s σ H xs us Q I r h
 obtain⟨i,j,rfl,q⟩:=h
 obtain⟨u,w',rfl,⟨t,rfl⟩,⟨t',rfl⟩⟩:=vals2 r
 refine max_two_ints (I.ok.hd hc) λh' tk k=>⟨_,H,I.kept k,?_,q⟩
 by_cases hj:j>i
 .rw[vM hj,vM hj];exact⟨_,rfl⟩
 .rw[vP hj,vP hj];exact⟨_,rfl⟩
theorem Wb(hc:X.calm=true):Fd X (.builtin "min") (λxs H Q=>∃i j,xs=[.int i,.int j]/\Q (.int (if j<i then j else i)) H):=by
 intro pins s σ H xs us Q I r h
 obtain⟨i,j,rfl,q⟩:=h
 obtain⟨u,w',rfl,⟨t,rfl⟩,⟨t',rfl⟩⟩:=vals2 r
 refine min_two_ints (I.ok.hd hc) λh' tk k=>⟨_,H,I.kept k,?_,q⟩
 by_cases hj:j<i
 .rw[vM hj,vM hj];exact⟨_,rfl⟩
 .rw[vP hj,vP hj];exact⟨_,rfl⟩
theorem SO:Fd X (.type "int") (λxs H Q=>(∃i,xs=[.int i]/\Q (.int i) H)\/∃k,xs=[.bl k]/\Q (.int (if k then 1 else 0)) H):=by
 intro pins s σ H xs us Q I r h
 rcases h with⟨i,rfl,q⟩|⟨k,rfl,q⟩
 .obtain⟨u,rfl,t,rfl⟩:=vals1 r
  exact call_int_int ⟨.int i,H,I,⟨_,rfl⟩,q⟩
 .obtain⟨u,rfl,r1⟩:=vals1 r
  cases r1
  exact call_int_bool ⟨.int (if k then 1 else 0),H,I.tok _,⟨_,rfl⟩,q⟩
theorem SM:Fd X (.type "str") (λxs H Q=>∃i,xs=[.int i]/\i.natAbs.log2<1920/\Q (.str (toString i)) H):=by
 intro pins s σ H xs us Q I r h
 obtain⟨i,rfl,hz,q⟩:=h
 obtain⟨u,rfl,t,rfl⟩:=vals1 r
 exact PySem.P.str_of_int hz ⟨.str _,H,I.tok _,⟨_,rfl⟩,q⟩
end
end L2
namespace L2
open PySem PySem.Spec PyProof.Rows
structure nQ(h:vF)(x dx C:uN)(mA:Str->uL W1):Prop where
 obj:h.get? x=Fk (AAe C dx)
 ns:h.Ns1 dx mA
 ne:dx≠x
theorem W8{h:vF}{dx:uN}{mA:Str->uL W1}(n:h.Ns1 dx mA):∃od,h.get? dx=Fk od/\∀name,AAw name od=Fk (mA name):=by
 obtain⟨o,es,ep,ho,hd,hk,_,hm⟩:=n
 refine⟨o,ho,λname=>?_⟩
 have e:=hm name
 unfold nsFind findBy at e
 rw[<-Array.find?_toList]at e
 unfold AAw
 rw[hd]
 dsimp only
 split
 .rename_i y q
  rw[q]at e
  exact congrArg Fk e
 .rename_i q
  rw[q]at e
  have a:es.toList.any (·.refKey)=false:=by
   rw[List.any_eq_false]
   intro y hy
   obtain⟨z,t,hkey⟩:=hk y (Array.mem_toList_iff.mp hy)
   simp[DictEntry.refKey,hkey]
  have a':¬es.toList.any (·.refKey)=true:=by rw[a];exact va
  rw[vP a']
  exact congrArg Fk e
theorem nQ.look{h:vF}{x dx C:uN}{mA:Str->uL W1}(I:nQ h x dx C mA):∃od,PySem.W.InstAt h x (AAe C dx) C (Fk od)/\∀name,AAw name od=Fk (mA name):=
 let⟨od,ho,hl⟩:=W8 I.ns
 ⟨od,⟨I.obj,rfl,rfl,ho⟩,hl⟩
section
variable{prog:ur}{w:vO}{A:vN}{E:W1->uM->Prop}{s:uM}{K:Wp}{x dx C f:uN}{mA:Str->uL W1}{name:Str}{v:W1}
end
section
variable{P:ur}{w:vO}{H H':Hp}{h h':vF}{a C dx:uN}{fs fs':Gc (Str×V)}
theorem hV(hok:HOk P w H h)(e:H a=Fk (.ins C dx fs)):∃mA,nQ h a dx C mA/\(∀f,mC (fs.lookup f) (mA f))/\PySem.Within mA (fs.map (·.1))/\fs.length<=1000/\H dx=Fk (.own a):=by
 obtain⟨d,z,ne,ob,mA,n,r,q⟩:=(show ES P w H h a (.ins C dx fs)from hok a _ e)
 exact⟨mA,⟨ob,n,ne⟩,r,q,z,d⟩
end
structure Cls(K:Wp)(C:uN):Prop where
 pg:PySem.W.plainGet K C Str.empty=true
 hd:PySem.W.hasDictIn K C=true
 po:PySem.W.plainOver K C=true
 sa:ye K (.ref C) "__setattr__"=Fk (Fk (.builtin "object.__setattr__"))
theorem Cls.get{K:Wp}{C:uN}(c:Cls K C)(f:Str):PySem.W.plainGet K C f=true:=c.pg
structure Con(K:Wp)(C:uN)(f:Str)(v:V)(u:W1):Prop where
 at_:ye K (.ref C) f=Fk (Fk u)
 rel:RelV v u
 get:PySem.W.specialIn K u "__get__"=Fk uK
 cp:PySem.W.copiedNames.contains f=false
structure Meth(K:Wp)(C:uN)(m:Str)(f:uN):Prop where
 at_:ye K (.ref C) m=Fk (Fk (.ref f))
 fn:PySem.W.isFn K (.ref f)=true
 kp:wy K (.ref f)=true
section
variable{X:Cx}{pins:Gc (uN×Obj)}{σ:St}{H:Hp}{s:uM}{a C dx:uN}{fs:Gc (Str×V)}{f:Str}{v:V}{A:vN}{E:W1->uM->Prop}
end
section
variable{X:Cx}{o e value:uu}{f:Str}{pos pos' tpos:Pos}{ta tv:TE}
end
section
variable{X:Cx}{pins:Gc (uN×Obj)}{σ:St}{H:Hp}{s:uM}{A:vN}{E:W1->uM->Prop}{Q:W1->uM->Prop}{c:W1}{b:vL}
inductive WD(K:Wp)(H:Hp):V->W1->Prop where
 |non:WD K H .non (.type "NoneType")
 |bl (x:vL):WD K H (.bl x) (.type "bool")
 |int (i:Int):WD K H (.int i) (.type "int")
 |str (x:Str):WD K H (.str x) (.type "str")
 |flt (x:UInt64):WD K H (.flt x) (.type "float")
 |lst {a:uN} {xs:Gc V} (e:H a=Fk (.lst xs)):WD K H (.ref a) (.type "list")
 |frz {a:uN} {o:Obj} {xs:Gc V} (e:H a=Fk (.frz o (.lst xs))):WD K H (.ref a) (.type "list")
 |tup {a:uN} {xs:Gc V} (e:H a=Fk (.tup xs)):WD K H (.ref a) (.type "tuple")
 |dK {a:uN} {kvs:Gc (Key×V)} (e:H a=Fk (.dK kvs)):WD K H (.ref a) (.type "dict")
 |dT {a:uN} {kvs:Gc (Gc Key×V)} (e:H a=Fk (.dT kvs)):WD K H (.ref a) (.type "dict")
 |ins {a C dx:uN} {fs:Gc (Str×V)} (e:H a=Fk (.ins C dx fs)) (cl:Cls K C) (ha:ye K (.ref C) "__class__"=Fk (Fk (.builtin "object.__class__")))
   (hn:PySem.W.specialIn K (.builtin "object.__class__") "__get__"=Fk (Fk (.builtin "getset_descriptor.__get__"))) (htk:PySem.W.takesIn K (.builtin "object.__class__")=Fk true)
   (hm:PySem.W.mroIn K C (.type "object")=Fk true):WD K H (.ref a) (.ref C)
theorem HL{x:V}{u t:W1}(I:Inv X pins σ H s)(rx:RelV x u)(ty:WD X.K H x t)(e:xJ X.K t c=Fk b)(h:∀tk,Q (.bool b) {s with toks:=tk}):wpAny (model X.prog X.w) A (call (.builtin "isinstance") [u,c]) Q E s:=by
 cases ty with
 |non=>cases (show u=vz from rx);exact vy PySem.W.kitx_none I.kIn yx e (λz=>nomatch z) h
 |bl y=>cases (show u=AAM y from rx);exact vy PySem.W.kitx_bool I.kIn yx e (λz=>nomatch z) h
 |int i=>obtain⟨t,q⟩:=(show∃t,u=zP i t from rx);cases q;exact vy PySem.W.kitx_int I.kIn yx e (λz=>nomatch z) h
 |str y=>obtain⟨t,q⟩:=(show∃t,u=AAA y t from rx);cases q;exact vy PySem.W.kitx_str I.kIn yx e (λz=>nomatch z) h
 |flt y=>obtain⟨t,q⟩:=(show∃t,u=Value.float y t from rx);cases q;exact vy PySem.W.kitx_float I.kIn yx e (λz=>nomatch z) h
 | @lst a xs ea=>
   cases (show u=vi a from rx)
   obtain⟨_,_,n,_,h1⟩:=(show ES X.prog X.w H s.heap a (.lst xs)from I.hok a _ ea)
   exact vy PySem.W.kitx_list I.kIn ⟨_,h1,rfl⟩ e (λz=>nomatch z) h
 | @frz a ob xs ea=>
   cases (show u=vi a from rx)
   obtain⟨_,_,_,n,_,h1⟩:=(show ES X.prog X.w H s.heap a (.frz ob (.lst xs))from I.hok a _ ea)
   exact vy PySem.W.kitx_list I.kIn ⟨_,h1,rfl⟩ e (λz=>nomatch z) h
 | @tup a xs ea=>
   cases (show u=vi a from rx)
   obtain⟨_,_,_,p⟩:=(show ES X.prog X.w H s.heap a (.tup xs)from I.hok a _ ea)
   obtain⟨o,h1,h2,_⟩:=p
   exact vy ABU I.kIn ⟨o,h1,h2⟩ e (λz=>nomatch z) h
 | @dK a kvs ea=>
   cases (show u=vi a from rx)
   obtain⟨_,_,vs,_,p⟩:=(show ES X.prog X.w H s.heap a (.dK kvs)from I.hok a _ ea)
   obtain⟨o,es,ep,h1,h2,_⟩:=p
   exact vy PySem.W.kitx_dict I.kIn ⟨o,h1,h2.1⟩ e (λz=>nomatch z) h
 | @dT a kvs ea=>
   cases (show u=vi a from rx)
   obtain⟨_,_,xs,_,o,es,ep,h1,h2,_⟩:=(show ES X.prog X.w H s.heap a (.dT kvs)from I.hok a _ ea)
   exact vy PySem.W.kitx_dict I.kIn ⟨o,h1,h2.1⟩ e (λz=>nomatch z) h
 | @ins a C dx fs ea cl ha hn htk hm=>
   cases (show u=vi a from rx)
   obtain⟨mA,O,_⟩:=hV I.hok ea
   obtain⟨od,J,_⟩:=O.look
   exact vy (PySem.W.kitx_own (cl.get _) cl.hd ha hn htk hm) I.kIn J e (λz=>nomatch z) h
end
end L2
namespace L2
open PySem PySem.Spec PyProof.Rows
structure IB(k:Nat)(A:vN):Prop where
 hd:A.handled=uK
 dp:A.depth+3*k+5<recursionLimit
 un:A.units+16*k+200<cLine
theorem IB.mono{j k:Nat}{A:vN}(r:IB k A)(h:j<=k):IB j A:=⟨r.hd,by have:=r.dp;lia,by have:=r.un;lia⟩
theorem IB.deeper{k:Nat}{A:vN}(r:IB (k+1) A)(env:Env):IB k (A.deeper env):=
 ⟨r.hd,by have:=r.dp;show A.depth+1+3*k+5<_;lia,by have:=r.un;show A.units+3+16*k+200<_;lia⟩
theorem IB.depth{k:Nat}{A:vN}(r:IB k A):A.depth<recursionLimit:=by have:=r.dp;lia
noncomputable def rA:TA:=λ_ H Q=>Q [] H
noncomputable def jT(ta:TE)(tr:TA):TA:=λσ H Q=>ta σ H λx H1=>tr σ H1 λxs H2=>Q (x::xs) H2
section
variable{X:Cx}{e:uu}{es:Gc uu}{te:TE}{t:TA}{pos:Pos}
theorem Ws:PA X [] rA:=λ_ _ _ _ H Q I h=>yw ⟨[],H,I,.nil,h⟩
theorem QW(ha:PE X e te)(hr:PA X es t)(hs:uo (e::es) X.env=(false,eval e X.env)::uo es X.env:=by rfl):PA X (e::es) (jT te t):=by
 intro pos pins s σ H Q I h
 rw[hs]
 show wpAny _ _ (spliced ((false,eval e X.env)::backTo pos (uo es X.env))) _ _ s
 refine yf (thn (ha pins s σ H _ I h) λu s1 ⟨x,H1,I1,r1,q1⟩=>?_)
 exact thn (hr pos pins s1 σ H1 _ I1 q1) λus s2 ⟨xs,H2,I2,r2,q2⟩=>⟨x::xs,H2,I2,.cons r1 r2,q2⟩
noncomputable def rz(t:TA):TE:=λσ H Q=>t σ H λxs H1=>xs.length<=sizeLine/\∀p,H1 p=uK->Q (.ref p) (upd H1 p (.tup xs))
noncomputable def tH(t:TA):TE:=λσ H Q=>t σ H λxs H1=>xs.length<=sizeLine/\∀p,H1 p=uK->Q (.ref p) (upd H1 p (.lst xs))
theorem kr{x1}(h:PA X es t):PE X (.Tuple es x1 pos) (rz t):=by
 intro pins s σ H Q I hq
 refine wpAny_Tuple_spliced (thn (h pos pins s σ H _ I hq) λus s1 ⟨xs,H1,I1,r,z,q⟩=>⟨by rw[<-r.length];exact z,?_⟩)
 have hf:H1 s1.heap.objs.size=none:=I1.hok.fresh (uV _)
 refine⟨.ref s1.heap.objs.size,upd H1 s1.heap.objs.size (.tup xs),I1.laid (t':=s1.toks) (λb u e=>uJ _ e) (uV _) ?_,rfl,q _ hf⟩
 exact⟨z,us,r,⟨_,uq _ rfl,rfl,_,rfl⟩⟩
theorem ku(h:PA X es t):PE X (.List es pos) (tH t):=by
 intro pins s σ H Q I hq
 refine wpAny_List_spliced (thn (h pos pins s σ H _ I hq) λus s1 ⟨xs,H1,I1,r,z,q⟩=>⟨by rw[<-r.length];exact z,?_⟩)
 have hf:H1 s1.heap.objs.size=none:=I1.hok.fresh (uV _)
 refine⟨.ref s1.heap.objs.size,upd H1 s1.heap.objs.size (.lst xs),I1.laid (t':=s1.toks) (λb u e=>uJ _ e) (uV _) ?_,rfl,q _ hf⟩
 exact⟨z,us,0,r,uq _ rfl⟩
end
abbrev Sp:=Gc V->Hp->VK->XK->Prop
abbrev CXT:=Gc Env->Hp->uM->XK->W1->uM->Prop
structure jS(P:ur)(w:vO)(K:Wp)(mg:Str->uL W1)(base:vF)(A:vN)(outer:Gc Env)(s:uM)(H:Hp):Prop where
 frames:A.frames=Fk outer
 mod:Mod K mg base
 bs:∀b o,base.get? b=Fk o->s.heap.get? b=Fk o/\H b=uK
 bsz:base.objs.size<=s.heap.objs.size
 VP:s.heap.FunFrames base outer
 frf:∀b∈frs outer,H b=uK
 hok:HOk P w H s.heap
 bare:yZ s.gens
def CE(outer:Gc Env)(P:ur)(w:vO)(H:Hp)(s:uM)(Q:VK)(u:W1)(s':uM):Prop:=
 ∃v H',s'.os=s.os/\yZ s'.gens/\Un (frs outer) [] H H' s.heap s'.heap/\HOk P w H' s'.heap/\RelV v u/\Q v H'
def CR(CX:CXT)(outer:Gc Env)(P:ur)(w:vO)(H:Hp)(s:uM)(Q:VK)(E:XK)(r:Result)(s':uM):Prop:=
 match r with
 | .ok (.ret u)=>CE outer P w H s Q u s'
 | .ok _=>xB
 | .error e=>CX outer H s E e s'
structure VN(P:ur)(w:vO)(K:Wp)(mg:Str->uL W1)(base:vF)(CX:CXT)(k:Nat)(f:uN)(fd:wY)(ps:Gc Str)(sp:Sp):Prop where
 len:∀vs H Q E,sp vs H Q E->vs.length=ps.length
 run:∀(A:vN) (outer:Gc Env) (s:uM) (H:Hp) (args:Args) (us:Gc W1) (vs:Gc V) (Q:VK) (E:XK),IB k A->jS P w K mg base A outer s H->BindsTo s fd args (ps.zip us)->Vals vs us->sp vs H Q E->
  codeAny (model P w) A (.call (.ref f) args) (CR CX outer P w H s Q E) s
section
variable{X:Cx}{pins:Gc (uN×Obj)}{σ:St}{H:Hp}{s s':uM}
theorem Inv.kP(I:Inv X pins σ H s):jS X.prog X.w X.K X.mg X.base X.A X.stack s H:=
 ⟨I.ok.frames,I.ok.mod,I.bs,uW I.ok.bsz I.sz,I.stack,I.T7,I.hok,I.bare⟩
theorem Inv.after{Q:VK}{u:W1}(I:Inv X pins σ H s)(h:CE X.stack X.prog X.w H s Q u s'):EP X pins σ Q u s':=by
 obtain⟨v,H',os,bare,un,hok,r,q⟩:=h
 obtain⟨hh,g,d,t,os'⟩:=s'
 obtain rfl:os'=s.os:=os
 exact⟨v,H',I.call (h':=hh) (g':=g) (d':=d) (t':=t) (ch:=[]) un hok bare (λb z=>absurd z (by simp)),r,q⟩
end
noncomputable def gS(sp:Sp)(dvs:Gc V)(E:XK)(t:TA):TE:=λσ H Q=>t σ H λvs H1=>sp (vs++dvs) H1 Q E
def Binds(K:Wp)(fd:wY)(ps:Gc Str)(ds:Gc W1):Prop:=
 ∀(s:uM) (us:Gc W1),K.In s.heap->(us++ds).length=ps.length->BindsTo s fd ⟨us,[]⟩ (ps.zip (us++ds))
theorem Binds.all{K:Wp}{fd:wY}{ps:Gc Str}(h:∀us:Gc W1,us.length=ps.length->bindArgs fd ⟨us,[]⟩=pure (ps.zip us)):Binds K fd ps []:=λs us _ hl=>by
 rw[wU]at hl⊢
 exact .of_eq (h us hl)
def Passes(CX:CXT)(X:Cx)(E:XK):Prop:=∀(pins:Gc (uN×Obj)) (σ:St) (H:Hp) (s:uM) (e:W1) (s':uM),Inv X pins σ H s->CX X.stack H s E e s'->X.xe e s'
section
variable{X:Cx}{CX:CXT}{k:Nat}{f C:uN}{fd:wY}{ps:Gc Str}{sp:Sp}{dvs:Gc V}{ds:Gc W1}{E:XK}{x m:Str}{p pos apos:Pos}{e o:uu}{es:Gc uu}{ta:TE}{t:TA}
theorem iK{pins:Gc (uN×Obj)}{σ:St}{H:Hp}{s:uM}{Q:VK}{us:Gc W1}{vs:Gc V}(F:VN X.prog X.w X.K X.mg X.base CX k f fd ps sp)(hr:IB k X.A)(hb:Binds X.K fd ps ds)(hd:Vals dvs ds)(hx:Passes CX X E)(I:Inv X pins σ H s)(r:Vals vs us)(h:sp (vs++dvs) H Q E):wpAny (model X.prog X.w) X.A (call (.ref f) us) (EP X pins σ Q) X.xe s:=by
 have r2:Vals (vs++dvs) (us++ds):=r.append hd
 have hl:(us++ds).length=ps.length:=by rw[<-r2.length];exact F.len _ _ _ _ h
 refine AAP (AAQ (F.run X.A X.stack s H ⟨us,[]⟩ (us++ds) (vs++dvs) Q E hr I.kP (hb s us I.kIn hl) r2 h) λr s' hq=>?_)
 cases r with
 |error e=>exact hx pins σ H s e s' I hq
 |ok fl=>
  cases fl with
  |ret u=>exact I.after hq
  |next=>exact wL hq
  |brk=>exact wL hq
  |cont=>exact wL hq
theorem fL(F:VN X.prog X.w X.K X.mg X.base CX k f fd ps sp)(hr:IB k X.A)(hg:Gl X x)(hm:X.mg x=Fk (.ref f))(hk:wy X.K (.ref f)=true)(hb:Binds X.K fd ps ds)(hd:Vals dvs ds)(hx:Passes CX X E)(ha:PA X (e::es) t)(hdb:(x==("__debug__":Str))=false:=by decide)(he:uo (e::es) X.env=(false,eval e X.env)::uo es X.env:=by rfl)(hpl:(backTo pos (uo es X.env)).any (·.1)=false:=by rfl):PE X (.Call (.Name x p) (e::es) [] pos) (gS sp dvs E t):=by
 intro pins s σ H Q I h
 refine wB (Oa I hg hm ?_ hdb)
 refine zU (h₀:=X.base) I.ok.mod.kin hk (thn (ha pos pins s σ H _ I h) λus s1 ⟨vs,H1,I1,r,q⟩=>⟨I1.kIn,?_⟩) he hpl
 exact iK F hr hb hd hx I1 r q
structure Mk(K:Wp)(C f:uN):Prop where
 makes:PySem.W.makesIn K C=true
 init:ye K (.ref C) "__init__"=Fk (Fk (.ref f))
 fn:PySem.W.isFn K (.ref f)=true
 kp:wy K (.ref C)=true
end
section
variable{X:Cx}{CX:CXT}{k:Nat}{f C:uN}{fd:wY}{ps ks:Gc Str}{sp:Sp}{E:XK}{x m:Str}{p pos apos kpos:Pos}{e o:uu}{es:Gc uu}{kws:Gc zt}{te ta:TE}{t tk:TA}{nm:uL Str}
structure qf(K:Wp)(fd:wY)(ps ks:Gc Str)(g:Gc W1->Gc W1->Gc W1)(gV:Gc V->Gc V->Gc V):Prop where
 to:∀(s:uM) (us ws:Gc W1),K.In s.heap->(g us ws).length=ps.length->BindsTo s fd ⟨us,ks.zip ws⟩ (ps.zip (g us ws))
 rel:∀{vs:Gc V} {us:Gc W1} {zs:Gc V} {ws:Gc W1},Vals vs us->Vals zs ws->Vals (gV vs zs) (g us ws)
variable{g:Gc W1->Gc W1->Gc W1}{gV:Gc V->Gc V->Gc V}
end
structure AQ(N P:Gc Str)(sc:vx):Prop where
 kind:sc.kind=.function
 co:sc.isCoroutine=false
 gen:sc.isGenerator=false
 nd:N.Nodup
 pre:N.take P.length=P
 par:∀x∈P,sc.names.lookup x=Fk .local\/sc.names.lookup x=Fk .cell
 jY:∀y∈sc.names,y.2≠.free
theorem SV{kindOf:Str->uL xj}{x:Str}:∀{binds:Gc (Str×W1)} {m:Str->uL W1},(∀v,(x,v)∉binds)->bindL kindOf binds m x=m x
 | [],_,_=>rfl
 |(n,v)::r,m,h=>by
  unfold bindL
  rw[SV λw hw=>h w (uR _ hw)]
  split
  .have:x≠n:=by rintro rfl;exact h v uX
   simp[this]
  .rfl
theorem Sy{kindOf:Str->uL xj}{x:Str}:∀{binds:Gc (Str×W1)} {m:Str->uL W1},(∀v,(x,v)∉binds)->bindC kindOf binds m x=m x
 | [],_,_=>rfl
 |(n,v)::r,m,h=>by
  unfold bindC
  rw[Sy λw hw=>h w (uR _ hw)]
  split
  .rfl
  .have:x≠n:=by rintro rfl;exact h v uX
   simp[this]
theorem Rj{kindOf:Str->uL xj}{x:Str}{v:W1}:∀{P:Gc Str} {vs:Gc W1} {i:Nat} {m:Str->uL W1},P.Nodup->P[i]?=Fk x->vs[i]?=Fk v->kindOf x=Fk .local->bindL kindOf (P.zip vs) m x=Fk v
 | [],_,_,_,_,h,_,_=>by simp at h
 |_::_,[],_,_,_,_,h,_=>by simp at h
 |p::P,w::vs,0,m,nd,h1,h2,hk=>by
  simp at h1 h2;subst h1;subst h2
  show bindL kindOf ((p,w)::P.zip vs) m p=_
  unfold bindL
  rw[SV λv hv=>(xD.mp nd).1 (wF hv).1,vM hk]
  simp
 |p::P,w::vs,i+1,m,nd,h1,h2,hk=>by
  show bindL kindOf ((p,w)::P.zip vs) m x=_
  unfold bindL
  exact Rj (i:=i) (xD.mp nd).2 (by simpa using h1) (by simpa using h2) hk
theorem Su{kindOf:Str->uL xj}{x:Str}{v:W1}:∀{P:Gc Str} {vs:Gc W1} {i:Nat} {m:Str->uL W1},P.Nodup->P[i]?=Fk x->vs[i]?=Fk v->kindOf x≠Fk .local->bindC kindOf (P.zip vs) m x=Fk v
 | [],_,_,_,_,h,_,_=>by simp at h
 |_::_,[],_,_,_,_,h,_=>by simp at h
 |p::P,w::vs,0,m,nd,h1,h2,hk=>by
  simp at h1 h2;subst h1;subst h2
  show bindC kindOf ((p,w)::P.zip vs) m p=_
  unfold bindC
  rw[Sy λv hv=>(xD.mp nd).1 (wF hv).1,vP hk]
  simp
 |p::P,w::vs,i+1,m,nd,h1,h2,hk=>by
  show bindC kindOf ((p,w)::P.zip vs) m x=_
  unfold bindC
  exact Su (i:=i) (xD.mp nd).2 (by simpa using h1) (by simpa using h2) hk
noncomputable def start(N:Gc Str)(vs:Gc V):St:=vs.map Fk++um (N.length-vs.length) uK
noncomputable def M9(CX:CXT)(P:ur)(w:vO)(K:Wp)(mg:Str->uL W1)(base:vF)(N:Gc Str)(qual:Str)(scope:vx)(f:uN)(cd:W1)(A:vN)(outer:Gc Env)(s:uM)(H:Hp)(E:XK):Cx where
 prog:=P
 w:=w
 K:=K
 mg:=mg
 base:=base
 A:=A.deeper (envOfC qual scope s.heap.objs.size f cd)
 N:=N
 s₀:=s
 H₀:=H
 env:=envOfC qual scope s.heap.objs.size f cd
 outer:=outer
 stack:=envOfC qual scope s.heap.objs.size f cd::outer
 ex:=[]
 calm:=true
 fn:=λ_=>true
 pn:=[]
 xe:=λe s'=>wpAny (model P w) (A.deeper (envOfC qual scope s.heap.objs.size f cd)) (leaving (envOfC qual scope s.heap.objs.size f cd) e) (λ_ s''=>CX outer H s E e s'') (λe' s''=>CX outer H s E e' s'') s'
theorem Nu{sc:vx}{n:Nat}{x:Str}(h:sc.names.lookup x=Fk .cell):∃c,(cellsFrom n sc.names []).lookup x=Fk c:=by
 have q:=yg sc.names n [] (.inl h)
 exact Option.isSome_iff_exists.mp q
theorem SS{CX:CXT}{P:ur}{w:vO}{K:Wp}{mg:Str->uL W1}{base:vF}{N ps:Gc Str}{qual:Str}{scope:vx}{f:uN}{cd:W1}{A:vN}{outer:Gc Env}{s s1:uM}{H:Hp}{E:XK}{us:Gc W1}{vs:Gc V}(S:AQ N ps scope)(hd:A.handled=uK)(e0:jS P w K mg base A outer s H)(hl:vs.length=ps.length)(r:Vals vs us)(x:InCallC s s.heap.objs.size (bindL (envOfC qual scope s.heap.objs.size f cd).kindOf (ps.zip us) λ_=>uK) (cellsFrom (s.heap.objs.size+1) scope.names []) (bindC (envOfC qual scope s.heap.objs.size f cd).kindOf (ps.zip us) λ_=>uK) s1):Inv (M9 CX P w K mg base N qual scope f cd A outer s H E) [] (start N vs) H s1:=by
 have hpl:ps.length<=N.length:=by have:=congrArg xp S.pre;rw[yy]at this;lia
 obtain⟨h1,tk,rfl,hk⟩:=x.done
 have noA:∀b:uN,b∉(M9 CX P w K mg base N qual scope f cd A outer s H E).ex:=λb z=>absurd (show b∈([]:Gc uN)from z) (by simp)
 refine⟨⟨e0.mod,S.kind,rfl,rfl,uV _,λy z c h1 h2=>?_,λy hy=>?_,λy c _ h=>?_,λ_=>hd,AAx e0.frames,.inr ⟨rfl,rfl⟩,λb z=>absurd z (noA b),e0.bs,e0.bsz,λb _ _=>noA b,λb z=>absurd z (noA b),e0.VP,e0.frf⟩,
  rfl,e0.bare,Un.kept hk,⟨_,x.toInCall.ns,λi y v h1 h2 h3=>?_⟩,λy c h=>⟨_,x.cell y c h⟩,e0.hok.fresh (uV _),λy c h=>?_,λp hp=>absurd (show p∈([]:Gc (uN×Obj))from hp) (by simp),e0.hok.kept hk,?_⟩
 .exact name_of_addr x.apart (vV h1) (vV h2)
 .have hy:scope.names.lookup y=Fk .cell\/scope.names.lookup y=Fk .free:=hy
  rcases hy with hy|hy
  .exact Nu hy
  .exact absurd rfl (S.jY _ (vV hy))
 .exact zI (x.above y c (vV h))
 .have hi:i<vs.length:=by
   unfold start at h2
   by_cases hi:i<vs.length
   .exact hi
   .rw[vQ (by simpa using hi)]at h2
    rw[AAC]at h2
    split at h2<;>cases h2
  have ha:vs[i]?=Fk v:=by
   unfold start at h2
   rw[uP (by simpa using hi),uY]at h2
   cases e:vs[i]? with
   |none=>rw[e]at h2;cases h2
   |some a=>rw[e]at h2;cases h2;rfl
  obtain⟨u,hu,rv⟩:=r.get ha
  have hp:ps[i]?=Fk y:=by
   rw[<-S.pre,List.getElem?_take_of_lt (by lia)];exact h1
  have ndP:ps.Nodup:=by rw[<-S.pre];exact S.nd.sublist (List.take_sublist _ _)
  refine⟨u,rv,?_⟩
  rcases S.par y (uh hp)with k|k
  .exact .inl ⟨k,Rj ndP hp hu k⟩
  .obtain⟨c,e⟩:=Nu (n:=s.heap.objs.size+1) k
   refine .inr ⟨.inl k,c,e,?_⟩
   have q:=x.cell y c e
   rw[Su ndP hp hu (by show scope.names.lookup y≠_;rw[k];decide)]at q
   exact q
 .exact e0.hok.fresh (zI (x.above y c (vV h)))
 .unfold start
  show _=N.length
  rw[vm,vT,List.length_replicate]
  lia
theorem gn{CX:CXT}{P:ur}{w:vO}{K:Wp}{mg:Str->uL W1}{base:vF}{k:Nat}{f:uN}{name qual:Str}{params:zQ}{body:Gc vJ}{scope:vx}{dV kV doc pm cdv ct oc:W1}{an od:uL uN}{osl:vY (uL W1)}{N ps:Gc Str}{sp:Sp}(lk:K.lookup f=Fk ⟨oc,od,.func (xq name qual params body scope dV kV doc pm an cdv ct),osl⟩)(hcd:zV K cdv qual=true)(S:AQ N ps scope)(len:∀vs H Q E,sp vs H Q E->vs.length=ps.length)(hbody:∀(A:vN) (outer:Gc Env) (s:uM) (H:Hp) (vs:Gc V) (Q:VK) (E:XK),IB k (A.deeper (envOfC qual scope s.heap.objs.size f cdv))->sp vs H Q E->∃t,PSs (M9 CX P w K mg base N qual scope f cdv A outer s H E) body t/\t {nx:=λ_ H'=>Q .non H',rt:=Q} (start N vs) H):VN P w K mg base CX (k+1) f (xq name qual params body scope dV kV doc pm an cdv ct) ps sp:=by
 refine⟨len,λA outer s H args us vs Q E hr e0 hb r hsp=>?_⟩
 have hl:=len _ _ _ _ hsp
 have KX:K.In s.heap:=e0.mod.kin.keeps λb o e=>(e0.bs b o e).1
 have lim:s.heap.NoLimit:=e0.mod.nolimit.keeps λb o e=>(e0.bs b o e).1
 have hkind:∀y∈ps.zip us,scope.names.lookup y.1=Fk .local\/(scope.names.lookup y.1=Fk .cell/\((cellsFrom (s.heap.objs.size+1) scope.names []).lookup y.1).isSome=true):=λ⟨n,v⟩ hy=>by
  rcases S.par n (wF hy).1 with q|q
  .exact .inl q
  .exact .inr ⟨q,yg _ _ _ (.inl q)⟩
 refine AAo hr.depth (KX _ _ lk) rfl S.co S.gen rfl (ABV KX hcd) (hb _ _ _ _ ?_)
 refine zW S.kind hkind λenv he s1 x=>?_
 subst he
 refine⟨lim.keeps x.toInCall.keep,codeAny_func ?_⟩
 obtain⟨t,ht,hq⟩:=hbody A outer s H vs Q E (hr.deeper _) hsp
 have I:Inv (M9 CX P w K mg base N qual scope f cdv A outer s H E) [] (start N vs) H s1:=SS S hr.hd e0 hl r x
 refine wK (ht [] s1 (start N vs) H _ I hq) (λfl s' hs=>?_) λe s' hs=>hs
 have fin:∀{σ':St} {H':Hp} {v:V} {u:W1},Inv (M9 CX P w K mg base N qual scope f cdv A outer s H E) [] σ' H' s'->RelV v u->Q v H'->CE outer P w H s Q u s':=
  λ{σ' H' v u} J rv q=>⟨v,H',J.os,J.bare,J.base,J.hok,rv,q⟩
 cases fl with
 |ret u=>
  obtain⟨v,σ',H',J,rv,q⟩:=hs
  exact fin J rv q
 |next=>
  obtain⟨σ',H',J,q⟩:=hs
  exact fin (v:=V.non) (u:=vz) J rfl q
 |brk=>
  obtain⟨_,_,_,q⟩:=hs
  exact wL q
 |cont=>
  obtain⟨_,_,_,q⟩:=hs
  exact wL q
end L2
namespace L2
open PySem PySem.Spec PyProof.Rows
section
variable{X:Cx}{x:Str}{p pos:Pos}{e:uu}{es:Gc uu}{t:TA}{id T:xI}{r:Gc V->Hp->VK->Prop}
noncomputable def tCB(r:Gc V->Hp->VK->Prop)(t:TA):TE:=λσ H Q=>t σ H λvs H1=>r vs H1 Q
theorem bu(hc:Fd X (.builtin id) r)(hg:Gl X x)(hm:X.mg x=uK)(hv:bootBuiltins x=Fk (.builtin id))(ha:PA X (e::es) t)(hn:x≠ "__name__":=by decide)(hdb:(x==("__debug__":Str))=false:=by decide)(he:uo (e::es) X.env=(false,eval e X.env)::uo es X.env:=by rfl)(hpl:(backTo pos (uo es X.env)).any (·.1)=false:=by rfl):PE X (.Call (.Name x p) (e::es) [] pos) (tCB r t):=by
 intro pins s σ H Q I h
 refine wB (Mn I hg hm hv ?_ hn hdb)
 exact PyProof.Rows.callWith_builtin1 (thn (ha pos pins s σ H _ I h) λus s1 ⟨vs,H1,I1,r1,q1⟩=>hc pins s1 σ H1 vs us Q I1 r1 q1) he hpl
theorem X5(hc:Fd X (.type T) r)(hg:Gl X x)(hm:X.mg x=uK)(hv:bootBuiltins x=Fk (.type T))(ha:PA X (e::es) t)(hn:x≠ "__name__":=by decide)(hdb:(x==("__debug__":Str))=false:=by decide)(he:uo (e::es) X.env=(false,eval e X.env)::uo es X.env:=by rfl)(hpl:(backTo pos (uo es X.env)).any (·.1)=false:=by rfl):PE X (.Call (.Name x p) (e::es) [] pos) (tCB r t):=by
 intro pins s σ H Q I h
 refine wB (Mn I hg hm hv ?_ hn hdb)
 exact wW (thn (ha pos pins s σ H _ I h) λus s1 ⟨vs,H1,I1,r1,q1⟩=>hc pins s1 σ H1 vs us Q I1 r1 q1) he hpl
end
end L2
namespace HT
open PySem PyProof.Rows
section
open PySem.SeqAt
open PySem.AutoSeq1 (wpAny_loadPart')
open PySem.MeetsSeq PySem.MeetsSeq2 PySem.MeetsSeq3
end
section
variable{prog:ur}{w:vO}{A:vN}{E:W1->uM->Prop}{s:uM}
theorem fw{t b:uN}{vs ws:Gc W1}{Q:W1->uM->Prop}(ht:IsTup s.heap t vs.toArray)(hb:IsTup s.heap b ws.toArray)(hv:vs≠[])(h1:ws=[]->Q (.ref t) s)(h2:ws≠[]->Q (.ref s.heap.objs.size) {s with heap:=s.heap.push {cls:=.type "tuple",data:=.seq (vs++ws).toArray}})(hsz:vs.length+ws.length<=sizeLine):wpAny (model prog w) A (binaryOp .Add (.ref t) (.ref b)) Q E s:=by
 obtain⟨⟨cls,dd,data,sl⟩,ho,hc,n,hd⟩:=id ht
 obtain⟨⟨cls2,dd2,data2,sl2⟩,ho2,hc2,n2,hd2⟩:=id hb
 simp only at hc hd hc2 hd2
 subst hc hd hc2 hd2
 have e:vs.toArray++ws.toArray=(vs++ws).toArray:=by simp
 by_cases hw:ws=[]
 .exact concat_meets ⟨_,ho,rfl⟩ ⟨_,ho2,rfl⟩ AAD ABP yh ya (yQ _ _)
   (tuple_addW1 t b vs.toArray ws.toArray n n2 dd dd2 sl sl2 (by simpa using hv) (by simp[hw])) ⟨ho,ho2,h1 hw⟩
 .refine concat_meets ⟨_,ho,rfl⟩ ⟨_,ho2,rfl⟩ AAD ABP yh ya (yQ _ _)
   (tuple_addW2 t b vs.toArray ws.toArray n n2 dd dd2 sl sl2 (by simpa using hv) (by simpa using hw) (by rw[ue,ue];exact hsz)) ⟨ho,ho2,?_⟩
  rw[e]
  exact h2 hw
noncomputable def sIx(n d:Nat):uL Int->Nat
 |none=>d
 |some v=>if v<0 then(v+(n:Int)).toNat else min v.toNat n
theorem UN(n d k:Nat):sIx n d (Fk (k:Int))=min k n:=by
 show(if(k:Int)<0 then((k:Int)+(n:Int)).toNat else min (k:Int).toNat n)=min k n
 rw[vP (by lia),x8]
theorem kG(n d:Nat)(hd:d<=n)(o:uL Int):sIx n d o<=n:=by
 cases o with
 |none=>exact hd
 |some v=>
  show(if v<0 then(v+(n:Int)).toNat else min v.toNat n)<=n
  by_cases hv:v<0
  .rw[vM hv];lia
  .rw[vP hv];exact Nat.min_le_right _ _
theorem XE(v:Int)(n d:Nat):(if v<0 then max (v+(n:Int)) 0 else min v (n:Int))=((sIx n d (Fk v):Nat):Int):=by
 show(if v<0 then max (v+(n:Int)) 0 else min v (n:Int))=(((if v<0 then(v+(n:Int)).toNat else min v.toNat n):Nat):Int)
 by_cases hv:v<0
 .simp only[vM hv];lia
 .simp only[vP hv];lia
theorem V2(lo hi:uL Int)(n:Nat):wJ lo hi 1 (n:Int)=(((sIx n 0 lo:Nat):Int),((sIx n n hi:Nat):Int)):=by
 have h1:¬((1:Int)<0):=by lia
 unfold wJ
 simp only[h1,zX]
 refine Prod.ext ?_ ?_
 .cases lo with
  |none=>rfl
  |some v=>exact XE v n 0
 .cases hi with
  |none=>rfl
  |some v=>exact XE v n n
theorem Vq(i j:Nat):vj (i:Int) (j:Int) 1=j-i:=by
 unfold vj
 have h1:(1:Int)>0:=by lia
 simp only[h1,yi,Int.ediv_one]
 split<;>lia
theorem QQ{v:W1}{o:uL Int}{Q:uL Int->uM->Prop}(p:AAR v o)(h:Q o s):wpAny (model prog w) A (Builtin.Slice.slicePartIndex v) Q E s:=by
 cases p with
 |none=>exact zY h
 |int i t=>exact slicePart_int h
theorem Jg{sl:uN}{vl vu:W1}{lo hi:uL Int}{n:Nat}{Q:Int×Int×Nat->uM->Prop}(hs:s.heap.IsSliceOf sl vl vu .none)(pl:AAR vl lo)(pu:AAR vu hi)(h:Q (((sIx n 0 lo:Nat):Int),1,sIx n n hi-sIx n 0 lo) s):wpAny (model prog w) A (xK (.ref sl) (pure (n:Int))) Q E s:=by
 obtain⟨os,hos,hcs,hds⟩:=id hs
 unfold xK zp
 refine uI (uI (wM hos hds (x:=vl) rfl (uI (wM hos hds (x:=vu) rfl (uI (wM hos hds (x:=.none) rfl (uZ ?_)))))))
 refine uI (zY ?_)
 show wpAny _ _ (if((1:Int)==0)=true then _ else _) _ _ s
 rw[vP (by decide)]
 refine uI (QQ pl (uI (QQ pu (uI (uZ ?_)))))
 show wpAny _ _ (match wJ lo hi 1 (n:Int)with|(lo,hi)=>pure (lo,(1:Int),vj lo hi 1)) _ _ s
 rw[V2 lo hi n]
 show wpAny _ _ (pure (((sIx n 0 lo:Nat):Int),(1:Int),vj ((sIx n 0 lo:Nat):Int) ((sIx n n hi:Nat):Int) 1)) _ _ s
 rw[Vq]
 exact uZ h
theorem ZW(xs:vY W1)(i k:Nat):((uc k).filterMap λ(m:Nat)=>xs[((i:Int)+(m:Int)*1).toNat]?).toArray=((xs.toList.drop i).take k).toArray:=by
 have e:(λ(m:Nat)=>xs[((i:Int)+(m:Int)*1).toNat]?)=λm=>xs[i+m]?:=by
  funext m
  have:((i:Int)+(m:Int)*1).toNat=i+m:=by lia
  rw[this]
 rw[e]
 have:=pick_run xs i k
 rw[List.filterMap_map]at this
 have e2:((λx=>xs[x]?)∘λx=>i+x)=λm=>xs[i+m]?:=rfl
 rw[e2]at this
 rw[this]
theorem MT{t sl:uN}{items:vY W1}{vl vu:W1}{lo hi:uL Int}{Q:W1->uM->Prop}(ht:IsTup s.heap t items)(hs:s.heap.IsSliceOf sl vl vu .none)(pl:AAR vl lo)(pu:AAR vu hi)(hw:¬(sIx items.size 0 lo=0/\sIx items.size items.size hi=items.size))(h:Q (.ref s.heap.objs.size) {s with heap:=s.heap.push {cls:=.type "tuple",data:=.seq ((items.toList.drop (sIx items.size 0 lo)).take (sIx items.size items.size hi-sIx items.size 0 lo)).toArray}})(hsz:items.size<=sizeLine):wpAny (model prog w) A (getItem (.ref t) (.ref sl)) Q E s:=by
 have htake:sizeOk (.seq ((items.toList.drop (sIx items.size 0 lo)).take (sIx items.size items.size hi-sIx items.size 0 lo)).toArray):=by
  show((items.toList.drop (sIx items.size 0 lo)).take (sIx items.size items.size hi-sIx items.size 0 lo)).toArray.size<=sizeLine
  rw[ue,yy,AAE,zG]
  lia
 have hj:sIx items.size items.size hi<=items.size:=kG _ _ (uV _) hi
 obtain⟨os,hos,hcs,hds⟩:=id hs
 have hTs:s.TypeIs (.ref sl) "slice":=⟨os,hos,hcs⟩
 unfold getItem
 try with_reducible refine wX ?_
 first|refine uI (uZ ?_)|skip
 refine uI (zu ht.typeIs (by decide) ?_)
 refine uI (v5 (name:=vw "__getitem__") ht.typeIs vE
  (wV vE ht.typeIs zH ?_ (zZ _ _)))
 show wpAny _ _ (yC (.ref t) >>= _) _ _ s
 refine uI (ABQ ht ?_)
 refine uI (AAS hTs ?_)
 rw[vM (by decide)]
 refine uI (Jg hs pl pu ?_)
 have hno:¬((((sIx items.size 0 lo:Nat):Int)==0 && (1:Int)==1 && (sIx items.size items.size hi-sIx items.size 0 lo)==items.size)=true):=by
  intro q
  rw[ub,ub]at q
  have q1:((sIx items.size 0 lo:Nat):Int)=0:=eq_of_beq q.1.1
  have q2:sIx items.size items.size hi-sIx items.size 0 lo=items.size:=eq_of_beq q.2
  exact hw ⟨by lia,by lia⟩
 show wpAny _ _ (if(((sIx items.size 0 lo:Nat):Int)==0 && (1:Int)==1 && (sIx items.size items.size hi-sIx items.size 0 lo)==items.size)=true then _ else _) _ _ s
 rw[vP hno,ZW]
 first
  |exact uI (m:=vn _) (v3 (uZ ⟨_,rfl,uZ h⟩) htake)
  |exact uI (m:=vn _) (v3 (uI (uZ (uZ ⟨_,rfl,uZ h⟩))) htake)
  |exact uI (uI (m:=vn _) (v3 (uZ (uZ ⟨_,rfl,uZ h⟩)) htake))
  |exact uI (uI (m:=vn _) (v3 (uZ ⟨_,rfl,uZ h⟩) htake))
end
end HT
namespace L2
open PySem PySem.Spec PyProof.Rows
abbrev TO:=St->Hp->(uL Int->Hp->Prop)->Prop
def PO(X:Cx)(e:uL uu)(t:TO):Prop:=
 ∀(pins:Gc (uN×Obj)) (s:uM) (σ:St) (H:Hp) (Q:uL Int->Hp->Prop),Inv X pins σ H s->t σ H Q->
  wpAny (model X.prog X.w) X.A (evalPart e X.env) (λu s'=>∃o H',Inv X pins σ H' s'/\AAR u o/\Q o H') X.xe s
noncomputable def eQ:TO:=λ_ H Q=>Q uK H
noncomputable def oH(t:TE):TO:=λσ H Q=>t σ H λx H1=>∃i,x=.int i/\Q (Fk i) H1
theorem intsAre_of{ns:Gc Int}:∀{us:Gc W1},Vals (ns.map V.int) us->yR us ns:=by
 induction ns with
 |nil=>intro us r;rw[wG]at r;cases r;exact .nil
 |cons n ns ih=>
  intro us r
  rw[uv]at r
  cases r with
  |cons r1 r2=>
   obtain⟨t,e⟩:=r1
   subst e
   exact .cons n t (ih r2)
section
variable{X:Cx}{e:uu}{te:TE}{lo hi:uL uu}{tl th:TO}{pos p2:Pos}
theorem WJ:PO X uK eQ:=by
 intro pins s σ H Q I h
 rw[ABR]
 exact uZ ⟨uK,H,I,.none,h⟩
theorem Qg(h:PE X e te):PO X (Fk e) (oH te):=by
 intro pins s σ H Q I hw
 rw[evalPart_some]
 refine thn (h pins s σ H _ I hw) λu s1 ⟨x,H1,I1,r1,q1⟩=>?_
 obtain⟨i,rfl,q⟩:=q1
 obtain⟨t,rfl⟩:=r1
 exact⟨Fk i,H1,I1,.int i t,q⟩
def SlR(X:Cx)(r:V->uL Int->uL Int->Hp->VK->Prop):Prop:=
 ∀(pins:Gc (uN×Obj)) (s:uM) (σ:St) (H:Hp) (x:V) (v vl vu:W1) (lo hi:uL Int) (sl:uN) (Q:VK),Inv X pins σ H s->RelV x v->s.heap.IsSliceOf sl vl vu .none->AAR vl lo->AAR vu hi->r x lo hi H Q->
  ∃T id,typeLookup (.type T) "__getitem__"=pure (Fk (.builtin id))/\s.TypeIs v T/\wpAny (model X.prog X.w) X.A (getItem v (.ref sl)) (EP X pins σ Q) X.xe s
noncomputable def tSl(r:V->uL Int->uL Int->Hp->VK->Prop)(te:TE)(tl th:TO):TE:=λσ H Q=>te σ H λx H1=>tl σ H1 λl H2=>th σ H2 λu H3=>r x l u H3 Q
theorem Q4{r:V->uL Int->uL Int->Hp->VK->Prop}(hr:SlR X r)(he:PE X e te)(hl:PO X lo tl)(hu:PO X hi th):PE X (.Subscript e (.Slice lo hi uK p2) pos) (tSl r te tl th):=by
 intro pins s σ H Q I h
 refine AAt (thn (he pins s σ H _ I h) λv s1 ⟨x,H1,I1,r1,q1⟩=>?_)
 refine wpAny_Slice (thn (hl pins s1 σ H1 _ I1 q1) λvl s2 ⟨l,H2,I2,pl,q2⟩=>thn (hu pins s2 σ H2 _ I2 q2) λvu s3 ⟨u,H3,I3,pu,q3⟩=>?_)
 rw[ABR]
 refine uZ ?_
 have I4:Inv X pins σ H3 {s3 with heap:=s3.heap.push {cls:=.type "slice",data:=.fields #[vl,vu,.none]}}:=I3.kept (t':=s3.toks) λb ob q=>uJ _ q
 obtain⟨T,id,hT,ht,hg⟩:=hr pins {s3 with heap:=s3.heap.push {cls:=.type "slice",data:=.fields #[vl,vu,.none]}} σ H3 x v vl vu l u s3.heap.objs.size Q I4 r1 (ABW ..) pl pu q3
 show wpAny (model X.prog X.w) X.A (subscriptTail e (.Slice lo hi uK p2) v (.ref s3.heap.objs.size)) (EP X pins σ Q) X.xe {s3 with heap:=s3.heap.push {cls:=.type "slice",data:=.fields #[vl,vu,.none]}}
 exact tail_any (ops:=[.ref s3.heap.objs.size,v]) ht hT hg (by with_unfolding_all rfl)
noncomputable def dB(xs:Gc V)(lo hi:uL Int):Gc V:=(xs.drop (HT.sIx xs.length 0 lo)).take (HT.sIx xs.length xs.length hi-HT.sIx xs.length 0 lo)
theorem OJ(xs:Gc V)(lo hi:uL Int):(dB xs lo hi).length<=xs.length:=by
 unfold dB
 rw[yy,AAE]
 lia
def sO(K:Wp):V->uL Int->uL Int->Hp->VK->Prop:=λx lo hi H Q=>∃a xs,x=.ref a/\SqT K H a xs/\
 ¬(HT.sIx xs.length 0 lo=0/\HT.sIx xs.length xs.length hi=xs.length)/\∀p,H p=uK->Q (.ref p) (upd H p (.tup (dB xs lo hi)))
theorem ky:SlR X (sO X.K):=by
 intro pins s σ H x v vl vu lo hi sl Q I rx hs pl pu h
 obtain⟨a,xs,rfl,hx,hw,q⟩:=h
 cases rx
 obtain⟨its,r,ht,hz⟩:=I.tuple hx
 have hlen:its.toArray.size=xs.length:=by rw[ue];exact r.length.symm
 refine⟨"tuple",_,vE.lookup,ht.typeIs,?_⟩
 refine HT.MT ht hs pl pu (by rw[hlen];exact hw) ?_ (by rw[hlen];exact hz)
 rw[hlen]
 refine⟨.ref s.heap.objs.size,_,I.laid (t':=s.toks) (o:=.tup (dB xs lo hi)) (λb ob q=>uJ _ q) (uV _) ?_,rfl,q _ (I.hok.fresh (uV _))⟩
 exact⟨uW (OJ xs lo hi) hz,_,(r.drop (HT.sIx xs.length 0 lo)).take (HT.sIx xs.length xs.length hi-HT.sIx xs.length 0 lo),xf _ _⟩
noncomputable def pS(K:Wp):R2:=λx y H Q=>∃a b xs ys,x=.ref a/\y=.ref b/\SqT K H a xs/\SqT K H b ys/\xs≠[]/\xs.length+ys.length<=sizeLine/\
 (ys=[]->Q (.ref a) H)/\(ys≠[]->∀p,H p=uK->Q (.ref p) (upd H p (.tup (xs++ys))))
theorem Vals.Qj{xs:Gc V}{us:Gc W1}(r:Vals xs us):us=[]↔xs=[]:=by
 cases r with
 |nil=>simp
 |cons _ _=>simp
theorem gJ:OpR X (binaryOp .Add) (pS X.K):=by
 intro pins s σ H x y v u Q I rx ry h
 obtain⟨a,b,xs,ys,rfl,rfl,ha,hb,hx,hz,q1,q2⟩:=h
 cases rx
 cases ry
 obtain⟨its,r1,p1,_⟩:=I.tuple ha
 obtain⟨its2,r2,p2,_⟩:=I.tuple hb
 refine HT.fw p1 p2 (λz=>hx (r1.Qj.mp z)) (λz=>⟨.ref a,H,I,rfl,q1 (r2.Qj.mp z)⟩) (λz=>?_) (by rw[<-r1.length,<-r2.length];exact hz)
 refine⟨.ref s.heap.objs.size,_,I.laid (t':=s.toks) (o:=.tup (xs++ys)) (λb ob q=>uJ _ q) (uV _) ?_,rfl,q2 (λw=>z (r2.Qj.mpr w)) _ (I.hok.fresh (uV _))⟩
 exact⟨by rw[vm];exact hz,_,r1.append r2,xf _ _⟩
end
end L2
namespace L2
open PySem PySem.Spec PyProof.Rows
noncomputable def ixN(n:Nat)(i:Int):uL Nat:=if 0<=i then(if i<n then Fk i.toNat else uK)else if-(n:Int)<=i then Fk (i+n).toNat else uK
noncomputable def atI{α:Type}(xs:Gc α)(i:Int):uL α:=(ixN xs.length i).bind λj=>xs[j]?
theorem XA{n:Nat}{i:Int}{j:Nat}(h:ixN n i=Fk j):seqIndex? i n=Fk j/\j<n/\ -(n:Int)<=i/\i<n:=by
 unfold ixN at h
 by_cases h0:0<=i
 .rw[vM h0]at h
  by_cases h1:i<n
  .rw[vM h1]at h
   have e:i.toNat=j:=vg h
   exact⟨by rw[seqIndex_of h0 h1,e],by lia,by lia,h1⟩
  .rw[vP h1]at h;cases h
 .rw[vP h0]at h
  by_cases h1: -(n:Int)<=i
  .rw[vM h1]at h
   have e:(i+n).toNat=j:=vg h
   exact⟨by rw[seqIndex_neg (by lia) h1,e],by lia,h1,by lia⟩
  .rw[vP h1]at h;cases h
theorem Yd{α:Type}{xs:Gc α}{i:Int}{v:α}(h:atI xs i=Fk v):∃j,seqIndex? i xs.length=Fk j/\xs[j]?=Fk v/\j<xs.length/\ -(xs.length:Int)<=i/\i<xs.length:=by
 unfold atI at h
 cases e:ixN xs.length i with
 |none=>rw[e]at h;cases h
 |some j=>
  rw[e]at h
  obtain⟨h1,h2,h3,h4⟩:=XA e
  exact⟨j,h1,h,h2,h3,h4⟩
theorem dj{α:Type}{xs:Gc α}{j:Nat}{v:α}(h:xs[j]?=Fk v):atI xs (j:Int)=Fk v:=by
 have hj:j<xs.length:=(uU.mp h).1
 have e:ixN xs.length (j:Int)=Fk j:=by
  unfold ixN
  rw[vM (by lia),vM (by lia)];simp
 unfold atI;rw[e];exact h
theorem RO{α:Type}(xs:Gc α)(v:α):atI (xs++[v]) (-1)=Fk v:=by
 have hl:(xs++[v]).length=xs.length+1:=by simp
 have e:ixN (xs++[v]).length (-1)=Fk xs.length:=by
  unfold ixN
  rw[hl,vP (by decide),vM (by lia)]
  congr 1
  lia
 unfold atI
 rw[e]
 show(xs++[v])[xs.length]?=Fk v
 simp
def X3(b:uu):Prop:=∀o i,subscripted b false o i=operate [o,i] (getItem o i)
def IxR(X:Cx)(r:R2):Prop:=
 ∀(value slice:uu) (pins:Gc (uN×Obj)) (s:uM) (σ:St) (H:Hp) (x y:V) (v u:W1) (Q:VK),Inv X pins σ H s->RelV x v->RelV y u->r x y H Q->
  subscripted slice false v u=operate [v,u] (getItem v u)->wpAny (model X.prog X.w) X.A (subscriptTail value slice v u) (EP X pins σ Q) X.xe s
def MtR(X:Cx)(id:xI)(r:V->Gc V->Hp->VK->Prop):Prop:=
 ∀(pins:Gc (uN×Obj)) (s:uM) (σ:St) (H:Hp) (x:V) (xs:Gc V) (v:W1) (us:Gc W1) (Q:VK),Inv X pins σ H s->RelV x v->Vals xs us->r x xs H Q->
  wpAny (model X.prog X.w) X.A (call (.builtin id) (v::us)) (EP X pins σ Q) X.xe s
section
variable{X:Cx}{a b:uu}{ta tb:TE}{pos:Pos}
theorem nW{r:R2}(hr:IxR X r)(ha:PE X a ta)(hb:PE X b tb)(hs:X3 b):PE X (.Subscript a b pos) (tOp r ta tb):=by
 intro pins s σ H Q I h
 exact AAt (nS ha hb I h λv u s2 x y H2 I2 rx ry q=>hr a b pins s2 σ H2 x y v u Q I2 rx ry q (hs _ _))
noncomputable def rJ(K:Wp):R2:=λx y H Q=>∃p xs i v,x=.ref p/\y=.int i/\SqL K H p xs/\atI xs i=Fk v/\Q v H
noncomputable def sS(K:Wp):R2:=λx y H Q=>∃p xs i v,x=.ref p/\y=.int i/\SqT K H p xs/\atI xs i=Fk v/\Q v H
theorem fI:IxR X (rJ X.K):=by
 intro value slice pins s σ H x y v u Q I rx ry h hs
 obtain⟨p,xs,i,z,rfl,rfl,hq,he,q⟩:=h
 cases rx
 obtain⟨t,rfl⟩:=ry
 obtain⟨its,r,pl,hz⟩:=I.list hq
 obtain⟨j,h1,h2,h3,h4,h5⟩:=Yd he
 obtain⟨w,ew,rw'⟩:=r.get h2
 have hl:=r.length
 have hn:=SD
 have fin:EP X pins σ Q w s:=⟨z,H,I,rw',q⟩
 by_cases h0:0<=i
 .have hj:i.toNat=j:=by
   rw[seqIndex_of h0 h5]at h1
   exact vg h1
  exact item_listR pl.isList h0 (by lia) (by rw[hj];simpa using ew) fin hs
 .have hj:(i+(its.toArray.size:Int)).toNat=j:=by
   rw[seqIndex_neg (by lia) h4]at h1
   rw[ue,<-hl]
   exact vg h1
  exact AAT (x:=w) pl.isList.typeIs slot_list_getitem.lookup
   (wpAny_getItem_list_neg (Q:=λr s'=>r=w/\EP X pins σ Q r s') pl.isList (by lia) (by rw[ue]<;>lia) (by lia) (by rw[hj];simpa using ew) ⟨rfl,fin⟩) hs
theorem jU:IxR X (sS X.K):=by
 intro value slice pins s σ H x y v u Q I rx ry h hs
 obtain⟨p,xs,i,z,rfl,rfl,hq,he,q⟩:=h
 cases rx
 obtain⟨t,rfl⟩:=ry
 obtain⟨its,r,pl,hz⟩:=I.tuple hq
 obtain⟨j,h1,h2,h3,h4,h5⟩:=Yd he
 obtain⟨w,ew,rw'⟩:=r.get h2
 have hl:=r.length
 have hn:=SD
 have fin:EP X pins σ Q w s:=⟨z,H,I,rw',q⟩
 exact AAT (x:=w) pl.typeIs vE.lookup
  (getItem_tuple (j:=j) (Q:=λr s'=>r=w/\EP X pins σ Q r s') pl (by lia) (by lia) (by rw[ue,<-hl];exact h1) (by simpa using ew) ⟨rfl,fin⟩) hs
theorem Ve(its:Gc W1)(n j:Nat)(u:W1):zb (·.setIfInBounds j u) {cls:=.type "list",data:=.seq its.toArray n}={cls:=.type "list",data:=.seq (its.set j u).toArray n}:=by
 simp[zb]
theorem Inv.lst{pins:Gc (uN×Obj)}{σ:St}{H:Hp}{s:uM}{p:uN}{xs:Gc V}(I:Inv X pins σ H s)(h:H p=Fk (.lst xs)):∃(its:Gc W1) (n:Nat),Vals xs its/\s.heap.get? p=Fk {cls:=.type "list",data:=.seq its.toArray n}/\xs.length<=sizeLine:=by
 obtain⟨z,its,n,r,e⟩:=I.hok p _ h
 exact⟨its,n,r,e,z⟩
theorem Inv.jt{pins:Gc (uN×Obj)}{σ:St}{H:Hp}{s:uM}{p:uN}{xs ys:Gc V}{its its':Gc W1}{n n':Nat}{f:Obj->Obj}(I:Inv X pins σ H s)(h:H p=Fk (.lst xs))(ho:s.heap.get? p=Fk {cls:=.type "list",data:=.seq its.toArray n})(hf:f {cls:=.type "list",data:=.seq its.toArray n}={cls:=.type "list",data:=.seq its'.toArray n'})(r:Vals ys its')(hz:ys.length<=sizeLine)(t:Nat):Inv X pins σ (upd H p (.lst ys)) {s with heap:=s.heap.update p f,toks:=t}:=by
 have e:(s.heap.update p f).get? p=Fk {cls:=.type "list",data:=.seq its'.toArray n'}:=by
  rw[AAp f ho (by rw[hf]<;>rfl),hf]
 refine I.write (x:=p) (e:=p) (by rw[h];trivial) (.inl rfl) (λb u hb q=>(xr _ _ (wR hb)).trans q) ⟨_,e⟩ ?_
 exact⟨hz,its',n',r,e⟩
def pT:V->V->V->Hp->(Hp->Prop)->Prop:=λo i v H Q=>∃p xs k j,o=.ref p/\i=.int k/\H p=Fk (.lst xs)/\ixN xs.length k=Fk j/\Q (upd H p (.lst (xs.set j v)))
theorem set_list:qd X pT:=by
 intro pins s σ H o i v ov iv u Q I ro ri rv h
 obtain⟨p,xs,k,j,rfl,rfl,hp,hj,q⟩:=h
 cases ro
 obtain⟨t,rfl⟩:=ri
 obtain⟨its,n,r,ho,hz⟩:=I.lst hp
 obtain⟨h1,h2,h3,h4⟩:=XA hj
 have hl:=r.length
 have hn:=SD
 have I':Inv X pins σ (upd H p (.lst (xs.set j v))) {s with heap:=s.heap.update p (zb (·.setIfInBounds j u))}:=
  I.jt hp ho (Ve its n j u) (r.set rv j) (by rw[xE];exact hz) s.toks
 by_cases h0:0<=k
 .have hk:k.toNat=j:=by
   rw[seqIndex_of h0 h4]at h1
   exact vg h1
  exact PySem.W.ki_setAt ho h0 (by lia) (by rw[ue,<-hl];exact h4) (by rw[hk];exact⟨_,I',q⟩)
 .have hk:(k+(its.toArray.size:Int)).toNat=j:=by
   rw[seqIndex_neg (by lia) h3]at h1
   rw[ue,<-hl]
   exact vg h1
  exact PySem.W.ki_setBack ho (by lia) (by rw[ue,<-hl];exact h3) (by lia) (by rw[hk];exact⟨_,I',q⟩)
theorem Rc(lo hi:uL Int)(n:Nat):(sliceBounds lo hi uK n).1=((HT.sIx n 0 lo:Nat):Int)/\(sliceBounds lo hi uK n).2.1=((HT.sIx n n hi:Nat):Int)/\(sliceBounds lo hi uK n).2.2=1:=by
 refine⟨?_,?_,rfl⟩
 .cases lo with
  |none=>simp[sliceBounds,HT.sIx]
  |some i=>
   simp only[sliceBounds,HT.sIx,Option.getD_none,show(1:Int)>0 by decide,yi]
   by_cases h:i<0
   .simp only[h,yi]<;>lia
   .simp only[h,zX]<;>lia
 .cases hi with
  |none=>simp[sliceBounds,HT.sIx]
  |some i=>
   simp only[sliceBounds,HT.sIx,Option.getD_none,show(1:Int)>0 by decide,yi]
   by_cases h:i<0
   .simp only[h,yi]<;>lia
   .simp only[h,zX]<;>lia
theorem Qx(its:Gc W1)(lo hi:uL Int):slicePick its.toArray lo hi uK=((its.drop (HT.sIx its.length 0 lo)).take (HT.sIx its.length its.length hi-HT.sIx its.length 0 lo)).toArray:=by
 obtain⟨h1,h2,h3⟩:=Rc lo hi its.toArray.size
 unfold slicePick
 rw[h1,h2,h3]
 simp only[sliceRange_one,pick_run,ue]<;>rfl
def sE(K:Wp):V->uL Int->uL Int->Hp->VK->Prop:=λx lo hi H Q=>∃a xs,x=.ref a/\SqL K H a xs/\∀p,H p=uK->Q (.ref p) (upd H p (.lst (dB xs lo hi)))
theorem dz:SlR X (sE X.K):=by
 intro pins s σ H x v vl vu lo hi sl Q I rx hs pl pu h
 obtain⟨a,xs,rfl,hx,q⟩:=h
 cases rx
 obtain⟨its,r,ht,hz⟩:=I.list hx
 have hlen:=r.length
 refine⟨"list",_,slot_list_getitem.lookup,ht.isList.typeIs,?_⟩
 refine wpAny_getItem_list_slice ht.isList hs pl pu .none (by simp) ?_ (by rw[ue]<;>lia)
 rw[Qx,<-hlen]
 refine⟨.ref s.heap.objs.size,_,I.laid (t':=s.toks) (o:=.lst (dB xs lo hi)) (λb ob q=>uJ _ q) (uV _) ?_,rfl,q _ (I.hok.fresh (uV _))⟩
 exact⟨uW (OJ xs lo hi) hz,_,0,(r.drop (HT.sIx xs.length 0 lo)).take (HT.sIx xs.length xs.length hi-HT.sIx xs.length 0 lo),uq _ rfl⟩
noncomputable def Pg:V->vL
 | .non=>true
 | .bl _=>true
 | .int _=>true
 | .str _=>true
 |_=>false
noncomputable def eqV:V->V->vL
 | .non,.non=>true
 | .bl a,.bl b=>a==b
 | .bl a,.int b=>(if a then 1 else 0)==b
 | .int a,.bl b=>a==(if b then 1 else 0)
 | .int a,.int b=>a==b
 | .str a,.str b=>a==b
 |_,_=>false
theorem kB{A:vN}{s:uM}{y x:V}{u v:W1}(ry:RelV y u)(rx:RelV x v)(fy:Pg y=true)(fx:Pg x=true):SeqAt.EqAt A s u v (eqV y x):=by
 cases y with
 |non=>
  cases ry
  cases x with
  |non=>cases rx;exact SeqAt.EqAt.same _
  |bl b=>cases rx;exact SeqAt.EqAt.none_bool b
  |int b=>obtain⟨t,rfl⟩:=rx;exact SeqAt.EqAt.none_int b t
  |str b=>obtain⟨t,rfl⟩:=rx;exact SeqAt.EqAt.none_str b t
  |_=>exact absurd (show false=true from fx) va
 |bl a=>
  cases ry
  cases x with
  |non=>cases rx;exact SeqAt.EqAt.bool_none a
  |bl b=>cases rx;exact SeqAt.EqAt.bool_bool a b
  |int b=>obtain⟨t,rfl⟩:=rx;exact SeqAt.EqAt.bool_int a b t
  |str b=>obtain⟨t,rfl⟩:=rx;exact SeqAt.EqAt.bool_str a b t
  |_=>exact absurd (show false=true from fx) va
 |int a=>
  obtain⟨t',rfl⟩:=ry
  cases x with
  |non=>cases rx;exact SeqAt.EqAt.int_none a t'
  |bl b=>cases rx;exact SeqAt.EqAt.int_bool a t' b
  |int b=>obtain⟨t,rfl⟩:=rx;exact SeqAt.EqAt.int_int a t' b t
  |str b=>obtain⟨t,rfl⟩:=rx;exact ABS a t' b t
  |_=>exact absurd (show false=true from fx) va
 |str a=>
  obtain⟨t',rfl⟩:=ry
  cases x with
  |non=>cases rx;exact SeqAt.EqAt.str_none a t'
  |bl b=>cases rx;exact SeqAt.EqAt.str_bool a t' b
  |int b=>obtain⟨t,rfl⟩:=rx;exact ABT a t' b t
  |str b=>obtain⟨t,rfl⟩:=rx;exact SeqAt.EqAt.str_str a t' b t
  |_=>exact absurd (show false=true from fx) va
 |_=>exact absurd (show false=true from fy) va
noncomputable def eqU(x:V)(u:W1):vL:=match u with
 | .none=>eqV .non x
 | .bool b=>eqV (.bl b) x
 | .int i _=>eqV (.int i) x
 | .str z _=>eqV (.str z) x
 |_=>false
theorem cu{x y:V}{u:W1}(r:RelV y u)(f:Pg y=true):eqU x u=eqV y x:=by
 cases y with
 |non=>cases r;rfl
 |bl b=>cases r;rfl
 |int i=>obtain⟨t,rfl⟩:=r;rfl
 |str z=>obtain⟨t,rfl⟩:=r;rfl
 |_=>exact absurd (show false=true from f) va
theorem N5{x:V}:∀{xs:Gc V} {us:Gc W1},Vals xs us->xs.all Pg=true->us.any (eqU x)=xs.any λy=>eqV y x
 |_,_,.nil,_=>rfl
 |y::xs,u::us,.cons r t,f=>by
  rw[xG,ub]at f
  rw[xH,xH,cu r f.1,N5 t f.2]
theorem Ln{A:vN}{s:uM}{x:V}{v:W1}(rx:RelV x v)(fx:Pg x=true):∀{xs:Gc V} {us:Gc W1},Vals xs us->xs.all Pg=true->∀u∈us,SeqAt.EqAt A s u v (eqU x u)
 |_,_,.nil,_=>λu hu=>by cases hu
 |y::xs,u::us,.cons r t,f=>λu' hu=>by
  rw[xG,ub]at f
  rcases uQ.mp hu with rfl|hu
  .rw[cu r f.1];exact kB r rx f.1 fx
  .exact Ln rx fx t f.2 u' hu
noncomputable def inV(x:V)(xs:Gc V):vL:=xs.any λy=>eqV y x
noncomputable def rIn(K:Wp)(neg:vL):R2:=λx y H Q=>∃p xs,y=.ref p/\(SqL K H p xs\/SqT K H p xs)/\Pg x=true/\xs.all Pg=true/\Q (.bl (if neg then !inV x xs else inV x xs)) H
theorem YD:OpR X (compareOp .In) (rIn X.K false):=by
 intro pins s σ H x y v u Q I rx ry h
 obtain⟨p,xs,rfl,hq,fx,fs,q⟩:=h
 cases ry
 rcases hq with hq|hq
 .obtain⟨its,r,pl,hz⟩:=I.list hq
  refine SeqAt.in_listAt (eqU x) pl.isList (λw hw=>Ln rx fx r fs w (by simpa using hw)) ⟨.bl _,H,I,rfl,?_⟩
  rw[show its.toArray.any (eqU x)=its.any (eqU x) by simp,N5 r fs]
  exact q
 .obtain⟨its,r,pl,hz⟩:=I.tuple hq
  refine SeqAt.in_tupleAt (eqU x) pl (λw hw=>Ln rx fx r fs w (by simpa using hw)) ⟨.bl _,H,I,rfl,?_⟩
  rw[show its.toArray.any (eqU x)=its.any (eqU x) by simp,N5 r fs]
  exact q
theorem Rg:OpR X (compareOp .NotIn) (rIn X.K true):=by
 intro pins s σ H x y v u Q I rx ry h
 obtain⟨p,xs,rfl,hq,fx,fs,q⟩:=h
 cases ry
 rcases hq with hq|hq
 .obtain⟨its,r,pl,hz⟩:=I.list hq
  refine SeqAt.notIn_listAt (eqU x) pl.isList (λw hw=>Ln rx fx r fs w (by simpa using hw)) ⟨.bl _,H,I,rfl,?_⟩
  rw[show its.toArray.any (eqU x)=its.any (eqU x) by simp,N5 r fs]
  exact q
 .obtain⟨its,r,pl,hz⟩:=I.tuple hq
  refine SeqAt.notIn_tupleAt (eqU x) pl (λw hw=>Ln rx fx r fs w (by simpa using hw)) ⟨.bl _,H,I,rfl,?_⟩
  rw[show its.toArray.any (eqU x)=its.any (eqU x) by simp,N5 r fs]
  exact q
theorem TJ:Fd X (.builtin "len") (λxs H Q=>∃p ys,xs=[.ref p]/\(SqL X.K H p ys\/SqT X.K H p ys)/\Q (.int ys.length) H):=by
 intro pins s σ H xs us Q I r h
 obtain⟨p,ys,rfl,hq,q⟩:=h
 obtain⟨u,rfl,rx⟩:=vals1 r
 cases rx
 have hn:=SD
 rcases hq with hq|hq
 .obtain⟨its,r',pl,hz⟩:=I.list hq
  have hlen:=r'.length
  exact Calls.call_len_list pl.isList (by simp only[ue]<;>lia) ⟨.int ys.length,H,I.tok _,⟨s.toks+1,by rw[ue,hlen]⟩,q⟩
 .obtain⟨its,r',pl,hz⟩:=I.tuple hq
  have hlen:=r'.length
  exact len_tuple pl (by simp only[ue]<;>lia) ⟨.int ys.length,H,I.tok _,⟨s.toks+1,by rw[ue,hlen]⟩,q⟩
theorem SH:Fd X (.builtin "len") (λxs H Q=>∃z,xs=[.str z]/\z.length<=sizeLine/\Q (.int z.length) H):=by
 intro pins s σ H xs us Q I r h
 obtain⟨z,rfl,hz,q⟩:=h
 obtain⟨u,rfl,t,rfl⟩:=vals1 r
 have hn:=SD
 exact len_str (by lia) ⟨.int z.length,H,I.tok _,⟨_,rfl⟩,q⟩
theorem R7:Fd X (.type "list") (λxs H Q=>∃p ys,xs=[.ref p]/\(SqL X.K H p ys\/SqT X.K H p ys)/\∀l,H l=uK->Q (.ref l) (upd H l (.lst ys))):=by
 intro pins s σ H xs us Q I r h
 obtain⟨p,ys,rfl,hq,q⟩:=h
 obtain⟨u,rfl,rx⟩:=vals1 r
 cases rx
 have fin:∀(its:Gc W1),Vals ys its->ys.length<=sizeLine->∀(h':vF) (c':Nat),(∀b o',s.heap.get? b=Fk o'->h'.get? b=Fk o')->
   h'.get? s.heap.objs.size=Fk {cls:=.type "list",dict:=uK,data:=.seq its.toArray c',slots:= #[]}->EP X pins σ Q (.ref s.heap.objs.size) {s with heap:=h'}:=λits r' hz h' c' kp e=>
  ⟨.ref s.heap.objs.size,_,I.laid (t':=s.toks) kp (uV _) (show ES X.prog X.w _ h' _ (.lst ys)from⟨hz,its,c',r',e⟩),rfl,q _ (I.hok.fresh (uV _))⟩
 rcases hq with hq|hq
 .obtain⟨its,r',pl,hz⟩:=I.list hq
  have hlen:=r'.length
  obtain⟨o,ho,hc,n,hd⟩:=pl.isList
  exact call_list_seq p (.inl rfl) ho hc hd (λh' c' kp e=>fin its r' hz h' c' kp e) (by simp only[ue]<;>lia)
 .obtain⟨its,r',pl,hz⟩:=I.tuple hq
  have hlen:=r'.length
  obtain⟨o,ho,hc,n,hd⟩:=pl
  exact call_list_seq p (.inr rfl) ho hc hd (λh' c' kp e=>fin its r' hz h' c' kp e) (by simp only[ue]<;>lia)
theorem Q6:Fd X (.type "tuple") (λxs H Q=>∃p ys,xs=[.ref p]/\((SqL X.K H p ys/\∀l,H l=uK->Q (.ref l) (upd H l (.tup ys)))\/(SqT X.K H p ys/\Q (.ref p) H))):=by
 intro pins s σ H xs us Q I r h
 obtain⟨p,ys,rfl,h⟩:=h
 obtain⟨u,rfl,rx⟩:=vals1 r
 cases rx
 rcases h with⟨hq,q⟩|⟨hq,q⟩
 .obtain⟨its,r',pl,hz⟩:=I.list hq
  have hlen:=r'.length
  refine call_tuple_list pl.isList (λh' kp=>?_) (by simp only[ue]<;>lia)
  have I1:Inv X pins σ H {s with heap:=h'}:=I.kept (t':=s.toks) kp
  have I2:Inv X pins σ (upd H h'.objs.size (.tup ys)) {s with heap:=h'.push {cls:=.type "tuple",data:=.seq its.toArray}}:=
   I1.laid (t':=s.toks) (λb o e=>uJ _ e) (uV _) (show ES X.prog X.w _ _ _ (.tup ys)from⟨hz,its,r',xf _ _⟩)
  exact⟨.ref h'.objs.size,_,I2,rfl,q _ (I1.hok.fresh (uV _))⟩
 .obtain⟨its,r',pl,hz⟩:=I.tuple hq
  exact call_tuple_same pl ⟨.ref p,H,I,rfl,q⟩
def tyV(K:Wp)(T:xI)(x:V)(H:Hp):Prop:=match x with
 | .str _=>T="str"
 | .int _=>T="int"
 | .ref p=>(T="list" /\∃xs,SqL K H p xs)\/(T="tuple" /\∃o,K.lookup p=Fk o/\o.cls=.type "tuple" /\o.dict=uK)∨
    (T="dict" /\((∃kvs,H p=Fk (.dK kvs))\/∃kvs,H p=Fk (.dT kvs)))\/(T="set" /\∃S n,H p=Fk (.set S n))
 |_=>xB
theorem c8{pins:Gc (uN×Obj)}{σ:St}{H:Hp}{s:uM}{T:xI}{x:V}{v:W1}(I:Inv X pins σ H s)(r:RelV x v)(ty:tyV X.K T x H):s.TypeIs v T/\∀a,v=.ref a->∃ob,s.heap.get? a=Fk ob/\ob.dict=none:=by
 cases x with
 |str z=>
  obtain⟨t,rfl⟩:=r
  cases (show T="str" from ty)
  exact⟨zc s z t,λ_ e=>nomatch e⟩
 |int i=>
  obtain⟨t,rfl⟩:=r
  cases (show T="int" from ty)
  exact⟨yD s i t,λ_ e=>nomatch e⟩
 |ref p=>
  cases r
  rcases ty with⟨rfl,xs,hq⟩|⟨rfl,o,hk,hc,hd⟩|⟨rfl,hk⟩|⟨rfl,S,n,hk⟩
  .obtain⟨its,_,pl,_⟩:=I.list hq
   refine⟨pl.isList.typeIs,λa e=>?_⟩
   cases e
   obtain⟨o,n,e,c,hd,_⟩:=pl
   exact⟨o,e,hd⟩
  .refine⟨⟨o,I.kIn p o hk,hc⟩,λa e=>?_⟩
   cases e
   exact⟨o,I.kIn _ o hk,hd⟩
  .have z:∃o,s.heap.get? p=Fk o/\o.ExactDict:=by
    rcases hk with⟨kvs,hk⟩|⟨kvs,hk⟩
    .obtain⟨_,_,_,_,o,_,_,e,ex,_⟩:=I.hok p _ hk
     exact⟨o,e,ex⟩
    .obtain⟨_,_,_,_,o,_,_,e,ex,_⟩:=I.hok p _ hk
     exact⟨o,e,ex⟩
   obtain⟨o,e,ex⟩:=z
   refine⟨⟨o,e,ex.1⟩,λa e2=>?_⟩
   cases e2
   exact⟨o,e,ex.2.1⟩
  .obtain⟨o,_,_,_,e,ex,_⟩:=I.hok p _ hk
   refine⟨⟨o,e,ex.1⟩,λa e2=>?_⟩
   cases e2
   exact⟨o,e,ex.2.1⟩
 |_=>exact wL ty
noncomputable def rS(K:Wp)(T:xI)(r:V->Gc V->Hp->VK->Prop)(to:TE):TE:=λσ H Q=>to σ H λx H1=>tyV K T x H1/\r x [] H1 Q
noncomputable def tBM(K:Wp)(T:xI)(r:V->Gc V->Hp->VK->Prop)(to:TE)(t:TA):TE:=λσ H Q=>to σ H λx H1=>tyV K T x H1/\t σ H1 λxs H2=>r x xs H2 Q
variable{o e:uu}{es:Gc uu}{to:TE}{t:TA}{name:Str}{apos cpos:Pos}{T id:xI}{r:V->Gc V->Hp->VK->Prop}
theorem jI(pa:PlainAttrs T)(slot:Slot T name id)(hty:typeOf (.builtin id)=pure (.type "method_descriptor"))(hm:MtR X id r)(ho:PE X o to)(hbase:attributeBase o name X.env (eval o X.env)=eval o X.env:=by rfl)(hline:(apos.endLine==cpos.line)=true:=by rfl):PE X (.Call (.Attribute o name apos) [] [] cpos) (rS X.K T r to):=by
 intro pins s σ H Q I h
 refine wpAny_Call_method0_late hbase hline (thn (ho pins s σ H _ I h) λv s1 ⟨x,H1,I1,r1,ty,q1⟩=>?_)
 obtain⟨h1,h2⟩:=c8 I1 r1 ty
 exact⟨T,id,pa,slot,hty,h1,h2,AAU rfl (PySem.evalArgs_none (hm pins s1 σ H1 x [] v [] Q I1 r1 .nil q1))⟩
theorem nT(pa:PlainAttrs T)(slot:Slot T name id)(hty:typeOf (.builtin id)=pure (.type "method_descriptor"))(hm:MtR X id r)(ho:PE X o to)(ha:PA X (e::es) t)(hbase:attributeBase o name X.env (eval o X.env)=eval o X.env:=by rfl)(hfew:((backTo cpos (uo (e::es) X.env)).all (λx=> !x.1) && (backToKw cpos (keywordEach [] X.env)).all (λx=>x.1.isSome) && decide ((e::es).length+([]:Gc zt).length+(if([]:Gc zt).isEmpty then 0 else 1)<30))=true:=by rfl)(hline:(apos.endLine==cpos.line)=true:=by rfl)(hs:uo (e::es) X.env=(false,eval e X.env)::uo es X.env:=by rfl)(hplain:(backTo cpos (uo es X.env)).any (·.1)=false:=by rfl):PE X (.Call (.Attribute o name apos) (e::es) [] cpos) (tBM X.K T r to t):=by
 intro pins s σ H Q I h
 refine wpAny_Call_method_late hbase hfew hline rfl (thn (ho pins s σ H _ I h) λv s1 ⟨x,H1,I1,r1,ty,q1⟩=>?_)
 obtain⟨h1,h2⟩:=c8 I1 r1 ty
 refine⟨T,id,pa,slot,hty,h1,h2,?_⟩
 have hA:=ha cpos pins s1 σ H1 _ I1 q1
 rw[hs]at hA⊢
 refine AAU (by show(false||(backTo cpos (uo es X.env)).any (·.1))=false;rw[hplain]<;>rfl) (AAy ?_)
 exact thn hA λus s2 ⟨vs,H2,I2,r2,q2⟩=>hm pins s2 σ H2 x vs v us Q I2 r1 r2 q2
end
end L2
namespace L2
open PySem PySem.Spec PyProof.Rows
def MtM(X:Cx)(id:xI)(r:V->Gc V->Hp->VK->Prop):Prop:=
 ∀(pins:Gc (uN×Obj)) (s:uM) (σ:St) (H:Hp) (x:V) (xs:Gc V) (v:W1) (us:Gc W1) (Q:VK),Inv X pins σ H s->RelV x v->Vals xs us->r x xs H Q->
  wpAny (model X.prog X.w) X.A (call (.builtin id) (v::us)) (EP X pins σ Q) X.xe s
theorem Vals.one:∀{x:V} {us:Gc W1},Vals [x] us->∃u,us=[u]/\RelV x u:=λh=>by
 cases h with
 |cons r t=>cases t;exact⟨_,rfl,r⟩
theorem Vals.two:∀{x y:V} {us:Gc W1},Vals [x,y] us->∃u v,us=[u,v]/\RelV x u/\RelV y v:=λh=>by
 cases h with
 |cons r t=>
  cases t with
  |cons q t=>cases t;exact⟨_,_,rfl,r,q⟩
theorem Vals.rep{xs:Gc V}{us:Gc W1}(h:Vals xs us):∀k:Nat,Vals (um k xs).flatten (um k us).flatten
 |0=>.nil
 |k+1=>by
  rw[wd,wd,xV,xV]
  exact Vals.append h (Vals.rep h k)
theorem foldl_rep(its:Gc W1):∀(k:Nat) (acc:Gc W1),ABX (λx1 x2=>x1++x2) acc.toArray (um k its.toArray)=(acc++(um k its).flatten).toArray
 |0,acc=>by simp
 |k+1,acc=>by
  have e:acc.toArray++its.toArray=(acc++its).toArray:=by simp
  have e2:(acc++its)++(um k its).flatten=acc++(um (k+1) its).flatten:=by
   rw[wd,xV,yj]
  rw[<-e2,<-foldl_rep its k (acc++its),<-e,wd,List.foldl_cons]
section
variable{X:Cx}{pins:Gc (uN×Obj)}{σ:St}{H:Hp}{s:uM}{l b:uN}{xs ys zs:Gc V}
theorem Inv.qA{its its':Gc W1}{n:Nat}{f:vY W1->vY W1}{t':Nat}(I:Inv X pins σ H s)(hH:H l=Fk (.lst xs))(e:s.heap.get? l=Fk {cls:=.type "list",data:=.seq its.toArray n})(hf:f its.toArray=its'.toArray)(hv:Vals ys its')(hz:ys.length<=sizeLine):Inv X pins σ (upd H l (.lst ys)) {s with heap:=s.heap.update l (zb f),toks:=t'}:=by
 have q:=PySem.IsL.update e f
 rw[hf]at q
 refine I.write (x:=l) (e:=l) (by rw[hH];exact trivial) (.inl rfl) (λb' u hb hu=>(xr s.heap (zb f) (wR hb)).trans hu) ⟨_,q⟩ ?_
 exact⟨hz,its',_,hv,q⟩
theorem Inv.rF{its:Gc W1}{t':Nat}(I:Inv X pins σ H s)(hv:Vals ys its)(hz:ys.length<=sizeLine):Inv X pins σ (upd H s.heap.objs.size (.lst ys)) {s with heap:=s.heap.push {cls:=.type "list",data:=.seq its.toArray},toks:=t'}:=
 I.laid (λ_ _ q=>uJ _ q) (uV _) ⟨hz,its,0,hv,uq _ rfl⟩
theorem Inv.fresh(I:Inv X pins σ H s):H s.heap.objs.size=none:=I.hok.fresh (uV _)
theorem Inv.dS(I:Inv X pins σ H s)(hH:H l=Fk (.lst xs)):xs.length<=sizeLine/\∃(its:Gc W1) (n:Nat),Vals xs its/\xs.length=its.length/\s.heap.get? l=Fk {cls:=.type "list",data:=.seq its.toArray n}:=by
 obtain⟨z,its,n,r,e⟩:=I.hok l _ hH
 exact⟨z,its,n,r,r.length,e⟩
theorem Qd{n:Nat}(h:n<=sizeLine):wO n=false:=by
 unfold wO
 exact xS (by lia)
end
section
variable{X:Cx}
def fM:V->Gc V->Hp->VK->Prop:=λx vs H Q=>∃l xs y,x=.ref l/\vs=[y]/\H l=Fk (.lst xs)/\xs.length<sizeLine/\Q .non (upd H l (.lst (xs++[y])))
theorem R4:MtM X "list.append" fM:=by
 intro pins s σ H x vs v us Q I rx rv h
 obtain⟨l,xs,y,rfl,rfl,hH,hz,q⟩:=h
 cases rx
 obtain⟨u,rfl,ru⟩:=rv.one
 obtain⟨z,its,n,r,hl,e⟩:=I.dS hH
 refine xF vA ⟨_,e,rfl⟩ F.entry_list_append (F.args_list_append_2 _ _) (PySem.list_append l its.toArray n u (by rw[ue];lia)) ⟨e,?_⟩
 refine⟨.non,_,I.qA (its':=its++[u]) hH e (by simp) (r.append (.cons ru .nil)) ?_,rfl,q⟩
 rw[vm,AAq]
 lia
def d6:V->Gc V->Hp->VK->Prop:=λx vs H Q=>∃l b xs zs,x=.ref l/\vs=[.ref b]/\H l=Fk (.lst xs)/\H b=Fk (.lst zs)/\xs.length+zs.length<=sizeLine/\Q .non (upd H l (.lst (xs++zs)))
theorem Wf:MtM X "list.extend" d6:=by
 intro pins s σ H x vs v us Q I rx rv h
 obtain⟨l,b,xs,zs,rfl,rfl,hH,hB,hz,q⟩:=h
 cases rx
 obtain⟨u,rfl,ru⟩:=rv.one
 cases ru
 obtain⟨z,its,n,r,hl,e⟩:=I.dS hH
 obtain⟨z2,its2,n2,r2,hl2,e2⟩:=I.dS hB
 have hsz:its.toArray.size+its2.toArray.size<=sizeLine:=by rw[ue,ue];lia
 have hlong:¬(!its.toArray.isEmpty && wO (its.toArray.size+its2.toArray.size))=true:=by
  rw[Qd hsz,AAz]
  exact va
 refine xF y9 ⟨_,e,rfl⟩ ABI (AA0 _ _)
  (AutoSeq1.list_extend_list_list_0 l its.toArray n b its2.toArray n2 hlong (by rw[ue];lia) (by lia)) ⟨e,e2,?_⟩
 refine⟨.non,_,I.qA (its':=its++its2) hH e (by simp) (r.append r2) ?_,rfl,q⟩
 rw[vm]
 lia
noncomputable def rO:R2:=λx y H Q=>∃l b xs zs,x=.ref l/\y=.ref b/\H l=Fk (.lst xs)/\H b=Fk (.lst zs)/\xs.length+zs.length<=sizeLine/\∀p,H p=uK->Q (.ref p) (upd H p (.lst (xs++zs)))
theorem ke:OpR X (binaryOp .Add) rO:=by
 intro pins s σ H x y v u Q I rx ry h
 obtain⟨l,b,xs,zs,rfl,rfl,hH,hB,hz,q⟩:=h
 cases rx
 cases ry
 obtain⟨z,its,n,r,hl,e⟩:=I.dS hH
 obtain⟨z2,its2,n2,r2,hl2,e2⟩:=I.dS hB
 refine PySem.P.add_list e e2 ?_ (by rw[ue,ue];lia)
 have ea:its.toArray++its2.toArray=(its++its2).toArray:=by simp
 rw[ea]
 exact⟨.ref _,_,I.rF (t':=s.toks) (r.append r2) (by rw[vm];lia),rfl,q _ I.fresh⟩
noncomputable def rK:R2:=λx y H Q=>∃l k xs,x=.ref l/\y=.int k/\H l=Fk (.lst xs)/\ -(2^63)<=k/\k<2^63/\xs.length*k.toNat<=sizeLine/\
 ∀p,H p=uK->Q (.ref p) (upd H p (.lst (um k.toNat xs).flatten))
theorem len_rep{α:Type}(xs:Gc α)(k:Nat):(um k xs).flatten.length=k*xs.length:=by
 induction k with
 |zero=>simp
 |succ k ih=>rw[wd,xV,vm,ih,Nat.succ_mul,AAV]
theorem kD:OpR X (binaryOp .Mult) rK:=by
 intro pins s σ H x y v u Q I rx ry h
 obtain⟨l,k,xs,rfl,rfl,hH,h1,h2,hz,q⟩:=h
 cases rx
 obtain⟨t,rfl⟩:=ry
 obtain⟨z,its,n,r,hl,e⟩:=I.dS hH
 have hlen:its.toArray.size*k.toNat<=sizeLine:=by rw[ue,<-hl];exact hz
 have hcap:¬its.toArray.size*k.toNat>(2^63-1) / 8:=by
  have:(sizeLine:Nat)<=(2^63-1) / 8:=by decide
  lia
 have hfit:¬(!Builtin.List.listFitsIndex k)=true:=by
  rw[fitsIndex_both h1 h2]
  exact va
 have hlong:¬wO (its.toArray.size*k.toNat)=true:=by
  rw[Qd hlen]
  exact va
 have hnew:ABX (λx1 x2=>x1++x2) #[] (um (if its.toArray.isEmpty=true then 0 else k.toNat) its.toArray)=(um k.toNat its).flatten.toArray:=by
  have f0:∀m:Nat,ABX (λx1 x2=>x1++x2) #[] (um m its.toArray)=(um m its).flatten.toArray:=λm=>by
   have:=foldl_rep its m []
   rw[vH]at this
   exact this
  rw[f0]
  cases its with
  |nil=>simp
  |cons a r'=>rw[vP (by simp)]
 refine yL (T:="list") (U:="int") (by decide) ⟨_,e,rfl⟩ (λs'=>yD s' k t) noFill_list_mul AAf xw repeat_list AAF.lookup
  (xF xw (yD s k t) AAG (zv _ _) (int___rmul___int_list k t l its.toArray n)
    ⟨e,rfl,⟨_,e,rfl⟩,xF F.slot_list_mul ⟨_,e,rfl⟩ F.entry_list_mul (F.args_list_mul_2 _ _) (AutoListH.list___mul___list_int_3 l its.toArray n k t hfit hcap hlong) ⟨e,?_⟩⟩)
 rw[hnew]
 exact⟨.ref _,_,I.rF (t':=s.toks) (r.rep k.toNat) (by rw[len_rep,xW];exact hz),rfl,q _ I.fresh⟩
end
section
variable{prog:ur}{w:vO}{A:vN}{E:W1->uM->Prop}{s:uM}
end
section
variable{X:Cx}
end
end L2
namespace Att
open PySem PySem.W PySem.Calls PyProof.Rows
theorem ints_of_wellAll{P:Params}{h:vF}:∀(ns:Gc Int) (vs:Gc W1),WellAll P h vs (ns.map WData.int)->yR vs ns:=by
 intro ns
 induction ns with
 |nil=>
  intro vs w
  rw[wG]at w
  cases w
  exact .nil
 |cons n ns ih=>
  intro vs w
  rw[uv]at w
  cases w with
  |cons a b=>
   cases a
   exact .cons _ _ (ih _ b)
theorem script_of{l:AAL}{n:Nat}(hn:l.most=Fk n){P:Params}{h:vF}{args:Gc WData}{vals:Gc W1}(hpre:l.row.toRowW.claim.pre args=true)(hwl:WellAll P h vals args):∃a vs ns,vals=[vi a]/\args=[WData.list (ns.map WData.int)]/\h.get? a=Fk {cls:=.type "list",data:=.seq vs.toArray}/\yR vs ns/\ns.length<=n:=by
 have hsh:WShape.hasAll [] args [.list .int]=true:=(pre_splitW hpre).1
 have hc:l.pre.holds [] {args:=args}=true:=(pre_splitW hpre).2
 obtain⟨d,r,rfl,h1,h2⟩:=hasAllW_cons hsh
 obtain rfl:=hasAllW_nil h2
 obtain⟨xs,rfl,h3⟩:=hasW_list h1
 obtain⟨ns,rfl⟩:=items_int h3
 have hlen:ns.length<=n:=by
  unfold OpenLaw.pre at hc
  have h4:(WTm.not (.lt (.lit (.int (n:Int))) (.len (.arg 0)))).holds [] {args:=[.list (ns.map .int)]}=true:=by
   have h4:=(holds_andW hc).1
   rw[hn]at h4
   exact h4
  have h5:=condW_of h4 (w_not (w_lt w_lit (w_len_list (w_arg rfl))))
  rw[vT]at h5
  refine Nat.le_of_not_lt λq=>?_
  have q':(n:Int)<((ns.length:Nat):Int):=by lia
  first
   |(rw[w6 q']at h5;exact absurd h5 (by decide))
   |(simp at h5;lia)
 cases hwl with
 |cons w1 w2=>
  cases w2
  cases w1 with
  |list ho hall=>exact⟨_,_,ns,rfl,rfl,ho,ints_of_wellAll ns _ hall,hlen⟩
theorem post_true(l:AAL)(args:Gc WData):l.row.toRowW.claim.post args (.bool true) args=true:=
 postW_of (r:=l.row.toRowW) (X:=(true==true))
  (show WShape.has [] (.bool true) .bool=true by first|rfl|decide|simp[WShape.has,WShape.arms,WShape.armsAll])
  (show(WTm.eq .res (.lit (.bool true))).value [] {args:=args,res:=Fk (.bool true),after:=args}=Fk (.bool (true==true))from w_eq_bool (w_res rfl) w_lit) rfl
theorem attach_call{l:AAL}{n:Nat}{q:ur}{loose:Gc Str}{XP:(Str->uL W1)->vF->Prop}{YP:vO->vF->Prop}{d:DefRec}(hn:l.most=Fk n)(hdf:d.params.defaults=[])(call:∀(w:vO) (s₀ s₁:uM) (mg mb:Str->uL W1) (fa:uN) (o:Obj) (pm cd doc:W1) (a:uN) (vs:Gc W1) (ns:Gc Int),Ground q loose [] XP w s₀ mg mb s₁.heap->YP w s₁.heap->s₁.heap.get? fa=Fk o->o.data=.func (docDef d.name d.params d.body d.scope pm cd doc)->s₁.heap.CodeRec cd d.name->mg d.name=Fk (.ref fa)->s₁.heap.get? a=Fk {cls:=.type "list",data:=.seq vs.toArray}->yR vs ns->ns.length<=n->s₁.gens= #[]->codeAny (model l.prog w) callerA (.call (.ref fa) ⟨[.ref a],[]⟩) (λr s'=>r=.ok (.ret (.bool true))/\OldK s₁.heap s'.heap/\s'.os=s₁.os/\yZ s'.gens) s₁):WalkO q loose XP YP l.row.toRowW d [] (λf vs=>PySem.call f vs):=by
 intro w s₀ s₁ mg mb G Y fa o pm cd doc dV kV ho hd hcd hD hmg hg args vals as hpre hlay hrd hwl hlo
 obtain rfl:dV=.none:=Dflts.none hD hdf
 obtain rfl:kV=.none:=Dflts.noKw hD
 obtain⟨a,vs,ns,rfl,rfl,hobj,hints,hlen⟩:=script_of hn hpre hwl
 refine enter_call (AAQ (call w s₀ s₁ mg mb fa o pm cd doc a vs ns G Y ho (fd_plain hd) hcd hmg hobj hints hlen hg) λr s' hq=>?_)
 obtain⟨rfl,h2,h3,h4⟩:=hq
 exact⟨.inl ⟨.bool true,.bool true,[],rfl,λ_=>rfl,.bool true,post_true l _,λ_=>⟨List.Pairwise.nil,λ_ hm=>(nomatch hm)⟩⟩,h2,h3,h4⟩
section
variable{prog:ur}{w:vO}{A:vN}{E:W1->uM->Prop}{s:uM}{K:Wp}
end
end Att
namespace L2
open PySem PySem.Spec PyProof.Rows
theorem Sx:∀{vs:Gc W1} {ns:Gc Int},yR vs ns->Vals (ns.map V.int) vs
 |_,_,.nil=>.nil
 |_,_,.cons n t h=>.cons ⟨t,rfl⟩ (Sx h)
end L2
namespace L2
open PySem PySem.Spec PyProof.Rows
abbrev KOf{K:Wp}{h:vF}(_:K.In h):Wp:=K
end L2
namespace L2
open PySem PySem.Spec PyProof.Rows
noncomputable def MS(s:vJ):zQ:=match s with
 | .FunctionDef _ a _ _ _ _ _ _ _ _=>a
 |_=>{posonlyargs:=[],args:=[],vararg:=uK,kwonlyargs:=[],kw_defaults:=[],kwarg:=uK,defaults:=[]}
noncomputable def DJ(s:vJ):Gc vJ:=match s with
 | .FunctionDef _ _ b _ _ _ _ _ _ _=>b
 |_=>[]
noncomputable def AH(s:vJ):vx:=match s with
 | .FunctionDef _ _ _ _ _ _ sc _ _ _=>sc
 |_=>{kind:=.function,names:=[],isGenerator:=false,isCoroutine:=false}
abbrev CX0:CXT:=λ_ _ _ _ _ _=>xB
abbrev E0:XK:=λ_ _ _=>xB
theorem nO{X:Cx}:Passes CX0 X E0:=λ_ _ _ _ _ _ _ h=>h.elim
structure Fun(K:Wp)(x qual:Str)(st:vJ)(f:uN)(fd:wY):Prop where
 ex:∃(oc:W1) (od:uL uN) (kV doc pm:W1) (an:uL uN) (cdv ct:W1) (osl:vY (uL W1)),
  fd=xq x qual (MS st) (DJ st) (AH st) .none kV doc pm an cdv ct/\K.lookup f=Fk ⟨oc,od,.func fd,osl⟩/\zV K cdv qual=true
 kp:wy K (.ref f)=true
section
variable{P:ur}{w:vO}{K:Wp}{mg:Str->uL W1}{base:vF}
theorem Fun.ok{x qual:Str}{st:vJ}{f:uN}{fd:wY}{N ps:Gc Str}{k:Nat}{sp:Sp}(F:Fun K x qual st f fd)(S:AQ N ps (AH st))(len:∀vs H Q E,sp vs H Q E->vs.length=ps.length)(hbody:∀(cdv:W1) (A:vN) (outer:Gc Env) (s:uM) (H:Hp) (vs:Gc V) (Q:VK) (E:XK),IB k (A.deeper (envOfC qual (AH st) s.heap.objs.size f cdv))->sp vs H Q E->∃t,PSs (M9 CX0 P w K mg base N qual (AH st) f cdv A outer s H E).nox (DJ st) t/\t {nx:=λ_ H'=>Q .non H',rt:=Q} (start N vs) H):VN P w K mg base CX0 (k+1) f fd ps sp:=by
 obtain⟨oc,od,kV,doc,pm,an,cdv,ct,osl,rfl,lk,hcd⟩:=F.ex
 refine gn lk hcd S len λA outer s H vs Q E hr hsp=>?_
 obtain⟨t,h,q⟩:=hbody cdv A outer s H vs Q E hr hsp
 exact⟨t,h.nox,q⟩
theorem Fun.binds{x qual:Str}{st:vJ}{f:uN}{fd:wY}{ps:Gc Str}(F:Fun K x qual st f fd)(h:∀(kV doc pm:W1) (an:uL uN) (cdv ct:W1) (us:Gc W1),us.length=ps.length->bindArgs (xq x qual (MS st) (DJ st) (AH st) .none kV doc pm an cdv ct) ⟨us,[]⟩=pure (ps.zip us)):Binds K fd ps []:=by
 obtain⟨oc,od,kV,doc,pm,an,cdv,ct,osl,rfl,lk,hcd⟩:=F.ex
 exact .all (h kV doc pm an cdv ct)
theorem ju{x qual:Str}{st:vJ}{f:uN}{oc:W1}{od an:uL uN}{osl:vY (uL W1)}{kV doc pm cdv ct:W1}(l:K.lookup f=Fk ⟨oc,od,.func (xq x qual (MS st) (DJ st) (AH st) .none kV doc pm an cdv ct),osl⟩)(c:zV K cdv qual=true)(k:wy K (.ref f)=true):Fun K x qual st f (xq x qual (MS st) (DJ st) (AH st) .none kV doc pm an cdv ct):=⟨⟨oc,od,kV,doc,pm,an,cdv,ct,osl,rfl,l,c⟩,k⟩
end
section
variable{X:Cx}
end
theorem hU{A B:Prop}(h:B):if false=true then A else B:=by
 rw[vP va]
 exact h
theorem fO{A B:Prop}(h:A):if true=true then A else B:=by
 rw[vM rfl]
 exact h
def Cj(H H':Hp):Prop:=∀b o,H b=Fk o->H' b=Fk o
end L2
end
noncomputable section
namespace L2
open PySem PySem.Spec PyProof.Rows
noncomputable def HV(cells:Gc (Str×uN)):Gc (Str×xj)->Gc (Str×uN)->Gc (Str×uN)
 | [],cs=>cs
 |(n,k)::r,cs=>if(k==vq)=true then HV cells r ((n,(cells.lookup n).getD 0)::cs)else HV cells r cs
theorem SX{env:Env}:∀(names:Gc (Str×xj)) (cs:Gc (Str×uN)),(∀y∈names,y.2=.free->∃a,env.cells.lookup y.1=Fk a)->(forIn names cs λ(x:Str×xj) r=>match x with|(name,kind)=>if(kind==vq)=true then(do let a<-cellOf env name;pure (zC ((name,a)::r)))else pure (zC r):Sem (Gc (Str×uN)))=pure (HV env.cells names cs)
 | [],cs,_=>by simp[HV]
 |(n,k)::r,cs,h=>by
  rw[AAg]
  have ih:=λcs=>SX r cs λy hy=>h y (uR _ hy)
  by_cases hk:(k==vq)=true
  .obtain⟨a,ha⟩:=h (n,k) uX (by simpa using hk)
   have ha':env.cells.lookup n=Fk a:=ha
   have e:cellOf env n=pure a:=by unfold cellOf;rw[ha']
   simp only[hk,yi,e,pure_bind,HV,ha',Option.getD_some]
   exact ih _
  .simp only[hk,zX,pure_bind,HV]
   exact ih _
theorem Ql{scope:vx}{env:Env}(h:∀y∈scope.names,y.2=.free->∃a,env.cells.lookup y.1=Fk a):closureFor scope env=pure (HV env.cells scope.names []):=by
 unfold closureFor
 have:=SX (env:=env) scope.names [] h
 simp only[bind_pure]at this⊢
 exact this
theorem MA{cells:Gc (Str×uN)}{x:Str}{c:uN}:∀{names:Gc (Str×xj)} {cs:Gc (Str×uN)},(∀y∈names,y.2=.free->∃a,cells.lookup y.1=Fk a)->(HV cells names cs).lookup x=Fk c->cs.lookup x=Fk c\/cells.lookup x=Fk c
 | [],cs,_,h=>.inl h
 |(n,k)::r,cs,hh,h=>by
  have hr:∀y∈r,y.2=.free->∃a,cells.lookup y.1=Fk a:=λy hy=>hh y (uR _ hy)
  unfold HV at h
  by_cases hk:(k==vq)=true
  .rw[vM hk]at h
   rcases MA hr h with q|q
   .obtain⟨a,ha⟩:=hh (n,k) uX (by simpa using hk)
    have ha':cells.lookup n=Fk a:=ha
    rw[wH]at q
    cases hx:x==n with
    |true=>
     rw[hx,ha']at q
     have e:x=n:=by simpa using hx
     subst e
     cases q
     exact .inr ha'
    |false=>
     rw[hx]at q
     exact .inl q
   .exact .inr q
  .rw[vP hk]at h
   exact MA hr h
theorem Il{cells:Gc (Str×uN)}{x:Str}:∀{names:Gc (Str×xj)} {cs:Gc (Str×uN)},((x,vq)∈names\/∃c,cs.lookup x=Fk c)->∃c,(HV cells names cs).lookup x=Fk c
 | [],cs,h=>h.elim (λz=>nomatch z) id
 |(n,k)::r,cs,h=>by
  unfold HV
  by_cases hk:(k==vq)=true
  .rw[vM hk]
   refine Il ?_
   by_cases hx:x=n
   .subst hx
    exact .inr ⟨_,by rw[wH,beq_self_eq_true]⟩
   .rcases h with h|⟨c,h⟩
    .rcases uQ.mp h with e|e
     .cases e;exact absurd rfl hx
     .exact .inl e
    .refine .inr ⟨c,?_⟩
     rw[wH,show(x==n)=false by simpa using hx]
     exact h
  .rw[vP hk]
   refine Il ?_
   rcases h with h|h
   .rcases uQ.mp h with e|e
    .cases e;exact absurd rfl hk
    .exact .inl e
   .exact .inr h
theorem NU{env:Env}{x:Str}:∀{names:Gc (Str×xj)},names.lookup x=Fk .free->(names.map λ(n,k)=>if(k==vq && env.scope.kind== .function && env.kindOf n==Fk .cell)then(n,xy)else(n,k)).lookup x=Fk .cell\/(names.map λ(n,k)=>if(k==vq && env.scope.kind== .function && env.kindOf n==Fk .cell)then(n,xy)else(n,k)).lookup x=Fk .free
 | [],h=>by simp at h
 |(n,k)::r,h=>by
  have ih:= @NU env x r
  show List.lookup x ((if(k==vq && env.scope.kind== .function && env.kindOf n==Fk .cell)=true then(n,xy)else(n,k))::_)=_\/List.lookup x ((if(k==vq && env.scope.kind== .function && env.kindOf n==Fk .cell)=true then(n,xy)else(n,k))::_)=_
  cases hx:x==n with
  |true=>
   simp only[wH,hx]at h
   cases h
   by_cases hc:(vq==vq && env.scope.kind== .function && env.kindOf n==Fk .cell)=true
   .rw[vM hc];simp only[wH,hx];exact .inl trivial
   .rw[vP hc];simp only[wH,hx];exact .inr trivial
  |false=>
   simp only[wH,hx]at h
   by_cases hc:(k==vq && env.scope.kind== .function && env.kindOf n==Fk .cell)=true
   .rw[vM hc];simp only[wH,hx];exact ih h
   .rw[vP hc];simp only[wH,hx];exact ih h
theorem OG{env:Env}{scope:vx}{x:Str}{k':xj}(hk:k'=.cell\/k'=.free)(h:(relabel scope env).names.lookup x=Fk k'):(x,vq)∈scope.names\/(x,xy)∈scope.names:=by
 have hm:=vV h
 obtain⟨⟨n,k⟩,hy,e⟩:=ux.mp (show(x,k')∈scope.names.map _ from hm)
 by_cases hc:(k==vq && env.scope.kind== .function && env.kindOf n==Fk .cell)=true
 .simp only[hc,yi]at e
  cases e
  have:k=.free:=by
   have:=((ub _ _).mp hc).1
   exact ABY.mp ((ub _ _).mp this).1
  subst this
  exact .inl hy
 .simp only[hc,zX]at e
  cases e
  rcases hk with rfl|rfl
  .exact .inr hy
  .exact .inl hy
theorem Ci:∀(names:Gc (Str×xj)) (n:Nat) (cs:Gc (Str×uN)),cellsFrom n names cs=cellsFrom n names []++cs
 | [],_,_=>rfl
 |(x,k)::r,n,cs=>by
  unfold cellsFrom
  split
  .rw[Ci r _ ((x,n)::cs),Ci r _ [(x,n)]];simp
  .exact Ci r n cs
theorem JJ{x:Str}{c:uN}:∀{names:Gc (Str×xj)} {n:Nat},(x,c)∈cellsFrom n names []->(x,xy)∈names
 | [],_,h=>nomatch h
 |(y,k)::r,n,h=>by
  unfold cellsFrom at h
  split at h
  .rename_i hk
   rw[Ci]at h
   rcases uk.mp h with z|z
   .exact uR _ (JJ z)
   .have e:=uy.mp z
    cases e
    rw[ABY.mp hk]
    exact uX
  .exact uR _ (JJ h)
theorem MQ{M:Model}{A:vN}{E:W1->uM->Prop}{s:uM}{scope:vx}{globals:uN}{cl:Gc (Str×uN)}{qual:Str}{env:Env}{Q:Env->uM->Prop}(hQ:∀h':vF,h'.Ns s.heap.objs.size (λ_=>uK)->(∀b o,s.heap.get? b=Fk o->h'.get? b=Fk o)->CellsOk h' (s.heap.objs.size+1) (cellsFrom (s.heap.objs.size+1) scope.names [])->Q (newEnv scope s.heap.objs.size globals (cellsFrom (s.heap.objs.size+1) scope.names cl) qual uK .none (Fk env) builtinsNs) {s with heap:=h'}):wpAny M A (newFunctionEnv scope globals cl [] qual uK .none (Fk env)) Q E s:=by
 simp only[newFunctionEnv,Option.isSome_some,yi]
 refine uI (wpAny_alloc ?_)
 refine uI (wpAny_layCells _ (λname kind cells=>by cases hkc:kind==xy<;>simp[hkc]) _ _ _ _ ?_)
 have ok:=cellsFrom_ok scope.names (s.heap.push {cls:=.type "dict",data:=.dict #[]}) (s.heap.objs.size+1) [] ⟨λ_ _ hm=>(nomatch hm),List.Pairwise.nil⟩ (by rw[wC];exact uV _)
 rw[wC]at ok
 rw[show({s with heap:=s.heap.push {cls:=.type "dict",data:=.dict #[]}}:uM).heap.objs.size=s.heap.objs.size+1 from wC ..]
 rw[AA1]
 refine uI (uZ (uZ ?_))
 exact hQ _ ((Heap.Ns.new s.heap (.type "dict")).keeps (pushCells_keeps _ _)) (λb o e=>pushCells_keeps _ _ b o (uJ _ e)) ok
end L2
end
noncomputable section
namespace L2
open PySem PySem.Spec PyProof.Rows
noncomputable def VR(N:Gc Str)(osc scope:vx):Gc Str->Gc (uL Nat)->vL
 | [],[]=>true
 |_::r,uK::q=>VR N osc scope r q
 |x::r,Fk i::q=>decide (N[i]?=Fk x) && (decide (osc.names.lookup x=Fk .cell)||decide (osc.names.lookup x=Fk .free)) && decide (scope.names.lookup x=Fk .free) && VR N osc scope r q
 |_,_=>false
theorem XR{N:Gc Str}{osc scope:vx}:∀{N':Gc Str} {ix:Gc (uL Nat)},VR N osc scope N' ix=true->ix.length=N'.length
 | [],[],_=>rfl
 |_::r,uK::q,h=>by
  unfold VR at h
  simp[XR h]
 |x::r,Fk i::q,h=>by
  unfold VR at h
  have:=((ub _ _).mp h).2
  simp[XR this]
 | [],_::_,h=>by simp[VR]at h
 |_::_,[],h=>by simp[VR]at h
theorem eS{N:Gc Str}{osc scope:vx}:∀{N':Gc Str} {ix:Gc (uL Nat)},VR N osc scope N' ix=true->∀{j i:Nat} {x:Str},N'[j]?=Fk x->ix[j]?=Fk (Fk i)->N[i]?=Fk x/\(osc.names.lookup x=Fk .cell\/osc.names.lookup x=Fk .free)/\scope.names.lookup x=Fk .free
 | [],[],_,j,_,_,h,_=>by simp at h
 |_::r,uK::q,h,j,i,x,h1,h2=>by
  unfold VR at h
  cases j with
  |zero=>simp at h2
  |succ j=>exact eS h (by simpa using h1) (by simpa using h2)
 |y::r,Fk k::q,h,j,i,x,h1,h2=>by
  unfold VR at h
  obtain⟨ha,hr⟩:=(ub _ _).mp h
  obtain⟨ha,h3⟩:=(ub _ _).mp ha
  obtain⟨h4,h5⟩:=(ub _ _).mp ha
  cases j with
  |zero=>
   simp at h1 h2
   subst h1 h2
   refine⟨uf h4,?_,uf h3⟩
   rcases(vo _ _).mp h5 with z|z
   .exact .inl (uf z)
   .exact .inr (uf z)
  |succ j=>exact eS hr (by simpa using h1) (by simpa using h2)
 | [],_::_,h,_,_,_,_,_=>by simp[VR]at h
 |_::_,[],h,_,_,_,_,_=>by simp[VR]at h
structure Af(N:Gc Str)(osc:vx)(N':Gc Str)(ix:Gc (uL Nat))(scope:vx):Prop where
 kind:scope.kind=.function
 cells:∀y∈scope.names,y.2=.cell->scope.names.lookup y.1=Fk .cell
 names:∀y∈scope.names,y.2=.local->scope.names.lookup y.1=Fk .local
 free:∀y∈scope.names,y.2=.free->(osc.names.lookup y.1=Fk .cell\/osc.names.lookup y.1=Fk .free)
 ok:VR N osc scope N' ix=true
noncomputable def sig(ix:Gc (uL Nat))(σ:St):St:=ix.map λo=>o.bind λi=>(σ[i]?).join
noncomputable def Jv(X:Cx)(N':Gc Str)(scope:vx)(s:uM)(H:Hp)(fp:Gc uN):Cx where
 prog:=X.prog
 w:=X.w
 K:=X.K
 mg:=X.mg
 base:=X.base
 A:=X.A
 N:=N'
 s₀:=s
 H₀:=H
 env:=compEnvC scope (cellsFrom (s.heap.objs.size+1) scope.names (HV X.env.cells scope.names [])) s.heap.objs.size X.env
 outer:=X.stack
 stack:=X.stack
 ex:=fp
 fn:=λx=>decide (scope.names.lookup x=Fk .cell)
 calm:=true
 pn:=[]
 xe:=λ_ _=>xB
section
variable{X:Cx}{pins:Gc (uN×Obj)}{σ:St}{H:Hp}{s:uM}{N':Gc Str}{ix:Gc (uL Nat)}{scope:vx}{fp:Gc uN}
theorem Inv.cellsOf(I:Inv X pins σ H s)(S:Af X.N X.env.scope N' ix scope):∀y∈scope.names,y.2=.free->∃a,X.env.cells.lookup y.1=Fk a:=λy hy hk=>I.ok.has y.1 (S.free y hy hk)
theorem aI(S:Af X.N X.env.scope N' ix scope)(hc:X.calm=true)(I:Inv X pins σ H s)(hf:∀b∈fp,Tj X pins H b)(hlt:∀b∈fp,b<s.heap.objs.size){h1:vF}{m1:Str->uL W1}{tk:Nat}(hn:h1.Ns s.heap.objs.size m1)(hk:∀b o,s.heap.get? b=Fk o->h1.get? b=Fk o)(hC:CellsOk h1 (s.heap.objs.size+1) (cellsFrom (s.heap.objs.size+1) scope.names [])):Inv (Jv X N' scope s H fp) [] (sig ix σ) H {s with heap:=h1,toks:=tk}:=by
 have hcl:=I.cellsOf S
 have sub:∀{x:Str} {c:uN},(HV X.env.cells scope.names []).lookup x=Fk c->X.env.cells.lookup x=Fk c:=λ{x c} h=>by
  rcases MA hcl h with z|z
  .simp at z
  .exact z
 have old:∀{x:Str} {c:uN},X.env.cells.lookup x=Fk c->c<s.heap.objs.size:=λ{x c} h=>by
  obtain⟨v,oc,ho,_⟩:=I.cell x c h
  exact ui ho
 have look:∀{x:Str} {c:uN},(cellsFrom (s.heap.objs.size+1) scope.names (HV X.env.cells scope.names [])).lookup x=Fk c->(x,c)∈cellsFrom (s.heap.objs.size+1) scope.names []\/X.env.cells.lookup x=Fk c:=λ{x c} h=>by
  rw[Ci,yW]at h
  cases e:(cellsFrom (s.heap.objs.size+1) scope.names []).lookup x with
  |some a=>rw[e]at h;cases h;exact .inl (vV e)
  |none=>rw[e]at h;exact .inr (sub h)
 refine⟨⟨I.ok.mod,S.kind,I.ok.glob,I.ok.blt,uV _,λx y c h1 h2=>?_,λx hx=>?_,λx c hx h=>?_,λ_=>I.ok.hd hc,I.ok.frames,.inl rfl,λb hb=>?_,I.bs,uW I.ok.bsz I.sz,λb o e hb=>?_,λb hb hs=>?_,I.stack,I.T7⟩,
  rfl,I.bare,Un.kept hk,⟨m1,hn,λj x v h1 h2 h3=>?_⟩,λx c h=>?_,I.hok.fresh (uV _),λx c h=>?_,λp hp=>absurd (show p∈([]:Gc (uN×Obj))from hp) (by simp),I.hok.kept hk,?_⟩
 . -- inj
   rcases look h1 with a|a<;>rcases look h2 with b|b
   .exact name_of_addr hC.apart a b
   .exact absurd (uO (old b) (x9 (hC.empty _ _ a).2)) (wD _)
   .exact absurd (uO (old a) (x9 (hC.empty _ _ b).2)) (wD _)
   .exact I.ok.inj x y c a b
 . -- has
   have hx':(relabel scope X.env).names.lookup x=Fk .cell\/(relabel scope X.env).names.lookup x=Fk .free:=hx
   show∃c,(cellsFrom (s.heap.objs.size+1) scope.names (HV X.env.cells scope.names [])).lookup x=Fk c
   rw[Ci,yW]
   cases e:(cellsFrom (s.heap.objs.size+1) scope.names []).lookup x with
   |some a=>exact⟨a,rfl⟩
   |none=>
    rcases(hx'.elim (OG (.inl rfl)) (OG (.inr rfl)))with z|z
    .exact Il (.inl z)
    .obtain⟨c,hc⟩:=Nu (n:=s.heap.objs.size+1) (S.cells _ z rfl)
     rw[e]at hc;cases hc
 . -- cab
   obtain⟨c',hc'⟩:=Nu (n:=s.heap.objs.size+1) (uf hx)
   have h:(cellsFrom (s.heap.objs.size+1) scope.names (HV X.env.cells scope.names [])).lookup x=Fk c:=h
   rw[Ci,yW,hc']at h
   cases h
   exact x9 (hC.empty _ _ (vV hc')).2
 . -- exf
   refine⟨vK (hlt b hb),λx c h=>?_⟩
   rcases look h with a|a
   .exact λe=>absurd (uO (e▸hlt b hb) (x9 (hC.empty _ _ a).2)) (wD _)
   .exact(hf b hb).2.2.2.2.1 x c a
 . -- cQ
   rcases(hf b hb).2.2.2.1 with z|z
   .exact I.ok.cQ b o e z
   .exact absurd (uO (ui (I.ok.bs b o e).1) z) (wD _)
 . -- eD
   rcases uQ.mp (I.Xc b hs)with z|z
   .exact(hf b hb).2.1 z
   .exact(hf b hb).2.2.1 z
 . -- loc
   unfold sig at h2
   rw[uY]at h2
   cases e:ix[j]? with
   |none=>rw[e]at h2;cases h2
   |some o=>
    rw[e]at h2
    cases o with
    |none=>cases h2
    |some i=>
     have h2':(σ[i]?).join=Fk v:=by simpa using h2
     have h4:σ[i]?=Fk (Fk v):=by
      cases e4:σ[i]? with
      |none=>rw[e4]at h2';cases h2'
      |some q=>rw[e4]at h2';exact congrArg Fk h2'
     obtain⟨q1,q2,q3⟩:=eS S.ok h1 e
     obtain⟨m,_,hl⟩:=I.loc
     obtain⟨u,r,l⟩:=hl i x v q1 h4 (q2.elim (λz=>.inr (.inl z)) λz=>.inr (.inr z))
     refine⟨u,r,?_⟩
     rcases l with⟨l,_⟩|⟨_,c,lc,z⟩
     .have l':X.env.scope.names.lookup x=Fk .local:=l
      rcases q2 with z|z<;>(rw[z]at l';cases l')
     .refine .inr ⟨NU q3,?_⟩
      obtain⟨c',hc'⟩:=Il (cells:=X.env.cells) (cs:=[]) (.inl (vV q3))
      have ec:=sub hc'
      rw[lc]at ec
      cases ec
      have no:(cellsFrom (s.heap.objs.size+1) scope.names []).lookup x=none:=by
       cases e:(cellsFrom (s.heap.objs.size+1) scope.names []).lookup x with
       |none=>rfl
       |some a=>
        have q:=S.cells _ (JJ (vV e)) rfl
        rw[q3]at q;cases q
      refine⟨c,(by show(cellsFrom (s.heap.objs.size+1) scope.names (HV X.env.cells scope.names [])).lookup x=Fk c;rw[Ci,yW,no];exact hc'),?_⟩
      obtain⟨oc,ho,hd⟩:=z
      exact⟨oc,hk _ _ ho,hd⟩
 .rcases look h with a|a
  .exact⟨_,(hC.empty _ _ a).1⟩
  .obtain⟨v,oc,ho,hd⟩:=I.cell x c a
   exact⟨v,oc,hk _ _ ho,hd⟩
 .rcases look h with a|a
  .exact I.hok.fresh (x9 (hC.empty _ _ a).2)
  .exact I.MN x c a
 .show(sig ix σ).length=N'.length
  unfold sig
  rw[vT]
  exact XR S.ok
end
end L2
end
noncomputable section
namespace L2
open PySem PySem.Spec PyProof.Rows
def PTs(X:Cx)(ifs:Gc uu)(t:TT):Prop:=
 ∀(pins:Gc (uN×Obj)) (s:uM) (σ:St) (H:Hp) (Q:vL->Hp->Prop),Inv X pins σ H s->t σ H Q->
  wpAny (model X.prog X.w) X.A (forIn ifs true λc r=>if r=true then do let ok<-isTrue c X.env (eval c X.env);pure (zC ok)else pure (zC r)) (TP X pins σ Q) X.xe s
noncomputable def nP:TT:=λ_ H Q=>Q true H
theorem eR{X:Cx}:PTs X [] nP:=λ_ _ _ H _ I h=>wpAny_tests_nil ⟨H,I,h⟩
theorem eF{X:Cx}{c:uu}{t:TT}(h:PT X c t):PTs X [c] t:=λpins s σ H Q I q=>wpAny_tests_one (h pins s σ H Q I q)
theorem ZR{α:Type}{M:Model}{A:vN}{t:Sem α}{Q:α->uM->Prop}{E:W1->uM->Prop}{s:uM}(h:wpAny M A t Q (λ_ _=>xB) s):wpAny M A t Q E s:=wK h (λ_ _ q=>q) λ_ _ f=>f.elim
def jj(ix:Gc (uL Nat))(g:TG)(tc:TT)(te:TE)(J:It)(σ:St)(H:Hp)(Q:VK):Prop:=
 ∀D,H D=uK->∃W:Nat->Nat->St->Hp->Gc V->Prop,(∃m,W 0 m (sig ix σ) (upd H D (.lst [])) [])/\∀i m σ H ys,W i m σ H ys->H D=Fk (.lst ys)/\
  ((J.stop i H/\Q (.ref D) H)\/(J.go i H/\ys.length<sizeLine/\∀x H',J.yld i H x H'->g x σ H' λσ2 H2=>tc σ2 H2 λb H3=>
    if b=true then te σ2 H3 λy H4=>H4 D=Fk (.lst ys)/\∃m',m'<m/\W (i+1) m' σ2 (upd H4 D (.lst (ys++[y]))) (ys++[y])else∃m',m'<m/\W (i+1) m' σ2 H3 ys))
noncomputable def di(ix:Gc (uL Nat))(wi:TI)(g:TG)(tc:TT)(te:TE):TE:=λσ H Q=>wi σ H λJ H1=>jj ix g tc te J σ H1 Q
section
variable{X:Cx}{pins:Gc (uN×Obj)}{σ:St}{s₂:uM}{N':Gc Str}{ix:Gc (uL Nat)}{scope:vx}{elt tg iter:uu}{ifs:Gc uu}{pos:Pos}{g:TG}{tc:TT}{te:TE}
def Block(X:Cx)(N':Gc Str)(scope:vx)(tg:uu)(ifs:Gc uu)(elt:uu)(g:TG)(tc:TT)(te:TE):Prop:=
 ∀(s:uM) (H:Hp) (fp:Gc uN),PG (Jv X N' scope s H fp) tg g/\PTs (Jv X N' scope s H fp) ifs tc/\PE (Jv X N' scope s H fp) elt te
theorem Wn {X' : Cx} {it : uN} {fp : Gc uN} {tn : Nat -> vF -> Prop} {J : It} {D : uN} {Q : VK} {R : Result -> uM -> Prop} {W : Nat -> Nat -> St -> Hp -> Gc V -> Prop} {s : uM} {e : Env} {n : Nat} (he : X'.env = e) (hx : X'.xe = fun _ _ => xB) (hcm : X'.calm = true) (T : Turn X'.prog X'.w X'.K tg J fp it tn) (hfp : ∀ H : Hp, (∀ b ∈ fp, H b = uK) -> ∀ b ∈ fp, Tj X' [] H b) (hg : PG X' tg g) (ht : PTs X' ifs tc) (hb : PE X' elt te) (turn : ∀ i m σ H ys, W i m σ H ys -> H D = Fk (.lst ys) /\ ((J.stop i H /\ Q (.ref D) H) ∨ (J.go i H /\ ys.length < sizeLine /\ ∀ x H', J.yld i H x H' -> g x σ H' fun σ2 H2 => tc σ2 H2 fun b H3 =>
        if b = true then te σ2 H3 fun y H4 => H4 D = Fk (.lst ys) /\ ∃ m', m' < m /\ W (i + 1) m' σ2 (upd H4 D (.lst (ys ++ [y]))) (ys ++ [y]) else ∃ m', m' < m /\ W (i + 1) m' σ2 H3 ys)))
    (hR : ∀ s' σ' H', Inv X' [] σ' H' s' -> Q (.ref D) H' -> R (.ok .next) s')
    (h0 : ∃ i σ' H' ys, Inv X' [] σ' H' s /\ tn i s.heap /\ (∀ b ∈ fp, H' b = uK) /\ W i n σ' H' ys) :
    codeAny (model X'.prog X'.w) X'.A (.compLoop (.ListComp elt [⟨tg, iter, ifs, 0⟩] scope pos) 0 (.ref it) (.ref D) e) R s := by
  subst he
  refine codeAny_loop rfl (fun n s => ∃ i σ' H' ys, Inv X' [] σ' H' s /\ tn i s.heap /\ (∀ b ∈ fp, H' b = uK) /\ W i n σ' H' ys) (fun n s3 hI => ?_) n h0
  show wpAny _ X'.A ((compTurn (.ListComp elt [⟨tg, iter, ifs, 0⟩] scope pos) 0 (.ref it) (.ref D) X'.env).onRaise (fun x => do noteFrame x X'.env; theTreesLotGoes x)) _ _ s3
  refine wpAny_noted (ZR ?_)
  rw [compTurn_list]
  obtain ⟨i, σ3, H3, ys, I3, st3, fr3, w3⟩ := hI
  obtain ⟨hD, alt⟩ := turn i n σ3 H3 ys w3
  rcases alt with ⟨stop, q⟩ | ⟨go, hlen, step⟩
  · refine uI (yP (uI (thn (T.done X' rfl rfl rfl hcm i [] s3 σ3 H3 _ I3 (hfp H3 fr3) st3 stop) fun r s4 ⟨hr, I4⟩ => ?_)))
    subst hr
    exact uZ (hR s4 σ3 H3 I4 q)
  · refine uI (yP (uI (thn (T.item X' rfl rfl rfl hcm i [] s3 σ3 H3 _ I3 (hfp H3 fr3) st3 go) fun r s4 ⟨u, hr, h4⟩ => ?_)))
    subst hr
    refine uI (thn h4 fun _ s5 ⟨x, H5, I5, r5, y5, st5, fr5⟩ => ?_)
    have I5' := I5.pinned (hfp H5 fr5) (T.obj _ _ st5)
    have hg' := hg _ s5 σ3 H5 x u _ I5' r5 (step x H5 y5)
    rw [hx] at hg'
    refine uI (thn hg' fun _ s6 ⟨σ6, H6, I6, q6⟩ => ?_)
    have ht' := ht _ s6 σ6 H6 _ I6 q6
    rw [hx] at ht'
    refine uI (thn ht' fun ok s7 ⟨H7, I7, q7⟩ => ?_)
    have again : ∀ {s8 : uM} {H8 : Hp} {zs : Gc V} {m' : Nat}, Inv X' ([] ++ Sk fp s5.heap) σ6 H8 s8 -> m' < n -> W (i + 1) m' σ6 H8 zs -> ∃ m, m < n /\ ∃ i σ' H' ys, Inv X' [] σ' H' s8 /\ tn i s8.heap /\ (∀ b ∈ fp, H' b = uK) /\ W i m σ' H' ys := fun {s8 H8 zs m'} I8 hm w8 => by
      refine ⟨m', hm, i + 1, σ6, H8, zs, I8.Nq, T.keep _ _ _ st5 fun b hb o e => (I8.pin (b, o) (vZ _ (vZ _ (Kx hb e)))).1, fun b hb => ?_, w8⟩
      obtain ⟨o, e, d⟩ := T.obj _ _ st5 b hb
      exact (I8.pin (b, o) (vZ _ (vZ _ (Kx hb e)))).2.1
    cases ok with
    | false =>
      rw [vP (by decide)] at q7
      obtain ⟨m', hm, w7⟩ := q7
      exact uZ ⟨rfl, again I7 hm w7⟩
    | true =>
      rw [vM rfl] at q7
      have hb' := hb _ s7 σ6 H7 _ I7 q7
      rw [hx] at hb'
      refine uI (uI (thn hb' fun v s8 ⟨y, H8, I8, r8, hD8, m', hm, w8⟩ => ?_))
      have ha := R4 (X := X') _ s8 σ6 H8 (.ref D) [y] (.ref D) [v] (fun _ H9 => H9 = upd H8 D (.lst (ys ++ [y]))) I8 rfl (.cons r8 .nil) ⟨D, ys, y, rfl, rfl, hD8, hlen, rfl⟩
      rw [hx] at ha
      refine uI (thn ha fun _ s9 ⟨_, H9, I9, _, e9⟩ => ?_)
      subst e9
      exact uZ (uZ ⟨rfl, again I9 hm w8⟩)
theorem VB(hc:X.calm=true)(S:Af X.N X.env.scope N' ix scope)(hb:Block X N' scope tg ifs elt g tc te){it:uN}{fp:Gc uN}{tn:Nat->vF->Prop}{J:It}{H₂:Hp}{Q:VK}{E:W1->uM->Prop}{RR:W1->uN->Result->uM->Prop}(I2:Inv X pins σ H₂ s₂)(T:Turn X.prog X.w X.K tg J fp it tn)(st2:tn 0 s₂.heap)(f2:∀b∈fp,Tj X pins H₂ b)(hW:jj ix g tc te J σ H₂ Q)(hRR:∀D C H' s',Inv X pins σ H' s'->(∃m,s'.heap.Ns C m)->Tj X pins H' C->Q (.ref D) H'->RR (.ref D) C (.ok .next) s'):wpAny (model X.prog X.w) X.A (newList []) (λacc s₃=>wpAny (model X.prog X.w) X.A (newFunctionEnv scope X.env.globals (HV X.env.cells scope.names []) [] X.env.qual uK .none (Fk X.env)) (λcenv s₄=>
  codeAny (model X.prog X.w) X.A (.compStart (.ListComp elt [⟨tg,iter,ifs,0⟩] scope pos) 0 (.ref it) acc {cenv with scope:=relabel scope X.env}) (RR acc cenv.locals) s₄) E s₃) E s₂:=by
 have hD0:H₂ s₂.heap.objs.size=none:=I2.hok.fresh (uV _)
 have hlt2:∀b∈fp,b<s₂.heap.objs.size:=λb hb=>by
  obtain⟨o,e,_⟩:=T.obj _ _ st2 b hb
  exact ui e
 refine v3 (MQ (λh₁ hns₁ hsb₁ hcl₁=>?_))
 have I3:Inv X pins σ (upd H₂ s₂.heap.objs.size (.lst [])) {s₂ with heap:=s₂.heap.push {cls:=.type "list",dict:=uK,data:=.seq ([]:Gc W1).toArray}}:=
  I2.laid (t':=s₂.toks) (λb u e=>uJ _ e) (uV _) ⟨we _,[],0,.nil,uq _ rfl⟩
 have f3:∀b∈fp,Tj X pins (upd H₂ s₂.heap.objs.size (.lst [])) b:=λb hb=>⟨by rw[An (vK (hlt2 b hb))];exact(f2 b hb).1,(f2 b hb).2⟩
 have k3:∀b o,s₂.heap.get? b=Fk o->(s₂.heap.push {cls:=.type "list",dict:=uK,data:=.seq ([]:Gc W1).toArray}).get? b=Fk o:=λb o e=>uJ _ e
 dsimp only at hns₁ hsb₁ hcl₁⊢
 generalize hs3:({s₂ with heap:=s₂.heap.push {cls:=.type "list",dict:=uK,data:=.seq ([]:Gc W1).toArray}}:uM)=s₃ at I3
 have eh:s₂.heap.push {cls:=.type "list",dict:=uK,data:=.seq ([]:Gc W1).toArray}=s₃.heap:=by rw[<-hs3]
 have et:s₂.toks=s₃.toks:=by rw[<-hs3]
 have es:∀(h:vF) (t:Nat),({s₂ with heap:=h,toks:=t}:uM)={s₃ with heap:=h,toks:=t}:=λh t=>by rw[<-hs3]
 rw[eh]at hns₁ hsb₁ hcl₁ k3⊢
 have hlt3:∀b∈fp,b<s₃.heap.objs.size:=λb hb=>by
  obtain⟨o,e,_⟩:=T.obj _ _ st2 b hb
  exact ui (k3 b o e)
 have k4:∀b o,s₃.heap.get? b=Fk o->h₁.get? b=Fk o:=hsb₁
 obtain⟨W,⟨m0,w0⟩,turn⟩:=hW _ hD0
 have I4:∀tk,Inv (Jv X N' scope s₃ (upd H₂ s₂.heap.objs.size (.lst [])) fp) [] (sig ix σ) (upd H₂ s₂.heap.objs.size (.lst [])) {s₃ with heap:=h₁,toks:=tk}:=λtk=>aI S hc I3 f3 hlt3 hns₁ k4 hcl₁
 have st4:tn 0 h₁:=T.keep _ _ _ st2 λb hb o e=>k4 b o (k3 b o e)
 obtain⟨bg,bt,be⟩:=hb s₃ (upd H₂ s₂.heap.objs.size (.lst [])) fp
 have noX:∀(H:Hp),(∀b∈fp,H b=uK)->∀b∈fp,Tj (Jv X N' scope s₃ (upd H₂ s₂.heap.objs.size (.lst [])) fp) [] H b:=λH hn b hb=>by
  obtain⟨_,h2,h3⟩:=f3 b hb
  refine⟨hn b hb,vK (hlt3 b hb),λhs=>(I4 0).ok.eD b hb hs,.inl hb,λx c h=>?_,λp hp=>absurd (show p∈([]:Gc (uN×Obj))from hp) (by simp)⟩
  exact((I4 0).ok.exf b hb).2 x c h
 have fin:∀(s':uM) (σ':St) (H':Hp),Inv (Jv X N' scope s₃ (upd H₂ s₂.heap.objs.size (.lst [])) fp) [] σ' H' s'->Q (.ref s₂.heap.objs.size) H'->RR (.ref s₂.heap.objs.size) s₃.heap.objs.size (.ok .next) s':=λs' σ' H' I' q=>by
  refine hRR _ _ H' s' ?_ (let⟨m,hn,_⟩:=I'.loc;⟨m,hn⟩) (I3.fR (uV _) I'.free) q
  exact I3.fE I'.os I'.base I'.hok I'.bare λb hb=>⟨(f3 b hb).2.2.2.1,(f3 b hb).2.1,(f3 b hb).2.2.2.2.1,(f3 b hb).2.2.2.2.2⟩
 have loop:∀tk,codeAny (model X.prog X.w) X.A (.compLoop (.ListComp elt [⟨tg,iter,ifs,0⟩] scope pos) 0 (.ref it) (.ref s₂.heap.objs.size) (compEnvC scope (cellsFrom (s₃.heap.objs.size+1) scope.names (HV X.env.cells scope.names [])) s₃.heap.objs.size X.env)) (RR (.ref s₂.heap.objs.size) s₃.heap.objs.size) {s₃ with heap:=h₁,toks:=tk}:=λtk=>
  Wn (X':=Jv X N' scope s₃ (upd H₂ s₂.heap.objs.size (.lst [])) fp) (D:=s₂.heap.objs.size) (Q:=Q) (W:=W) rfl rfl rfl T noX bg bt be turn fin ⟨0,_,_,_,I4 tk,st4,λb hb=>(f3 b hb).1,w0⟩
 rw[es]
 exact codeAny_compStart_list (loop _) (T.self _ 0 _ _ _ st4 (loop _))
theorem fS{wi:TI}(hc:X.calm=true)(S:Af X.N X.env.scope N' ix scope)(hi:PI X tg iter wi)(hb:Block X N' scope tg ifs elt g tc te)(hs:∀x,foldedSetIterable iter X.env x=pure x:=by intro _;rfl):PE X (.ListComp elt [⟨tg,iter,ifs,0⟩] scope pos) (di ix wi g tc te):=by
 intro pins s σ H Q I h
 rw[eval_ListComp]
 refine z0 (use:=uK) rfl hs (Ql (I.cellsOf S)) S.kind S.names (thn (hi pins s σ H _ I h) λv s1 h1=>thn h1 λitv s2 h2=>?_)
 obtain⟨it,fp,tn,J,H2,e,I2,T,st2,f2,hW⟩:=h2
 subst e
 refine VB (RR:=λacc C=>compPost (model X.prog X.w) X.A X.xe uK (EP X pins σ Q) acc C) hc S hb I2 T st2 f2 hW ?_
 intro D C H' s' I' hm hC q
 obtain⟨m,hm⟩:=hm
 refine⟨m,hm,λh' hs'=>⟨.ref D,H',I'.turned (it:=C) (t':=s'.toks) (λb o hb e=>hs'.extBut b o hb e) hC.1 hC.2.1 hC.2.2.2.1 hC.2.2.2.2.1 hC.2.2.2.2.2,rfl,q⟩⟩
end
end L2
end
noncomputable section
namespace L2
open PySem PySem.Spec PyProof.Rows
section
variable{X:Cx}{N':Gc Str}{ix:Gc (uL Nat)}{scope:vx}{elt tg iter:uu}{ifs:Gc uu}{pos spos py:Pos}{g:TG}{tc:TT}{te:TE}{wi:TI}{i:Nat}{y:Str}
theorem Vy(hc:X.calm=true)(hN:X.N.Nodup)(hi':X.N[i]?=Fk y)(hx:X.env.scope.names.lookup y=Fk .local)(S:Af X.N X.env.scope N' ix scope)(hi:PI X tg iter wi)(hb:Block X N' scope tg ifs elt g tc te)(hsw:swapsWith (.ListComp elt [⟨tg,iter,ifs,0⟩] scope pos) (Fk (.Name y py)) spos.line X.env=pure true:=by rfl)(hs:∀x,foldedSetIterable iter X.env x=pure x:=by intro _;rfl):PS X (.Assign [.Name y py] (.ListComp elt [⟨tg,iter,ifs,0⟩] scope pos) spos) (oE (di ix wi g tc te) (gB i)):=by
 intro pins s σ H D I h
 rw[exec_Assign_Name_used _ _ _ _ hsw]
 refine uI (yP (uI ?_))
 show wpAny _ X.A (do let _<-comprehension (.ListComp elt [⟨tg,iter,ifs,0⟩] scope pos) scope X.env _ (newList []) false (eval iter X.env) (Fk (assign (.Name y py) X.env))) _ _ s
 refine uI (wK (z0 (use:=Fk (assign (.Name y py) X.env)) (Q:=λ_ s'=>SP X pins D .next s') rfl hs (Ql (I.cellsOf S)) S.kind S.names
  (thn (hi pins s σ H _ I h) λv s1 h1=>thn h1 λitv s2 h2=>?_)) (λ_ s' hq=>uZ (uZ hq)) λ_ _ e=>e)
 obtain⟨it,fp,tn,J,H2,e,I2,T,st2,f2,hW⟩:=h2
 subst e
 refine VB (RR:=λacc C=>compPost (model X.prog X.w) X.A X.xe (Fk (assign (.Name y py) X.env)) (λ_ s'=>SP X pins D .next s') acc C) hc S hb I2 T st2 f2 hW ?_
 intro L C H' s' I' hm hC q
 obtain⟨m,hm⟩:=hm
 show wpAny _ X.A (assign (.Name y py) X.env (.ref L)) _ _ _
 refine wpAny_assign_Name (Sv I' hN hi' (.inl hx) (v:=.ref L) rfl (λs'' I'' ⟨a,sb,ha⟩=>?_) (.inr hx))
 have hCa:C≠a:=by
  rcases ha with rfl|ha
  .exact hC.2.1
  .exact wR (hC.2.2.2.2.1 y a ha)
 refine⟨m,hm.sameBut sb hCa,λh' hs'=>?_⟩
 exact⟨_,H',I''.turned (it:=C) (t':=s''.toks) (λb o hb e=>hs'.extBut b o hb e) hC.1 hC.2.1 hC.2.2.2.1 hC.2.2.2.2.1 hC.2.2.2.2.2,q⟩
end
end L2
end
noncomputable section
namespace L2
open PySem PySem.Spec PyProof.Rows
section
variable{κ:Type} [DecidableEq κ]
noncomputable def putK(kvs:Gc (κ×V))(k:κ)(v:V):Gc (κ×V):=
 if(kvs.any λkv=>decide (kv.1=k))=true then kvs.map (λkv=>if kv.1=k then(kv.1,v)else kv)else kvs++[(k,v)]
theorem Te(kvs:Gc (κ×V))(k:κ)(v:V):(putK kvs k v).length<=kvs.length+1:=by
 unfold putK
 split
 .rw[vT];lia
 .rw[vm,vR,yV];lia
theorem KV.any{kvs:Gc (κ×V)}{vs:Gc (κ×W1)}(r:KV kvs vs)(k:κ):(kvs.any λkv=>decide (kv.1=k))=vs.any λkv=>decide (kv.1=k):=by
 unfold KV at r
 induction r with
 |nil=>rfl
 |cons h t ih=>rw[xH,xH,ih,h.1]
theorem KV.jH{kvs:Gc (κ×V)}{vs:Gc (κ×W1)}(r:KV kvs vs)(k:κ){y:V}{u:W1}(ry:RelV y u):KV (kvs.map λkv=>if kv.1=k then(kv.1,y)else kv) (vs.map λkv=>if kv.1=k then(kv.1,u)else kv):=by
 unfold KV at r⊢
 induction r with
 |nil=>exact .nil
 | @cons p q ps qs h t ih=>
   rw[uv,uv]
   refine .cons ?_ ih
   obtain⟨h1,h2⟩:=h
   by_cases e:p.1=k
   .rw[vM e,vM (h1.symm.trans e)];exact⟨h1,ry⟩
   .rw[vP e,vP (λz=>e (h1.trans z))];exact⟨h1,h2⟩
theorem KV.put{kvs:Gc (κ×V)}{vs:Gc (κ×W1)}(r:KV kvs vs)(k:κ){y:V}{u:W1}(ry:RelV y u):KV (putK kvs k y) (stored vs k u):=by
 unfold putK stored
 rw[r.any k]
 by_cases e:(vs.any λkv=>decide (kv.1=k))=true
 .rw[vM e,vM e];exact r.jH k ry
 .rw[vP e,vP e];exact Paired.snoc r ⟨rfl,ry⟩
end
theorem iS{P:ur}{w:vO}{k:Key}{u:W1}(r:RelV (kV k) u):(Eg P w).is k u=true:=by
 cases k with
 |inl i=>obtain⟨t,e⟩:=(show∃t,u=zP i t from r);subst e;exact UL P w i t
 |inr x=>obtain⟨t,e⟩:=(show∃t,u=AAA x t from r);subst e;exact UE P w x t
theorem SK{P:ur}{w:vO}:∀{ks:Gc Key} {us:Gc W1},Vals (ks.map kV) us->ItemsAre (Eg P w) ks us
 | [],_,r=>by rw[wG]at r;cases r;exact .nil
 |k::ks,_,r=>by
  rw[uv]at r
  cases r with
  |cons h t=>exact .cons (iS h) (SK t)
abbrev KT(H:Hp):Gc (Gc Key×V)->Gc (Gc Key×uN×W1)->Prop:=Paired λp q=>p.1=q.1/\H q.2.1=Fk (.tup (p.1.map kV))/\RelV p.2 q.2.2
section
variable{P:ur}{w:vO}{H:Hp}{h:vF}{a:uN}
theorem iX{u:HO}(ok:HOk P w H h)(e:Rd H a u):ES P w H h a u:=e.ok ok
theorem pJ{kvs:Gc (Key×V)}(ok:HOk P w H h)(e:Rd H a (.dK kvs)):kvs.length<=sizeLine/\(a==sysModules)=false/\∃vs,KV kvs vs/\h.DictOf (Eg P w) a vs:=
 show ES P w H h a (.dK kvs)from iX ok e
theorem nM{kvs:Gc (Key×V)}(ok:HOk P w H h)(e:H a=Fk (.dK kvs)):kvs.length<=sizeLine/\(a==sysModules)=false/\∃vs,KV kvs vs/\h.DictOf (Eg P w) a vs:=pJ ok (.inl e)
theorem jf{ks:Gc Key}(ok:HOk P w H h)(e:H a=Fk (.tup (ks.map kV))):(tupleKind (Eg P w)).is h ks a:=by
 obtain⟨_,its,r,o,h1,h2,n,h3⟩:=(show ES P w H h a (.tup (ks.map kV))from ok a _ e)
 exact⟨o,its.toArray,n,h1,h2,h3,by simpa using SK r⟩
theorem nG{kvs:Gc (Gc Key×V)}(ok:HOk P w H h)(e:Rd H a (.dT kvs)):kvs.length<=sizeLine/\(a==sysModules)=false/\∃xs,KT H kvs xs/\h.DictOfH (tupleKind (Eg P w)) a xs:=by
 obtain⟨z,y,xs,r,o,es,ep,h1,h2,h3,h4,h5⟩:=(show ES P w H h a (.dT kvs)from iX ok e)
 refine⟨z,y,xs,r,o,es,ep,h1,h2,h3,h4,λx hx=>?_,h5⟩
 have all:∀{l:Gc (Gc Key×V)} {m:Gc (Gc Key×uN×W1)},KT H l m->∀x∈m,(tupleKind (Eg P w)).is h x.1 x.2.1:=by
  intro l m q
  induction q with
  |nil=>intro x hx;exact nomatch hx
  | @cons p q ps qs hq t ih=>
    intro x hx
    rcases uQ.mp hx with e|hx
    .subst e
     exact jf ok (by rw[<-hq.1];exact hq.2.1)
    .exact ih x hx
 exact all r x hx
theorem fU{kvs:Gc (Gc Key×V)}(ok:HOk P w H h)(e:H a=Fk (.dT kvs)):kvs.length<=sizeLine/\(a==sysModules)=false/\∃xs,KT H kvs xs/\h.DictOfH (tupleKind (Eg P w)) a xs:=nG ok (.inl e)
end
section
variable{X:Cx}{pins:Gc (uN×Obj)}{σ:St}{H:Hp}{s:uM}{a:uN}{y v:V}{u r:W1}{o:uL V}{A:vN}{E:W1->uM->Prop}
theorem Inv.big(I:Inv X pins σ H s):sysModules<s.heap.objs.size:=by
 have h:mainGlobals<s.heap.objs.size:=(I.mod.glob.keeps I.bk).lt
 exact Nat.lt_trans (by decide) h
theorem fJ{h':vF}{t':Nat}{ob:HO}(I:Inv X pins σ H s)(mu:Mut (H a))(hs:yc a s.heap h')(he:∃q,h'.get? a=Fk q)(new:ES X.prog X.w (upd H a ob) h' a ob):Inv X pins σ (upd H a ob) {s with heap:=h',toks:=t'}:=
 I.write (x:=a) (e:=a) mu (.inl rfl) (λb q hb z=>(hs.2 b hb).trans z) he new
theorem jy{P:ur}{w:vO}{H':Hp}{h':vF}{kvs:Gc (Key×V)}{vs:Gc (Key×W1)}(z:kvs.length<=sizeLine)(hd:(a==sysModules)=false)(rel:KV kvs vs)(dd:h'.DictOf (Eg P w) a vs):ES P w H' h' a (.dK kvs):=⟨z,hd,vs,rel,dd⟩
end
section
variable{X:Cx}{pins:Gc (uN×Obj)}{σ:St}{H:Hp}{s:uM}{a:uN}{kvs:Gc (Key×V)}{k:Key}{u:W1}{A:vN}{E:W1->uM->Prop}
end
section
variable{X:Cx}{o i e value:uu}{pos pos' tpos:Pos}{td ty tv:TE}
end
theorem Zp{P:ur}{w:vO}{H:Hp}(h:vF)(hb:sysModules<h.objs.size):ES P w H (h.push {cls:=.type "dict",data:=.dict #[]}) h.objs.size (.dK []):=
 ⟨we _,ABH.mpr (wR (vK hb)),[],.nil,Heap.DictOf.new h⟩
section
variable{X:Cx}{pos:Pos}
end
def Ux:Gc (TE×TE)->St->Hp->(Gc (V×V)->Hp->Prop)->Prop
 | [],_,H,Q=>Q [] H
 |(tk,tv)::r,σ,H,Q=>tk σ H λx H1=>tv σ H1 λy H2=>Ux r σ H2 λps H3=>Q ((x,y)::ps) H3
abbrev VV:Gc (V×V)->Gc (W1×W1)->Prop:=Paired λp q=>RelV p.1 q.1/\RelV p.2 q.2
def PPs(X:Cx)(pos:Pos)(keys:Gc (uL uu))(values:Gc uu)(trs:Gc (TE×TE)):Prop:=
 ∀(pins:Gc (uN×Obj)) (s:uM) (σ:St) (H:Hp) (Q:Gc (V×V)->Hp->Prop),Inv X pins σ H s->Ux trs σ H Q->
  wpAny (model X.prog X.w) X.A (evalPairs (pairTrees keys values X.env pos)) (λvs s'=>∃ps H',Inv X pins σ H' s'/\VV ps vs/\Q ps H') X.xe s
theorem fQ{X:Cx}{pos:Pos}:PPs X pos [] [] []:=λpins s σ H Q I h=>pairTrees_nil_walk ⟨[],H,I,.nil,h⟩
theorem bM{X:Cx}{pos:Pos}{k v:uu}{ks:Gc (uL uu)}{vs:Gc uu}{tk tv:TE}{trs:Gc (TE×TE)}(hk:PE X k tk)(hv:PE X v tv)(hr:PPs X pos ks vs trs):PPs X pos (Fk k::ks) (v::vs) ((tk,tv)::trs):=λpins s σ H Q I h=>
 pairTrees_cons_walk (thn (hk pins s σ H _ I h) λu s1 ⟨x,H1,I1,rx,q1⟩=>thn (hv pins s1 σ H1 _ I1 q1) λw2 s2 ⟨y,H2,I2,ry,q2⟩=>
  thn (hr pins s2 σ H2 _ I2 q2) λws s3 ⟨ps,H3,I3,rel,q3⟩=>⟨(x,y)::ps,H3,I3,.cons ⟨rx,ry⟩ rel,q3⟩)
noncomputable def Ov(kvs more:Gc (Key×V)):Gc (Key×V):=more.foldl (λacc kv=>putK acc kv.1 kv.2) kvs
theorem KV.merge:∀{more:Gc (Key×V)} {rs:Gc (Key×W1)} {kvs:Gc (Key×V)} {vs:Gc (Key×W1)},KV more rs->KV kvs vs->KV (Ov kvs more) (merged vs rs):=by
 intro more rs kvs vs r
 unfold KV at r
 induction r generalizing kvs vs with
 |nil=>intro q;exact q
 | @cons p q ps qs h t ih=>
   intro r0
   have e:KV (putK kvs p.1 p.2) (stored vs q.1 q.2):=by
    have:=r0.put p.1 h.2
    rw[<-h.1];exact this
   exact ih e
theorem Lz:∀(more kvs:Gc (Key×V)),(Ov kvs more).length<=kvs.length+more.length
 | [],kvs=>by show kvs.length<=kvs.length+0;lia
 |p::r,kvs=>by
  have h1:=Lz r (putK kvs p.1 p.2)
  have h2:=Te kvs p.1 p.2
  show(Ov (putK kvs p.1 p.2) r).length<=_
  rw[vR];lia
theorem QJ{P:ur}{w:vO}:∀{kvs:Gc (Key×V)} {ws:Gc (W1×W1)},VV (kvs.map λkv=>(kV kv.1,kv.2)) ws->∃rs,Carries (Eg P w) ws rs/\KV kvs rs
 | [],_,r=>by rw[wG]at r;cases r;exact⟨[],yx,.nil⟩
 |p::kvs,_,r=>by
  rw[uv]at r
  cases r with
  | @cons a b as bs h t=>
    obtain⟨rs,c,q⟩:=QJ (P:=P) (w:=w) t
    obtain⟨b1,b2⟩:=b
    exact⟨(p.1,b2)::rs,⟨iS h.1,rfl,c⟩,.cons ⟨rfl,h.2⟩ q⟩
noncomputable def pF(trs:Gc (TE×TE)):TE:=λσ H Q=>∀p,H p=uK->Ux trs σ (upd H p (.dK [])) λps H2=>H2 p=Fk (.dK [])/\∃kvs:Gc (Key×V),ps=kvs.map (λkv=>(kV kv.1,kv.2))/\kvs.length<=15/\Q (.ref p) (upd H2 p (.dK (Ov [] kvs)))
theorem gk{X:Cx}{pos:Pos}{keys:Gc (uL uu)}{values:Gc uu}{trs:Gc (TE×TE)}(h:PPs X pos keys values trs)(hall:keys.all (·.isSome)=true)(hl:keys.length=values.length)(h0:keys≠[])(h15:keys.length<=15):PE X (.Dict keys values pos) (pF trs):=by
 intro pins s σ H Q I q
 have hn:=I.hok.fresh (uV s.heap.objs.size)
 have I1:=I.laid (a:=s.heap.objs.size) (o:=.dK []) (h':=s.heap.push {cls:=.type "dict",data:=.dict #[]}) (t':=s.toks) (λ_ _ q=>uJ _ q) (uV _) (Zp s.heap I.big)
 refine wpAny_Dict_walk (knd:=Eg X.prog X.w) hall hl h0 h15 (thn (h pins _ σ _ _ I1 (q _ hn)) λws s2 ⟨ps,H2,I2,rel,e,kvs,ep,lk,q2⟩=>?_)
 subst ep
 obtain⟨rs,c,rk⟩:=QJ (P:=X.prog) (w:=X.w) rel
 obtain⟨z,hd,vs0,r0,dd⟩:=nM I2.hok e
 cases r0
 refine⟨rs,c,dd,λh' dd' hs=>⟨.ref s.heap.objs.size,_,?_,rfl,q2⟩⟩
 have hz:(Ov [] kvs).length<=sizeLine:=by
  have h1:=Lz kvs []
  rw[yV]at h1
  rw[sizeLine_eq];lia
 have he:∃q,h'.get? s.heap.objs.size=Fk q:=let⟨q,_,_,hq,_⟩:=dd';⟨q,hq⟩
 exact fJ I2 (by rw[e];exact yx) hs he (jy hz hd (rk.merge .nil) dd')
structure M1(X:Cx)(o:uu)(m:Str)(apos:Pos)(e:uu)(cpos:Pos):Prop where
 base:attributeBase o m X.env (eval o X.env)=eval o X.env
 few:((backTo cpos (uo [e] X.env)).all (λx=> !x.1) && (backToKw cpos (keywordEach [] X.env)).all (λx=>x.1.isSome)
  && decide (([e]:Gc uu).length+([]:Gc zt).length+(if([]:Gc zt).isEmpty then 0 else 1)<30))=true
 line:(apos.endLine==cpos.line)=true
 trees:backTo cpos (uo [e] X.env)=[(false,eval e X.env)]
structure M2(X:Cx)(o:uu)(m:Str)(apos:Pos)(e f:uu)(cpos:Pos):Prop where
 base:attributeBase o m X.env (eval o X.env)=eval o X.env
 few:((backTo cpos (uo [e,f] X.env)).all (λx=> !x.1) && (backToKw cpos (keywordEach [] X.env)).all (λx=>x.1.isSome)
  && decide (([e,f]:Gc uu).length+([]:Gc zt).length+(if([]:Gc zt).isEmpty then 0 else 1)<30))=true
 line:(apos.endLine==cpos.line)=true
 trees:backTo cpos (uo [e,f] X.env)=[(false,eval e X.env),(false,eval f X.env)]
def IsD(H:Hp)(a:uN):Prop:=(∃kvs,Rd H a (.dK kvs))\/∃kvs,Rd H a (.dT kvs)
section
variable{X:Cx}{pins:Gc (uN×Obj)}{σ:St}{H:Hp}{s:uM}{a:uN}{y d:V}{u r:W1}{o:uL V}{A:vN}{E:W1->uM->Prop}
end
section
variable{X:Cx}{o e f:uu}{apos cpos:Pos}{td ty tx:TE}
end
section
variable{X:Cx}{pins:Gc (uN×Obj)}{σ:St}{H:Hp}{s:uM}{a:uN}{kvs:Gc (Key×V)}{A:vN}{E:W1->uM->Prop}
end
section
variable{X:Cx}{pins:Gc (uN×Obj)}{σ:St}{H:Hp}{s:uM}{a:uN}{y:V}{u:W1}{A:vN}{E:W1->uM->Prop}
end
end L2
end
noncomputable section
namespace L2
open PySem PySem.Spec PyProof.Rows
section
variable{prog:ur}{w:vO}{A:vN}{E:W1->uM->Prop}{s:uM}
theorem Vp{h:vF}{it t:uN}{i:Nat}{o:Obj}(ho:h.get? it=Fk o)(hc:o.cls=.type "tuple_iterator")(hd:o.data=.fields #[.ref t,.int i 0]){h':vF}(e:h'=h.update it (λo=>o.mapFields λa=>a.setIfInBounds 1 (rawInt ((i:Int)+1)))):h'.IsTupleIter it t (i+1):=by
 subst e
 have d:=Obj.data_mapFields hd λa=>a.setIfInBounds 1 (rawInt ((i:Int)+1))
 refine⟨_,AAp _ ho (Obj.isFreed_of_fields d),?_,?_⟩
 .rw[Obj.cls_mapFields];exact hc
 .rw[d];simp[rawInt]
theorem aB{it t:uN}{i:Nat}{items:vY W1}{x:W1}{Q:W1->uM->Prop}(hit:s.heap.IsTupleIter it t i)(ht:s.heap.IsTuple t items)(hx:items[i]?=Fk x)(hQ:∀h',h'.IsTupleIter it t (i+1)->yc it s.heap h'->Q x {s with heap:=h'}):wpAny (model prog w) A (vU (.ref it)) Q E s:=by
 obtain⟨⟨c,dd,dt,sl⟩,ho,hc,hd⟩:=id hit
 obtain⟨⟨c2,dd2,dt2,sl2⟩,ho2,hc2,n2,hd2⟩:=id ht
 simp only at hc hd hc2 hd2
 subst hc hd hc2 hd2
 unfold vU
 refine uI (v5 (name:=vw "__next__") hit.typeIs xM (wV xM hit.typeIs zJ ?_ (zD _)))
 unfold yA.«tuple_iterator.__next__»
 wp_walk using uw ho,uw ho2
 have e:items[(i:Int).toNat]?=Fk x:=by rw[x8];exact hx
 rw[e]
 refine uI (wpAny_setField ho rfl (by simp) ?_)
 exact uZ ⟨x,rfl,uZ (hQ _ (Vp ho rfl rfl rfl) (ABJ ..))⟩
theorem bf{it t:uN}{i:Nat}{items:vY W1}{Q:W1->uM->Prop}(hh:A.handled=uK)(hit:s.heap.IsTupleIter it t i)(ht:s.heap.IsTuple t items)(hx:items[i]?=uK)(hE:∀h' e,zw it s.heap h'->(∃o,h'.get? e=Fk o/\o.cls=.type "StopIteration")->E (.ref e) {s with heap:=h'}):wpAny (model prog w) A (vU (.ref it)) Q E s:=by
 obtain⟨⟨c,dd,dt,sl⟩,ho,hc,hd⟩:=id hit
 obtain⟨⟨c2,dd2,dt2,sl2⟩,ho2,hc2,n2,hd2⟩:=id ht
 simp only at hc hd hc2 hd2
 subst hc hd hc2 hd2
 unfold vU
 refine uI (v5 (name:=vw "__next__") hit.typeIs xM (wV xM hit.typeIs zJ ?_ (zD _)))
 unfold yA.«tuple_iterator.__next__»
 wp_walk using uw ho,uw ho2
 have e:items[(i:Int).toNat]?=none:=by rw[x8];exact hx
 rw[e]
 refine uI (AAO (uI (wpAny_setField ho rfl (by simp) ?_)))
 have hh1:A.in1.handled=none:=hh
 unfold Builtin.SmallTypes.stopIteration
 simp only[newExc,newTuple,raiseNew]
 wp_walk
 refine hE _ _ ?_ ⟨_,uq _ rfl,rfl⟩
 have a:=(ABJ (a:=it) (h:=s.heap) (f:=Obj.mapFields λx=>x.setIfInBounds 0 vz)).extBut
 exact(a.push _).push _
theorem Wz(l:uN)(items:vY W1)(n:Nat)(dct:uL uN)(sl:vY (uL W1)):Meets (yA.«enumerate.__new__» ⟨[.type "enumerate",.ref l],[]⟩) (λ_ R s=>s.heap.get? l=Fk {cls:=.type "tuple",dict:=dct,data:=.seq items n,slots:=sl}/\R (.ok (.ret (.ref (s.heap.objs.size+1)))) {s with heap:=(s.heap.push {cls:=.type "tuple_iterator",data:=.fields #[.ref l,.int 0 0]}).push {cls:=.type "enumerate",data:=.fields #[.none,.bool false,.ref s.heap.objs.size,rawInt 0,.none,.none]}}):=
 .of_wp λprog w A R s h=>by
  obtain⟨hp,g,d,tk,os⟩:=s
  obtain⟨hl,h⟩:=h
  have hsub:=sub_enumerate
  have hT:zK (xX ⟨hp,g,d,tk,os⟩) l items:=⟨_,hl,rfl,n,rfl⟩
  wp_walk using uw hl
  refine wpAny_stack_any λst=>uZ ?_
  split
  .rename_i c _ _ _ _ _
   cases (c==AAN "enumerate")<;>(wp_walk using uw hl,wj hT)<;>(refine⟨_,rfl,?_⟩;rw[wC];exact h)
  .wp_walk using uw hl,wj hT
   refine⟨_,rfl,?_⟩
   rw[wC]
   exact h
theorem VZ{l:uN}{items:vY W1}{Q:W1->uM->Prop}(hT:s.heap.IsTuple l items)(h:∀h',IsEnum h' (s.heap.objs.size+1) s.heap.objs.size 0 .none->h'.IsTupleIter s.heap.objs.size l 0->(∀b o,s.heap.get? b=Fk o->h'.get? b=Fk o)->Q (.ref (s.heap.objs.size+1)) {s with heap:=h'}):wpAny (model prog w) A (call (.type "enumerate") [.ref l]) Q E s:=by
 obtain⟨⟨c,dct,dt,sl⟩,hl,hc,n,hd⟩:=hT
 simp only at hc hd
 subst hc hd
 refine callType_new F.called_enumerate (by decide) (F.typeCall_enumerate_1 _) (F.newCall_enumerate_1 _) (λobj=>F.args_object_init_2 obj _) F.entry_enumerate_new (Wz l items n dct sl) ⟨hl,?_⟩
 have z:=uq (s.heap.push {cls:=.type "tuple_iterator",data:=.fields #[.ref l,.int 0 0]}) (o:={cls:=.type "enumerate",data:=.fields #[.none,.bool false,.ref s.heap.objs.size,rawInt 0,.none,.none]}) rfl
 rw[wC]at z
 exact⟨⟨_,z,rfl⟩,h _ z ⟨_,uJ _ (uq _ rfl),rfl,rfl⟩ λb o x=>uJ _ (uJ _ x)⟩
end
section
variable{X:Cx}
end
end L2
end
noncomputable section
namespace L2
open PySem PySem.Spec PyProof.Rows
structure TopD(K:Wp)(w:vO)(a:uN)(kvs:Gc (Str×V)):Prop where
 ex:∃(es:vY DictEntry) (n:Nat),K.lookup a=Fk ⟨.type "dict",uK,.dict es n, #[]⟩/\PySem.W.KeysLit w.params es.toList/\(a==sysModules)=false/\∀x,mC (kvs.lookup x) (findBy ABO es x)
section
variable{X:Cx}
end
end L2
end
noncomputable section
namespace L2
open PySem PySem.Spec PyProof.Rows
def SIt(h:vF)(j l:uN)(i:Nat)(its:vY W1):Prop:=(h.IsListIter j l i/\h.IsList l its)\/(h.IsTupleIter j l i/\h.IsTuple l its)
section
variable{prog:ur}{w:vO}{A:vN}{E:W1->uM->Prop}{s:uM}{h h':vF}{j l:uN}{i:Nat}{its:vY W1}
theorem SIt.at(q:SIt h j l i its)(k1:∀o,h.get? j=Fk o->h'.get? j=Fk o)(k2:∀o,h.get? l=Fk o->h'.get? l=Fk o):SIt h' j l i its:=by
 rcases q with⟨a,b⟩|⟨a,b⟩
 .exact .inl ⟨a.at k1,b.at k2⟩
 .exact .inr ⟨a.at k1,let⟨o,e,r⟩:=b;⟨o,k2 o e,r⟩⟩
theorem SIt.but{c:uN}(q:SIt h j l i its)(sb:zw c h h')(n1:j≠c)(n2:l≠c):SIt h' j l i its:=q.at (λo e=>sb _ o n1 e) λo e=>sb _ o n2 e
theorem SIt.live(q:SIt h j l i its):∃o,h.get? j=Fk o/\∀v,o.data≠.cell v:=by
 rcases q with⟨⟨o,a,b,c⟩,_⟩|⟨⟨o,a,b,c⟩,_⟩
 .exact⟨o,a,λv z=>by rw[c]at z;cases z⟩
 .exact⟨o,a,λv z=>by rw[c]at z;cases z⟩
theorem SIt.ne(q:SIt h j l i its):l≠j:=by
 rcases q with⟨⟨o,a,b,_⟩,⟨o2,a2,b2,_⟩⟩|⟨⟨o,a,b,_⟩,⟨o2,a2,b2,_⟩⟩
 .intro z;subst z;rw[a]at a2;cases a2;rw[b]at b2;injection b2 with q;exact absurd q (by decide)
 .intro z;subst z;rw[a]at a2;cases a2;rw[b]at b2;injection b2 with q;exact absurd q (by decide)
theorem Nx{x:W1}{Q:W1->uM->Prop}(q:SIt s.heap j l i its)(hx:its[i]?=Fk x)(k:∀h',SIt h' j l (i+1) its->yc j s.heap h'->Q x {s with heap:=h'}):wpAny (model prog w) A (vU (.ref j)) Q E s:=by
 have n:=q.ne
 rcases q with⟨a,b⟩|⟨a,b⟩
 .exact wpAny_nextOf_list_item a b hx λh' a' sb=>k h' (.inl ⟨a',b.extBut sb.extBut n⟩) sb
 .exact aB a b hx λh' a' sb=>k h' (.inr ⟨a',let⟨o,e,r⟩:=b;⟨o,sb.extBut _ o n e,r⟩⟩) sb
theorem Nj{Q:W1->uM->Prop}(hh:A.handled=uK)(q:SIt s.heap j l i its)(hx:its[i]?=uK)(k:∀h' e,zw j s.heap h'->(∃o,h'.get? e=Fk o/\o.cls=.type "StopIteration")->E (.ref e) {s with heap:=h'}):wpAny (model prog w) A (vU (.ref j)) Q E s:=by
 rcases q with⟨a,b⟩|⟨a,b⟩
 .exact wpAny_nextOf_list_end hh a b hx k
 .exact bf hh a b hx k
theorem Xa{z ti tt j1 j2 l1 l2:uN}{m:Nat}{xs ys:vY W1}{x y u1 u2:W1}{Q:W1->uM->Prop}(D:ZipApart z ti tt j1 j2 l1 l2)(oz:ze s.heap z ti tt .none)(oi:xg s.heap ti (.ref j1) (.ref j2))(ot:xg s.heap tt u1 u2)(q1:SIt s.heap j1 l1 m xs)(q2:SIt s.heap j2 l2 m ys)(ex:xs[m]?=Fk x)(ey:ys[m]?=Fk y)(k:∀h',ze h' z ti tt (rawInt s.heap.objs.size)->xg h' tt x y->SIt h' j1 l1 (m+1) xs->SIt h' j2 l2 (m+1) ys->xg h' s.heap.objs.size x y->(∀c o,c≠z->c≠tt->c≠j1->c≠j2->s.heap.get? c=Fk o->h'.get? c=Fk o)->Q (.ref s.heap.objs.size) {s with heap:=h'}):wpAny (model prog w) A (yA.«zip.__next__» ⟨[.ref z],[]⟩) (λfin s'=>∃v,fin=.done (.ret v)/\Q v s') E s:=by
 show wpAny _ _ (field (.ref z) 2 >>= _) _ _ _
 refine uI (wM oz rfl (x:=.bool false) rfl ?_)
 show wpAny _ _ (field (.ref z) 3 >>= _) _ _ _
 refine uI (wM oz rfl (x:=.ref ti) rfl (uI (yE oi rfl ?_)))
 show wpAny _ _ (wQ (.ref z) >>= _) _ _ _
 refine uI ?_
 unfold wQ
 refine uI (wM oz rfl (x:=.none) rfl (uZ ?_))
 simp only[yi]
 refine uI (AAO (uI (wM oz rfl (x:=.ref tt) rfl (uI (xN oz (by simp) λg1 oz1 b1=>?_)))))
 have oz1:ze g1 z ti tt .ellipsis:=oz1
 refine uI ?_
 simp only[List.zipIdx_cons,List.zipIdx_nil,AAg,AA1]
 refine uI (uI (z6 ?_))
 show wpAny _ _ (vU (.ref j1) >>= _) _ _ _
 refine uI (Nx (q1.but b1.extBut D.i1z D.l1z) ex λg2 q12 b2=>uZ ?_)
 have ot2:xg g2 tt u1 u2:=b2.extBut _ _ D.TOi1 (b1.extBut _ _ D.TOz ot)
 refine uI (yE ot2 rfl (uI (zA ot2 λg3 ot3 b3=>?_)))
 have ot3:xg g3 tt x u2:=ot3
 refine uI (wpAny_letGo (uZ (uI (uI (z6 ?_)))))
 show wpAny _ _ (vU (.ref j2) >>= _) _ _ _
 refine uI (Nx (((q2.but b1.extBut D.i2z D.l2z).but b2.extBut D.i12.symm D.l2i1).but b3.extBut D.TOi2.symm D.l2TO) ey λg4 q24 b4=>uZ ?_)
 have ot4:xg g4 tt x u2:=b4.extBut _ _ D.TOi2 ot3
 refine uI (yE ot4 rfl (uI (zA ot4 λg5 ot5 b5=>?_)))
 have ot5:xg g5 tt x y:=ot5
 refine uI (wpAny_letGo (uZ (uZ (uI (yE ot5 rfl (uI (wpAny_newTuple ?_)))))))
 have sz:g5.objs.size=s.heap.objs.size:=by rw[b5.1,b4.1,b3.1,b2.1,b1.1]
 have oz5:ze g5 z ti tt .ellipsis:=b5.extBut _ _ D.TOz.symm (b4.extBut _ _ D.i2z.symm (b3.extBut _ _ D.TOz.symm (b2.extBut _ _ D.i1z.symm oz1)))
 have k5:∀c o,c≠z->c≠tt->c≠j1->c≠j2->s.heap.get? c=Fk o->g5.get? c=Fk o:=λc o c1 c2 c3 c4 e=>b5.extBut _ _ c2 (b4.extBut _ _ c4 (b3.extBut _ _ c2 (b2.extBut _ _ c3 (b1.extBut _ _ c1 e))))
 have q15:SIt g5 j1 l1 (m+1) xs:=((q12.but b3.extBut D.TOi1.symm D.l1TO).but b4.extBut D.i12 D.l1i2).but b5.extBut D.TOi1.symm D.l1TO
 have q25:SIt g5 j2 l2 (m+1) ys:=q24.but b5.extBut D.TOi2.symm D.l2TO
 have zlt:z<g5.objs.size:=ui oz5
 show wpAny _ _ (yN (.ref z) (.ref g5.objs.size) >>= _) _ _ _
 refine uI ?_
 unfold yN
 have oz6:ze (g5.push {cls:=.type "tuple",data:=.seq #[x,y]}) z ti tt .ellipsis:=uJ _ oz5
 refine uI (xN oz6 (by simp) λg7 oz7 b7=>?_)
 have oz7:ze g7 z ti tt (rawInt g5.objs.size):=oz7
 refine xN oz7 (by simp) λg8 oz8 b8=>?_
 have oz8:ze g8 z ti tt (rawInt g5.objs.size):=oz8
 have up:∀c o,c≠z->g5.get? c=Fk o->g8.get? c=Fk o:=λc o c1 e=>b8.extBut _ _ c1 (b7.extBut _ _ c1 (uJ _ e))
 have op8:xg g8 g5.objs.size x y:=b8.extBut _ _ (Nat.ne_of_gt zlt) (b7.extBut _ _ (Nat.ne_of_gt zlt) (uq _ rfl))
 rw[sz]at oz8 op8
 refine uZ ⟨_,rfl,?_⟩
 show Q (.ref g5.objs.size) _
 rw[sz]
 exact k g8 oz8 (up _ _ D.TOz ot5) (q15.at (λo e=>up _ o D.i1z e) λo e=>up _ o D.l1z e) (q25.at (λo e=>up _ o D.i2z e) λo e=>up _ o D.l2z e) op8 λc o c1 c2 c3 c4 e=>up c o c1 (k5 c o c1 c2 c3 c4 e)
theorem bN{z ti tt j1 j2 l1 l2:uN}{m:Nat}{xs ys:vY W1}{u1 u2:W1}{Q:Fin->uM->Prop}(hh:A.handled=uK)(D:ZipApart z ti tt j1 j2 l1 l2)(oz:ze s.heap z ti tt .none)(oi:xg s.heap ti (.ref j1) (.ref j2))(ot:xg s.heap tt u1 u2)(q1:SIt s.heap j1 l1 m xs)(q2:SIt s.heap j2 l2 m ys)(en:xs[m]?=uK\/ys[m]?=uK)(k:∀h' e,(∀c o,c≠z->c≠tt->c≠j1->c≠j2->s.heap.get? c=Fk o->h'.get? c=Fk o)->(∃o,h'.get? e=Fk o/\o.cls=.type "StopIteration")->E (.ref e) {s with heap:=h'}):wpAny (model prog w) A (yA.«zip.__next__» ⟨[.ref z],[]⟩) Q E s:=by
 show wpAny _ _ (field (.ref z) 2 >>= _) _ _ _
 refine uI (wM oz rfl (x:=.bool false) rfl ?_)
 show wpAny _ _ (field (.ref z) 3 >>= _) _ _ _
 refine uI (wM oz rfl (x:=.ref ti) rfl (uI (yE oi rfl ?_)))
 show wpAny _ _ (wQ (.ref z) >>= _) _ _ _
 refine uI ?_
 unfold wQ
 refine uI (wM oz rfl (x:=.none) rfl (uZ ?_))
 simp only[yi]
 refine uI (AAO (uI (wM oz rfl (x:=.ref tt) rfl (uI (xN oz (by simp) λg1 oz1 b1=>?_)))))
 have oz1:ze g1 z ti tt .ellipsis:=oz1
 refine uI ?_
 simp only[List.zipIdx_cons,List.zipIdx_nil,AAg,AA1]
 refine uI (uI (z6 ?_))
 show wpAny _ _ (vU (.ref j1) >>= _) _ _ _
 cases ex:xs[m]? with
 |none=>
  refine uI (Nj hh (q1.but b1.extBut D.i1z D.l1z) ex λg2 e b2 he=>?_)
  obtain⟨oe,e1,e2⟩:=he
  have oz2:ze g2 z ti tt .ellipsis:=b2 _ _ D.i1z.symm oz1
  have nez:e≠z:=λx=>by subst x;rw[oz2]at e1;cases e1;simp at e2
  exact xN oz2 (by simp) λg3 _ b3=>k g3 e (λc o c1 _ c3 _ x=>b3.extBut _ _ c1 (b2 _ _ c3 (b1.extBut _ _ c1 x))) ⟨oe,b3.extBut _ _ nez e1,e2⟩
 |some x=>
  have ey:ys[m]?=none:=by
   rcases en with z|z
   .rw[ex]at z;cases z
   .exact z
  refine uI (Nx (q1.but b1.extBut D.i1z D.l1z) ex λg2 q12 b2=>uZ ?_)
  have ot2:xg g2 tt u1 u2:=b2.extBut _ _ D.TOi1 (b1.extBut _ _ D.TOz ot)
  refine uI (yE ot2 rfl (uI (zA ot2 λg3 ot3 b3=>?_)))
  refine uI (wpAny_letGo (uZ (uI (uI (z6 ?_)))))
  show wpAny _ _ (vU (.ref j2) >>= _) _ _ _
  refine uI (Nj hh (((q2.but b1.extBut D.i2z D.l2z).but b2.extBut D.i12.symm D.l2i1).but b3.extBut D.TOi2.symm D.l2TO) ey λg4 e b4 he=>?_)
  obtain⟨oe,e1,e2⟩:=he
  have oz4:ze g4 z ti tt .ellipsis:=b4 _ _ D.i2z.symm (b3.extBut _ _ D.TOz.symm (b2.extBut _ _ D.i1z.symm oz1))
  have nez:e≠z:=λx=>by subst x;rw[oz4]at e1;cases e1;simp at e2
  exact xN oz4 (by simp) λg5 _ b5=>k g5 e (λc o c1 c2 c3 c4 x=>b5.extBut _ _ c1 (b4 _ _ c4 (b3.extBut _ _ c2 (b2.extBut _ _ c3 (b1.extBut _ _ c1 x))))) ⟨oe,b5.extBut _ _ nez e1,e2⟩
theorem Vz{z ti tt j1 j2 l1 l2:uN}{m:Nat}{xs ys:vY W1}{x y u1 u2:W1}{Q:uL W1->uM->Prop}(D:ZipApart z ti tt j1 j2 l1 l2)(oz:ze s.heap z ti tt .none)(oi:xg s.heap ti (.ref j1) (.ref j2))(ot:xg s.heap tt u1 u2)(q1:SIt s.heap j1 l1 m xs)(q2:SIt s.heap j2 l2 m ys)(ex:xs[m]?=Fk x)(ey:ys[m]?=Fk y)(k:∀h',ze h' z ti tt (rawInt s.heap.objs.size)->xg h' tt x y->SIt h' j1 l1 (m+1) xs->SIt h' j2 l2 (m+1) ys->xg h' s.heap.objs.size x y->(∀c o,c≠z->c≠tt->c≠j1->c≠j2->s.heap.get? c=Fk o->h'.get? c=Fk o)->Q (Fk (.ref s.heap.objs.size)) {s with heap:=h'}):wpAny (model prog w) A (pyNext (.ref z)) Q E s:=by
 have ht:s.TypeIs (.ref z) "zip":=⟨_,oz,rfl⟩
 unfold pyNext
 exact uI (wpAny_attempt (v5 (name:=vw "__next__") ht zE (wV zE ht F.entry_zip_next
  (Xa D oz oi ot q1 q2 ex ey λh' a1 a2 a3 a4 a5 a6=>uZ (k h' a1 a2 a3 a4 a5 a6)) (F.args_zip_next_1 _))))
theorem YU{z ti tt j1 j2 l1 l2:uN}{m:Nat}{xs ys:vY W1}{u1 u2:W1}{Q:uL W1->uM->Prop}(hh:A.handled=uK)(D:ZipApart z ti tt j1 j2 l1 l2)(oz:ze s.heap z ti tt .none)(oi:xg s.heap ti (.ref j1) (.ref j2))(ot:xg s.heap tt u1 u2)(q1:SIt s.heap j1 l1 m xs)(q2:SIt s.heap j2 l2 m ys)(en:xs[m]?=uK\/ys[m]?=uK)(k:∀h',(∀c o,c≠z->c≠tt->c≠j1->c≠j2->s.heap.get? c=Fk o->h'.get? c=Fk o)->Q uK {s with heap:=h'}):wpAny (model prog w) A (pyNext (.ref z)) Q E s:=by
 have ht:s.TypeIs (.ref z) "zip":=⟨_,oz,rfl⟩
 unfold pyNext
 refine uI (wpAny_attempt (v5 (name:=vw "__next__") ht zE (wV zE ht F.entry_zip_next
  (bN hh D oz oi ot q1 q2 en λh' e kp he=>?_) (F.args_zip_next_1 _))))
 obtain⟨o,e1,e2⟩:=he
 exact uI (wpAny_isInstance (T:="StopIteration") (b:=true) ⟨o,e1,e2⟩ isSubtype_stop (uZ (k _ kp)))
end
end L2
end
noncomputable section
namespace L2
open PySem PySem.Spec PyProof.Rows
def PR(h:vF)(b:vL)(l:uN)(its:vY W1):Prop:=match b with|true=>h.IsTuple l its|false=>h.IsList l its
noncomputable def ko:vL->xI|true=>"tuple_iterator" |false=>"list_iterator"
noncomputable def zh1(h:vF)(b:vL)(l:uN):vF:=h.push {cls:=.type (ko b),data:=.fields #[.ref l,.int 0 0]}
noncomputable def zh2(h:vF)(b c:vL)(l m:uN):vF:=zh1 (zh1 h b l) c m
noncomputable def zh3(h:vF)(b c:vL)(l m:uN):vF:=(zh2 h b c l m).push {cls:=.type "tuple",data:=.seq #[.ref h.objs.size,.ref (zh1 h b l).objs.size]}
noncomputable def zh4(h:vF)(b c:vL)(l m:uN):vF:=(zh3 h b c l m).push {cls:=.type "tuple",data:=.seq #[.none,.none]}
noncomputable def zh5(h:vF)(b c:vL)(l m:uN):vF:=(zh4 h b c l m).push {cls:=.type "zip",data:=.fields #[.none,.bool false,.bool false,.ref (zh2 h b c l m).objs.size,.ref (zh3 h b c l m).objs.size]}
theorem PR.push{h:vF}{b:vL}{l:uN}{its:vY W1}(q:PR h b l its)(o:Obj):PR (h.push o) b l its:=by
 cases b
 .exact Heap.IsList.push q _
 .obtain⟨u,e,r⟩:=(show h.IsTuple l its from q)
  exact⟨u,uJ _ e,r⟩
theorem bz(b c:vL)(l m:uN)(xs ys:vY W1):Meets (yA.«zip.__new__» ⟨[.type "zip",.ref l,.ref m],[]⟩) (λ_ R s=>PR s.heap b l xs/\PR s.heap c m ys/\R (.ok (.ret (.ref (zh4 s.heap b c l m).objs.size))) {s with heap:=zh5 s.heap b c l m}):=
 .of_wp λprog w A R s hyp=>by
  obtain⟨hp,gs,dr,tk,os⟩:=s
  obtain⟨i1,i2,hyp⟩:=hyp
  have hsub:=sub_zip
  have i3:PR (xX ⟨zh1 hp b l,gs,dr,tk,os⟩) c m ys:=PR.push i2 _
  cases b<;>cases c
  .have a1:AA2 (xX ⟨hp,gs,dr,tk,os⟩) l xs:=i1
   have a2:AA2 (xX ⟨hp.push {cls:=.type "list_iterator",data:=.fields #[.ref l,.int 0 0]},gs,dr,tk,os⟩) m ys:=i3
   wp_walk using wZ a1,wZ a2
   exact⟨_,rfl,hyp⟩
  .have a1:AA2 (xX ⟨hp,gs,dr,tk,os⟩) l xs:=i1
   have a2:zK (xX ⟨hp.push {cls:=.type "list_iterator",data:=.fields #[.ref l,.int 0 0]},gs,dr,tk,os⟩) m ys:=i3
   wp_walk using wZ a1,wj a2
   exact⟨_,rfl,hyp⟩
  .have a1:zK (xX ⟨hp,gs,dr,tk,os⟩) l xs:=i1
   have a2:AA2 (xX ⟨hp.push {cls:=.type "tuple_iterator",data:=.fields #[.ref l,.int 0 0]},gs,dr,tk,os⟩) m ys:=i3
   wp_walk using wj a1,wZ a2
   exact⟨_,rfl,hyp⟩
  .have a1:zK (xX ⟨hp,gs,dr,tk,os⟩) l xs:=i1
   have a2:zK (xX ⟨hp.push {cls:=.type "tuple_iterator",data:=.fields #[.ref l,.int 0 0]},gs,dr,tk,os⟩) m ys:=i3
   wp_walk using wj a1,wj a2
   exact⟨_,rfl,hyp⟩
section
variable{prog:ur}{w:vO}{A:vN}{E:W1->uM->Prop}{s:uM}
theorem cL{h h':vF}{b:vL}{l j:uN}{its:vY W1}(q:PR h b l its)(k:∀c o,h.get? c=Fk o->h'.get? c=Fk o)(e:h'.get? j=Fk {cls:=.type (ko b),data:=.fields #[.ref l,.int 0 0]}):SIt h' j l 0 its:=by
 cases b
 .exact .inl ⟨⟨_,e,rfl,rfl⟩,(show h.IsList l its from q).at λo z=>k _ o z⟩
 .exact .inr ⟨⟨_,e,rfl,rfl⟩,let⟨o,z,r⟩:=(show h.IsTuple l its from q);⟨o,k _ o z,r⟩⟩
theorem YJ{b c:vL}{l m:uN}{xs ys:vY W1}{Q:W1->uM->Prop}(i1:PR s.heap b l xs)(i2:PR s.heap c m ys)(k:∀h',ze h' (s.heap.objs.size+4) (s.heap.objs.size+2) (s.heap.objs.size+3) .none->xg h' (s.heap.objs.size+2) (.ref s.heap.objs.size) (.ref (s.heap.objs.size+1))->xg h' (s.heap.objs.size+3) .none .none->SIt h' s.heap.objs.size l 0 xs->SIt h' (s.heap.objs.size+1) m 0 ys->(∀c o,s.heap.get? c=Fk o->h'.get? c=Fk o)->Q (.ref (s.heap.objs.size+4)) {s with heap:=h'}):wpAny (model prog w) A (call (.type "zip") [.ref l,.ref m]) Q E s:=by
 refine callType_new F.called_zip (by decide) (F.typeCall_zip_2 _ _) (F.newCall_zip_2 _ _) (λobj=>F.args_object_init_3 obj _ _) F.entry_zip_new (bz b c l m xs ys) ⟨i1,i2,?_⟩
 have z1:(zh1 s.heap b l).objs.size=s.heap.objs.size+1:=wC ..
 have z2:(zh2 s.heap b c l m).objs.size=s.heap.objs.size+2:=by unfold zh2 zh1;rw[wC];exact congrArg (· +1) z1
 have z3:(zh3 s.heap b c l m).objs.size=s.heap.objs.size+3:=by unfold zh3;rw[wC,z2]
 have z4:(zh4 s.heap b c l m).objs.size=s.heap.objs.size+4:=by unfold zh4;rw[wC,z3]
 have kp:∀d o,s.heap.get? d=Fk o->(zh5 s.heap b c l m).get? d=Fk o:=λd o e=>by
  unfold zh5 zh4 zh3 zh2 zh1
  exact uJ _ (uJ _ (uJ _ (uJ _ (uJ _ e))))
 have g5:(zh5 s.heap b c l m).get? (zh4 s.heap b c l m).objs.size=Fk _:=uq _ rfl
 have g4:(zh5 s.heap b c l m).get? (zh3 s.heap b c l m).objs.size=Fk _:=uJ _ (uq _ rfl)
 have g3:(zh5 s.heap b c l m).get? (zh2 s.heap b c l m).objs.size=Fk _:=uJ _ (uJ _ (uq _ rfl))
 have g2:(zh5 s.heap b c l m).get? (zh1 s.heap b l).objs.size=Fk _:=uJ _ (uJ _ (uJ _ (uq _ rfl)))
 have g1:(zh5 s.heap b c l m).get? s.heap.objs.size=Fk _:=uJ _ (uJ _ (uJ _ (uJ _ (uq _ rfl))))
 show _/\_
 rw[z2,z3,z4]at g5
 rw[z1,z2]at g3
 rw[z3]at g4
 rw[z1]at g2
 rw[z4]
 exact⟨⟨_,g5,rfl⟩,k _ g5 g3 g4 (cL i1 kp g1) (cL i2 kp g2) kp⟩
end
end L2
end
noncomputable section
namespace L2
open PySem PySem.Spec PyProof.Rows
def SqB(K:Wp)(H:Hp)(k:vL)(a:uN)(xs:Gc V):Prop:=match k with|true=>SqT K H a xs|false=>SqL K H a xs
def JIt(h:vF)(k:vL)(j l:uN)(i:Nat):Prop:=match k with|true=>h.IsTupleIter j l i|false=>h.IsListIter j l i
theorem JIt.at{h h':vF}{k:vL}{j l:uN}{i:Nat}(q:JIt h k j l i)(e:∀o,h.get? j=Fk o->h'.get? j=Fk o):JIt h' k j l i:=by
 cases k
 .exact Heap.IsListIter.at q e
 .exact Heap.IsTupleIter.at q e
theorem JIt.sit{h:vF}{k:vL}{j l:uN}{i:Nat}{its:vY W1}(q:JIt h k j l i)(p:PR h k l its):SIt h j l i its:=by
 cases k
 .exact .inl ⟨q,p⟩
 .exact .inr ⟨q,p⟩
theorem SIt.jit{h:vF}{k:vL}{j l:uN}{i:Nat}{its:vY W1}(q:SIt h j l i its)(p:PR h k l its):JIt h k j l i:=by
 rcases q with⟨q,r⟩|⟨q,r⟩
 .cases k
  .exact q
  .obtain⟨o,e,c,_⟩:=r;obtain⟨o',e',c',_⟩:=(show h.IsTuple l its from p)
   rw[e]at e';cases e';rw[c]at c';injection c' with z;exact absurd z (by decide)
 .cases k
  .obtain⟨o,e,c,_⟩:=r;obtain⟨o',e',c',_⟩:=(show h.IsList l its from p)
   rw[e]at e';cases e';rw[c]at c';injection c' with z;exact absurd z (by decide)
  .exact q
theorem Inv.sqB{X:Cx}{pins:Gc (uN×Obj)}{σ:St}{H:Hp}{s:uM}{k:vL}{a:uN}{xs:Gc V}(I:Inv X pins σ H s)(h:SqB X.K H k a xs):∃its:Gc W1,Vals xs its/\PR s.heap k a its.toArray:=by
 cases k
 .obtain⟨its,h1,⟨o,n,q1,q2,_,q3⟩,h3⟩:=I.list h
  exact⟨its,h1,o,q1,q2,n,q3⟩
 .obtain⟨its,h1,h2,h3⟩:=I.tuple h
  exact⟨its,h1,h2⟩
theorem Inv.UD{X:Cx}{pins:Gc (uN×Obj)}{σ:St}{H:Hp}{s:uM}{k:vL}{a:uN}{xs ys:Gc V}(I:Inv X pins σ H s)(h:SqB X.K H k a xs)(g:SqB X.K H k a ys):xs=ys:=by
 cases k
 .exact I.U7 h g
 .exact I.SQ h g
noncomputable def Itz(K:Wp)(k:vL)(a:uN)(m:vL)(b:uN):It:=
 ⟨λi H=>∃(xs ys:Gc V) (x y:V),SqB K H k a xs/\SqB K H m b ys/\xs[i]?=Fk x/\ys[i]?=Fk y,
  λi H v H'=>∃(p:uN) (x y:V),H p=uK/\v=.ref p/\(∀xs,SqB K H k a xs->xs[i]?=Fk x)/\(∀ys,SqB K H m b ys->ys[i]?=Fk y)/\H'=upd H p (.tup [x,y]),
  λi H=>∃(xs ys:Gc V),SqB K H k a xs/\SqB K H m b ys/\(xs.length<=i\/ys.length<=i)⟩
structure ZSt(h:vF)(z ti tt j1 j2:uN)(k:vL)(a:uN)(m:vL)(b:uN)(i:Nat):Prop where
 oz:ze h z ti tt .none
 oi:xg h ti (.ref j1) (.ref j2)
 ot:∃u v,xg h tt u v
 q1:JIt h k j1 a i
 q2:JIt h m j2 b i
structure ZNe(z ti tt j1 j2:uN):Prop where
 n1:ti≠z
 n2:tt≠z
 n3:j1≠z
 n4:j2≠z
 n5:ti≠tt
 n6:ti≠j1
 n7:ti≠j2
 n8:tt≠j1
 n9:tt≠j2
 n10:j1≠j2
theorem ZNe.apart{z ti tt j1 j2 a b:uN}(N:ZNe z ti tt j1 j2)(ha:a∉ [z,tt,j1,j2])(hb:b∉ [z,tt,j1,j2]):ZipApart z ti tt j1 j2 a b:=by
 simp only[uQ,ug,vd,AA3]at ha hb
 exact⟨N.n1,N.n2,N.n3,N.n4,N.n5,N.n6,N.n7,N.n8,N.n9,N.n10,ha.1,ha.2.1,ha.2.2.1,ha.2.2.2,hb.1,hb.2.1,hb.2.2.1,hb.2.2.2⟩
theorem B4{X:Cx}{pins:Gc (uN×Obj)}{σ:St}{H:Hp}{s:uM}{k:vL}{a c:uN}{xs:Gc V}(I:Inv X pins σ H s)(q:SqB X.K H k a xs)(f:Tj X pins H c):a≠c:=by
 intro e
 subst e
 have rd:∀o,Rd H a o->xB:=λo r=>by
  rcases r with r|⟨_,r⟩<;>(rw[f.1]at r;cases r)
 have kk:∀o,X.K.lookup a=Fk o->xB:=λo hk=>by
  have b:=I.ok.mod.kin a o hk
  rcases f.2.2.2.1 with z|z
  .exact I.ok.cQ a o b z
  .exact absurd (uO (ui (I.ok.bs a o b).1) z) (wD _)
 cases k
 .rcases(show SqL X.K H a xs from q)with q|⟨o,_,_,hk,_⟩
  .exact rd _ q
  .exact kk o hk
 .rcases(show SqT X.K H a xs from q)with q|⟨o,_,_,hk,_⟩
  .exact rd _ q
  .exact kk o hk
theorem Zn{P:ur}{w:vO}{K:Wp}{elts:Gc uu}{n:Nat}{pos:Pos}(k:vL)(a:uN)(m:vL)(b:uN)(z ti tt j1 j2:uN)(N:ZNe z ti tt j1 j2):Turn P w K (.Tuple elts n pos) (Itz K k a m b) [z,ti,tt,j1,j2] z (λi h=>ZSt h z ti tt j1 j2 k a m b i) where
 mem:=by simp
 obj:=λi h st c hc=>by
  have jl:∀{q:vL} {j l:uN},JIt h q j l i->∃o,h.get? j=Fk o/\∀v,o.data≠.cell v:=λ{q j l} x=>by
   cases q
   .obtain⟨o,e,_,d⟩:=(show h.IsListIter j l i from x)
    exact⟨o,e,λv z=>by rw[d]at z;cases z⟩
   .obtain⟨o,e,_,d⟩:=(show h.IsTupleIter j l i from x)
    exact⟨o,e,λv z=>by rw[d]at z;cases z⟩
  simp only[uQ,ug,vd]at hc
  rcases hc with rfl|rfl|rfl|rfl|rfl
  .exact⟨_,st.oz,λv z=>nomatch z⟩
  .exact⟨_,st.oi,λv z=>nomatch z⟩
  .obtain⟨u,v,e⟩:=st.ot
   exact⟨_,e,λv z=>nomatch z⟩
  .exact jl st.q1
  .exact jl st.q2
 keep:=λi h h' st kp=>⟨kp z (by simp) _ st.oz,kp ti (by simp) _ st.oi,let⟨u,v,e⟩:=st.ot;⟨u,v,kp tt (by simp) _ e⟩,st.q1.at λo e=>kp j1 (by simp) o e,st.q2.at λo e=>kp j2 (by simp) o e⟩
 item:=by
  intro X hP hw hK hc i pins s σ H E I hf st hg
  subst hP hw hK
  obtain⟨xs,ys,x,y,s1,s2,e1,e2⟩:=hg
  obtain⟨i1,r1,p1⟩:=I.sqB s1
  obtain⟨i2,r2,p2⟩:=I.sqB s2
  obtain⟨u1,h1,ru1⟩:=r1.get e1
  obtain⟨u2,h2,ru2⟩:=r2.get e2
  have fz:=hf z (by simp);have fi:=hf ti (by simp);have ft:=hf tt (by simp);have f1:=hf j1 (by simp);have f2:=hf j2 (by simp)
  have ap:=N.apart (a:=a) (b:=b) (by simp[B4 I s1 fz,B4 I s1 ft,B4 I s1 f1,B4 I s1 f2]) (by simp[B4 I s2 fz,B4 I s2 ft,B4 I s2 f1,B4 I s2 f2])
  obtain⟨v1,v2,ot⟩:=st.ot
  refine Vz ap st.oz st.oi ot (st.q1.sit p1) (st.q2.sit p2) (x:=u1) (y:=u2) (by simpa using h1) (by simpa using h2) λh' oz ot' q1 q2 op kp=>⟨_,rfl,wpAny_letOwnedTupleGo_zip oz λg oz' sb=>?_⟩
  have lt:∀c o,s.heap.get? c=Fk o->c≠s.heap.objs.size:=λc o q=>vK (ui q)
  have nz:z≠s.heap.objs.size:=lt _ _ st.oz
  have nt:tt≠s.heap.objs.size:=lt _ _ ot
  have n1:j1≠s.heap.objs.size:=by obtain⟨o,e,_⟩:=(st.q1.sit p1).live;exact lt _ _ e
  have n2:j2≠s.heap.objs.size:=by obtain⟨o,e,_⟩:=(st.q2.sit p2).live;exact lt _ _ e
  have kp2:∀c o,c≠z->c≠tt->c≠j1->c≠j2->s.heap.get? c=Fk o->g.get? c=Fk o:=λc o c1 c2 c3 c4 q=>(sb.2 c c1).trans (kp c o c1 c2 c3 c4 q)
  have fr:H s.heap.objs.size=none:=I.hok.fresh (uV _)
  have op2:g.get? s.heap.objs.size=Fk {cls:=.type "tuple",data:=.seq #[u1,u2]}:=(sb.2 _ (wR nz)).trans op
  have ne:∀c u,c∈ [z,ti,tt,j1,j2]->∀d,H d=Fk u->d≠c:=λc u hc d q e=>by rw[e,(hf c hc).1]at q;cases q
  have kpH:∀c u,H c=Fk u->∀o,s.heap.get? c=Fk o->g.get? c=Fk o:=λc u q o e=>kp2 c o (ne z u (by simp) c q) (ne tt u (by simp) c q) (ne j1 u (by simp) c q) (ne j2 u (by simp) c q) e
  have ka:∀o,s.heap.get? a=Fk o->g.get? a=Fk o:=λo e=>kp2 a o (B4 I s1 fz) (B4 I s1 ft) (B4 I s1 f1) (B4 I s1 f2) e
  have kb:∀o,s.heap.get? b=Fk o->g.get? b=Fk o:=λo e=>kp2 b o (B4 I s2 fz) (B4 I s2 ft) (B4 I s2 f1) (B4 I s2 f2) e
  have sq:∀{q:vL} {d:uN} {is:vY W1},PR s.heap q d is->(∀o,s.heap.get? d=Fk o->h'.get? d=Fk o)->PR h' q d is:=λ{q d is} x kd=>by
   cases q
   .exact(show s.heap.IsList d is from x).at kd
   .obtain⟨o,e,r⟩:=(show s.heap.IsTuple d is from x)
    exact⟨o,kd o e,r⟩
  have ka1:∀o,s.heap.get? a=Fk o->h'.get? a=Fk o:=λo e=>kp a o (B4 I s1 fz) (B4 I s1 ft) (B4 I s1 f1) (B4 I s1 f2) e
  have kb1:∀o,s.heap.get? b=Fk o->h'.get? b=Fk o:=λo e=>kp b o (B4 I s2 fz) (B4 I s2 ft) (B4 I s2 f1) (B4 I s2 f2) e
  refine⟨.ref s.heap.objs.size,upd H s.heap.objs.size (.tup [x,y]),?_,rfl,⟨_,x,y,fr,rfl,λzs hz=>by rw[I.UD hz s1];exact e1,λzs hz=>by rw[I.UD hz s2];exact e2,rfl⟩,⟨oz',(sb.2 _ N.n1).trans (kp ti _ N.n1 N.n5 N.n6 N.n7 st.oi),⟨_,_,(sb.2 _ N.n2).trans ot'⟩,(q1.jit (sq p1 ka1)).at λo e=>(sb.2 _ N.n3).trans e,(q2.jit (sq p2 kb1)).at λo e=>(sb.2 _ N.n4).trans e⟩,?_⟩
  .show Inv X pins σ _ {s with heap:=g,gens:=s.gens,drawn:=s.drawn,toks:=s.toks}
   refine I.step (g':=s.gens) (d':=s.drawn) (ch:=[z,tt,j1,j2]) ?_ ?_ ?_ ?_ ?_ ?_ ?_ ?_ ?_ ?_ I.bare
   .intro c hc
    have q:Tj X pins H c:=hf c (by simp only[uQ,ug,vd]at hc ⊢; rcases hc with z|z|z|z<;>simp[z])
    exact⟨q.2.2.2.1,q.2.1,q.2.2.2.2.1,q.2.2.2.2.2⟩
   .exact λc o _ _ hc q _=>by
     simp only[uQ,ug,vd,AA3]at hc
     exact kp2 c o hc.1 hc.2.1 hc.2.2.1 hc.2.2.2 q
   .exact λc o _ _ hc q _=>by
     simp only[uQ,ug,vd,AA3]at hc
     exact⟨o.slots,kp2 c o hc.1 hc.2.1 hc.2.2.1 hc.2.2.2 q⟩
   .exact λc o _ q n=>by rw[An (lt c o q)];exact n
   .exact λc o hc q=>by
     simp only[uQ,ug,vd,AA3]at hc
     exact⟨o,kp2 c o hc.1 hc.2.1 hc.2.2.1 hc.2.2.2 q⟩
   .exact λc ys q=>by rw[An (Bv q fr)];exact q
   .exact λc o u q=>by rw[An (Bv q fr)];exact q
   .exact λc ps q=>⟨#[],by rw[An (Bv q fr),q];simp⟩
   .rintro mm ⟨o,es,ep,ho,r⟩
    exact⟨o,es,ep,kp2 _ o (wR fz.2.1) (wR ft.2.1) (wR f1.2.1) (wR f2.2.1) ho,r⟩
   .intro c v q
    by_cases hb:c=s.heap.objs.size
    .subst hb
     rw[Bf]at q
     cases q
     exact⟨by show 2<=sizeLine;decide,[u1,u2],.cons ru1 (.cons ru2 .nil),⟨_,op2,rfl,0,rfl⟩⟩
    .rw[An hb]at q
     refine(I.hok c v q).Yv (λd o hd r=>?_) (λd r=>by rw[An (Bv r fr)];exact r) (λd ys r=>by rw[An (Bv r fr)];exact r)
     rcases hd with e|e
     .rw[e]at r ⊢; exact kpH c v q o r
     .exact kpH d _ e o r
  .intro c hc
   have q:=hf c hc
   have:c≠s.heap.objs.size:=by
    simp only[uQ,ug,vd]at hc
    rcases hc with e|e|e|e|e
    .rw[e];exact nz
    .rw[e];exact lt _ _ st.oi
    .rw[e];exact nt
    .rw[e];exact n1
    .rw[e];exact n2
   rw[An this];exact q.1
 done:=by
  intro X hP hw hK hc i pins s σ H E I hf st hg
  subst hP hw hK
  obtain⟨xs,ys,s1,s2,e⟩:=hg
  obtain⟨i1,r1,p1⟩:=I.sqB s1
  obtain⟨i2,r2,p2⟩:=I.sqB s2
  have l1:=r1.length
  have l2:=r2.length
  have hh:X.A.in1.handled=none:=I.ok.hd hc
  have hh0:X.A.handled=none:=I.ok.hd hc
  have fz:=hf z (by simp);have fi:=hf ti (by simp);have ft:=hf tt (by simp);have f1:=hf j1 (by simp);have f2:=hf j2 (by simp)
  have ap:=N.apart (a:=a) (b:=b) (by simp[B4 I s1 fz,B4 I s1 ft,B4 I s1 f1,B4 I s1 f2]) (by simp[B4 I s2 fz,B4 I s2 ft,B4 I s2 f1,B4 I s2 f2])
  obtain⟨v1,v2,ot⟩:=st.ot
  refine YU hh0 ap st.oz st.oi ot (st.q1.sit p1) (st.q2.sit p2) (by rcases e with e|e;exact .inl (by simp;lia);exact .inr (by simp;lia)) λh' kp=>⟨rfl,?_⟩
  have ne:∀c u,c∈ [z,ti,tt,j1,j2]->∀d,H d=Fk u->d≠c:=λc u hc d q e=>by rw[e,(hf c hc).1]at q;cases q
  show Inv X pins σ _ {s with heap:=h',gens:=s.gens,drawn:=s.drawn,toks:=s.toks}
  refine I.step (g':=s.gens) (d':=s.drawn) (ch:=[z,tt,j1,j2]) ?_ ?_ ?_ ?_ ?_ ?_ ?_ ?_ ?_ ?_ I.bare
  .intro c hc
   have q:Tj X pins H c:=hf c (by simp only[uQ,ug,vd]at hc ⊢; rcases hc with z|z|z|z<;>simp[z])
   exact⟨q.2.2.2.1,q.2.1,q.2.2.2.2.1,q.2.2.2.2.2⟩
  .exact λc o _ _ hc q _=>by
    simp only[uQ,ug,vd,AA3]at hc
    exact kp c o hc.1 hc.2.1 hc.2.2.1 hc.2.2.2 q
  .exact λc o _ _ hc q _=>by
    simp only[uQ,ug,vd,AA3]at hc
    exact⟨o.slots,kp c o hc.1 hc.2.1 hc.2.2.1 hc.2.2.2 q⟩
  .exact λc o _ q n=>n
  .exact λc o hc q=>by
    simp only[uQ,ug,vd,AA3]at hc
    exact⟨o,kp c o hc.1 hc.2.1 hc.2.2.1 hc.2.2.2 q⟩
  .exact λc ys q=>q
  .exact λc o u q=>q
  .exact λc ps q=>⟨#[],by rw[q];simp⟩
  .rintro mm ⟨o,es,ep,ho,r⟩
   exact⟨o,es,ep,kp _ o (wR fz.2.1) (wR ft.2.1) (wR f1.2.1) (wR f2.2.1) ho,r⟩
  .intro c v q
   refine(I.hok c v q).Yv (λd o hd r=>?_) (λd r=>r) (λd ys r=>r)
   rcases hd with e|e
   .rw[e]at r ⊢; exact kp c o (ne z v (by simp) c q) (ne tt v (by simp) c q) (ne j1 v (by simp) c q) (ne j2 v (by simp) c q) r
   .exact kp d o (ne z _ (by simp) d e) (ne tt _ (by simp) d e) (ne j1 _ (by simp) d e) (ne j2 _ (by simp) d e) r
 self:=λ_ _ _ _ _ st h=>wpAny_pyIter_zip st.oz h
end L2
end
noncomputable section
namespace L2
open PySem PySem.Spec PyProof.Rows
theorem zne(n:Nat):ZNe (n+4) (n+2) (n+3) n (n+1):=⟨λe=>by have:n+2=n+4:=e;lia,λe=>by have:n+3=n+4:=e;lia,λe=>by have:n=n+4:=e;lia,λe=>by have:n+1=n+4:=e;lia,λe=>by have:n+2=n+3:=e;lia,λe=>by have:n+2=n:=e;lia,λe=>by have:n+2=n+1:=e;lia,λe=>by have:n+3=n:=e;lia,λe=>by have:n+3=n+1:=e;lia,λe=>by have:n=n+1:=e;lia⟩
section
variable{X:Cx}
noncomputable def sY(K:Wp)(ta:TA):TI:=λσ H R=>ta σ H λvs H1=>∃k a m b,vs=[.ref a,.ref b]/\(∃xs,SqB K H1 k a xs)/\(∃ys,SqB K H1 m b ys)/\R (Itz K k a m b) H1
theorem jP{a b:uu}{ta:TA}{p pos tp:Pos}{elts:Gc uu}{n:Nat}(hg:Gl X "zip")(hm:X.mg "zip"=uK)(ha:PA X [a,b] ta)(hs:uo [a,b] X.env=[(false,eval a X.env),(false,eval b X.env)]:=by rfl)(hs2:uo [b] X.env=[(false,eval b X.env)]:=by rfl):PI X (.Tuple elts n tp) (.Call (.Name "zip" p) [a,b] [] pos) (sY X.K ta):=by
 intro pins s σ H R I h
 refine Call_ (Mn I hg hm boot_zip (wW (thn (ha pos pins s σ H _ I h) λus s1 ⟨vs,H1,I1,r1,q1⟩=>?_) (by rw[hs,hs2]) (by rw[hs2];rfl)))
 obtain⟨k,a',m,b',e,⟨xs,hq⟩,⟨ys,hr⟩,q⟩:=q1
 subst e
 obtain⟨u,v,rfl,ru,rv⟩:=r1.two
 cases (show u=vi a' from ru)
 cases (show v=vi b' from rv)
 obtain⟨i1,v1,p1⟩:=I1.sqB hq
 obtain⟨i2,v2,p2⟩:=I1.sqB hr
 refine YJ p1 p2 λh' oz oi ot q1 q2 kp=>wpAny_pyIter_zip (s:={s1 with heap:=h'}) oz ?_
 have sq:∀{q:vL} {d:uN} {is:vY W1},PR s1.heap q d is->PR h' q d is:=λ{q d is} x=>by
  cases q
  .exact(show s1.heap.IsList d is from x).at λo e=>kp _ o e
  .obtain⟨o,e,r⟩:=(show s1.heap.IsTuple d is from x)
   exact⟨o,kp _ o e,r⟩
 refine⟨s1.heap.objs.size+4,[s1.heap.objs.size+4,s1.heap.objs.size+2,s1.heap.objs.size+3,s1.heap.objs.size,s1.heap.objs.size+1],_,_,H1,rfl,I1.kept (t':=s1.toks) kp,
  Zn k a' m b' _ _ _ _ _ (zne s1.heap.objs.size),⟨oz,oi,⟨_,_,ot⟩,q1.jit (sq p1),q2.jit (sq p2)⟩,λc hc=>?_,q⟩
 simp only[uQ,ug,vd]at hc
 have:s1.heap.objs.size<=c:=by rcases hc with rfl|rfl|rfl|rfl|rfl<;>first|exact uV _|exact Nat.le_add_right _ _
 exact I1.fR this (I1.hok.fresh this)
end
end L2
end
noncomputable section
namespace L2
open PySem PySem.Spec PyProof.Rows
section
variable{prog:ur}{w:vO}{A:vN}{E:W1->uM->Prop}{s:uM}
theorem IsList.Us{h h':vF}{a:uN}{items:vY W1}(p:h.IsList a items)(k:∀o,h.get? a=Fk o->h'.get? a=Fk o):h'.IsList a items:=by
 obtain⟨o,ho,r⟩:=p
 exact⟨o,k o ho,r⟩
theorem Ro{it t:uN}{items:vY W1}(hne:t≠it):∀(n i:Nat) (s:uM) (Q:Gc W1->uM->Prop),s.heap.IsListIter it t i->s.heap.IsList t items->i+n<=items.size->(∀h',h'.IsListIter it t (i+n)->yc it s.heap h'->Q ((items.toList.drop i).take n) {s with heap:=h'})->wpAny (model prog w) A (draw (.ref it) n) Q E s
 |0,i,s,Q,hit,_,_,hQ=>by
  show wpAny _ _ (pure []) Q E s
  exact uZ (by simpa using hQ s.heap hit (Heap.SameBut.refl ..))
 |n+1,i,s,Q,hit,ht,hle,hQ=>by
  have hlt:i<items.size:=by lia
  show wpAny _ _ (pyNext (.ref it) >>= _) Q E s
  refine uI (yd hit ht (x:=items[i]) (by simp[hlt]) λh1 hit1 hs1=>?_)
  refine uI (wX (Ro hne n (i+1) _ _ hit1 (IsList.Us ht λo e=>hs1.extBut t o hne e) (by lia) λh2 hit2 hs2=>uZ ?_))
  have hd:items.toList.drop i=items[i]::items.toList.drop (i+1):=by simp[vG,hlt]
  have:=hQ h2 (by rw[show i+(n+1)=i+1+n by lia];exact hit2) (hs1.trans hs2)
  rw[hd,List.take_succ_cons]at this
  exact this
theorem NV{t:uN}{items:vY W1}{Q:Gc W1->uM->Prop}(hh:A.handled=uK)(ht:s.heap.IsList t items)(hty:s.TypeIs (.ref t) "list")(hQ:∀h',zw s.heap.objs.size s.heap h'->Q items.toList {s with heap:=h'}):wpAny (model prog w) A (unpackItems (.ref t) items.size uK) Q E s:=by
 have hlt:t≠s.heap.objs.size:=by obtain⟨o,ho,_⟩:=ht;exact vK (ui ho)
 unfold unpackItems
 refine uI ?_
 .unfold notIterableAtAll
  refine uI (wpAny_specialOf hty F.slot_list_iter.lookup ?_)
  refine uZ ?_
  simp only[ABZ,zX]
  refine uI (wX (wZ ht ?_))
  refine uI (wX (Ro hlt items.size 0 _ _ ⟨_,uq _ rfl,rfl,rfl⟩ (IsList.Us ht λo e=>uJ _ e) (by lia) λh1 hit1 hs1=>?_))
  have hall:List.take items.size (List.drop 0 items.toList)=items.toList:=by
   rw[List.drop_zero];exact yk (by simp)
  rw[hall]
  rw[vP (by simp)]
  have ht1:h1.IsList t items:=IsList.Us (IsList.Us ht λo e=>uJ _ e) λo e=>hs1.extBut t o hlt e
  refine uI (wX (yv hh hit1 ht1 (by simp) λh2 he2=>?_))
  simp only[Option.isSome_none,ABZ,zX]
  refine uZ (hQ h2 λb o hb e=>he2 b o hb (hs1.extBut b o hb (uJ _ e)))
theorem Ml{env:Env}{elts:Gc uu}{x1}{pos:Pos}{t:uN}{items:vY W1}{Q:Unit->uM->Prop}(hh:A.handled=uK)(ht:s.heap.IsList t items)(hty:s.TypeIs (.ref t) "list")(hn:(assignEach elts env).length=items.size)(hstar:(assignEach elts env).findIdx? (·.1)=uK)(h:∀h',zw s.heap.objs.size s.heap h'->wpAny (model prog w) A (assignInOrder ((assignEach elts env).map (·.2)) items.toList) Q E {s with heap:=h'}):wpAny (model prog w) A (assign (.Tuple elts x1 pos) env (.ref t)) Q E s:=by
 rw[PyProof.Rows.assign_Tuple]
 refine uI (yP ?_)
 unfold unpack
 rw[hn,hstar]
 exact uI (wX (NV hh ht hty h))
end
section
variable{X:Cx}{pos:Pos}
noncomputable def sZ(K:Wp)(n:Nat)(t:TGs):TG:=λv σ H Q=>∃a xs,v=.ref a/\(SqT K H a xs\/H a=Fk (.lst xs))/\xs.length=n/\t xs σ H Q
theorem jO{es:Gc uu}{k:Nat}{t:TGs}{n:Nat}(hc:X.calm=true)(h:PGs X es t)(hn:(assignEach es X.env).length=n:=by rfl)(hst:(assignEach es X.env).findIdx? (·.1)=none:=by rfl):PG X (.Tuple es k pos) (sZ X.K n t):=by
 intro pins s σ H v u Q I r hw
 obtain⟨a,xs,e1,hq,hl,hw⟩:=hw
 rcases hq with hq|hq
 .exact kz hc h hn hst pins s σ H v u Q I r ⟨a,xs,e1,hq,hl,hw⟩
 .subst e1
  cases r
  obtain⟨its,rv,p,hz⟩:=I.list (SqL.of hq)
  obtain⟨z,its2,m,rv2,_,e⟩:=I.dS hq
  refine Ml (I.ok.hd hc) p.isList ⟨_,e,rfl⟩ (by simp[hn,<-hl,rv.length]) hst λh' hx=>?_
  have I1:Inv X pins σ H {s with heap:=h'}:=I.kept (t':=s.toks) λb o e=>hx b o (vK (ui e)) e
  exact h pins _ σ H xs _ Q I1 (by simpa using rv) hw
end
end L2
end
noncomputable section
namespace L2
open PySem PySem.Spec PyProof.Rows
theorem JIt.live{h:vF}{k:vL}{j l:uN}{i:Nat}(q:JIt h k j l i):∃o,h.get? j=Fk o/\∀v,o.data≠.cell v:=by
 cases k with
 |true=>obtain⟨o,e,c,d⟩:=q;exact⟨o,e,λv z=>by rw[d]at z;cases z⟩
 |false=>obtain⟨o,e,c,d⟩:=q;exact⟨o,e,λv z=>by rw[d]at z;cases z⟩
theorem PR.mono{h h':vF}{k:vL}{l:uN}{its:vY W1}(q:PR h k l its)(e:∀o,h.get? l=Fk o->h'.get? l=Fk o):PR h' k l its:=by
 cases k with
 |true=>obtain⟨o,ho,r⟩:=q;exact⟨o,e o ho,r⟩
 |false=>obtain⟨o,ho,r⟩:=q;exact⟨o,e o ho,r⟩
theorem Wd{prog:ur}{w:vO}{A:vN}(hh:A.handled=uK)(it t:uN)(hne:t≠it)(items:vY W1):Draws prog w A it [it,t] items.size (λi v=>items[i]?=Fk v) (λi h=>SIt h it t i items) where
 live:=λ_ _ st=>let⟨o,ho,_⟩:=st.live;⟨o,ho⟩
 frame:=λ_ _ _ st hk=>st.at (λo e=>hk it (by simp) o e) λo e=>hk t (by simp) o e
 item:=λi s Q E hi st hQ=>Nx st (x:=items[i]) (by simp[hi]) λh' a b=>hQ _ h' s.toks (by simp[hi]) a b
 done:=λs Q E st hE=>Nj hh st (by simp) hE
noncomputable def ItE(K:Wp)(kk:vL)(a:uN):It:=
 ⟨λi H=>∃xs x,SqB K H kk a xs/\xs[i]?=Fk x,λi H x H'=>∃p y,H p=uK/\x=.ref p/\(∀xs,SqB K H kk a xs->xs[i]?=Fk y)/\H'=upd H p (.tup [.int i,y]),λi H=>∃xs,SqB K H kk a xs/\xs.length<=i⟩
theorem V6{P:ur}{w:vO}{K:Wp}{elts:Gc uu}{k:Nat}{pos:Pos}(kk:vL)(a e it:uN)(hei:e≠it):Turn P w K (.Tuple elts k pos) (ItE K kk a) [e,it] e (λi h=>(∃old,IsEnum h e it i old)/\JIt h kk it a i) where
 mem:=by simp
 obj:=λi h st b hb=>by
  obtain⟨⟨old,h1⟩,st2⟩:=st
  obtain⟨o,h2,h4⟩:=st2.live
  simp only[uQ,ug,vd]at hb
  rcases hb with rfl|rfl
  .exact⟨_,h1,λv z=>nomatch z⟩
  .exact⟨o,h2,h4⟩
 keep:=λi h h' st k=>by
  obtain⟨⟨old,h1⟩,h2⟩:=st
  exact⟨⟨old,k e (by simp) _ h1⟩,h2.at λo q=>k it (by simp) o q⟩
 item:=by
  intro X hP hw hK hc i pins s σ H E I hf st hg
  subst hP hw hK
  obtain⟨xs,x,hq,hx⟩:=hg
  obtain⟨its,rv,p⟩:=I.sqB hq
  obtain⟨u,hu,ru⟩:=rv.get hx
  obtain⟨⟨old,h1⟩,h2⟩:=st
  obtain⟨oi,hi1,hi2⟩:=h2.live
  have hea:a≠e:=B4 I hq (hf e (by simp))
  have hia:a≠it:=B4 I hq (hf it (by simp))
  have hil:i<its.toArray.size:=by
   have:=(uU.mp hu).1
   simpa using this
  have hh:X.A.in1.handled=none:=I.ok.hd hc
  have D:=Wd (prog:=X.prog) (w:=X.w) hh it a hia its.toArray
  refine wpAny_pyNext_enum_itemD D h1 (h2.sit p) hil hei (by simp[hei,wR hea]) ?_
  intro y h' tk hy out st' tup size kept
  have ey:y=u:=by
   have:its[i]?=Fk y:=by simpa using hy
   rw[hu]at this
   exact(vg this).symm
  subst ey
  refine⟨_,rfl,wpAny_letOwnedTupleGo_enum out λh'' en sb=>?_⟩
  have hfe:=hf e (by simp)
  have hfi:=hf it (by simp)
  have lt:∀b o,s.heap.get? b=Fk o->b≠s.heap.objs.size:=λb o q=>vK (ui q)
  have kept2:∀b o,b≠e->b≠it->s.heap.get? b=Fk o->h''.get? b=Fk o:=λb o b1 b2 q=>(sb.2 b b1).trans (kept b o b1 b2 q)
  have fr:H s.heap.objs.size=none:=I.hok.fresh (uV _)
  have tup2:h''.get? s.heap.objs.size=Fk {cls:=.type "tuple",data:=.seq #[.int i tk,y]}:=(sb.2 _ (wR (lt e _ h1))).trans tup
  have ne1:∀b u,H b=Fk u->b≠e:=λb u q z=>by rw[z,hfe.1]at q;cases q
  have ne2:∀b u,H b=Fk u->b≠it:=λb u q z=>by rw[z,hfi.1]at q;cases q
  refine⟨.ref s.heap.objs.size,upd H s.heap.objs.size (.tup [.int i,x]),?_,rfl,⟨_,x,fr,rfl,λys hys=>by rw[I.UD hys hq];exact hx,rfl⟩,⟨⟨y,en⟩,?_⟩,?_⟩
  .show Inv X pins σ _ {s with heap:=h'',gens:=s.gens,drawn:=s.drawn,toks:=tk+1}
   refine I.step (g':=s.gens) (d':=s.drawn) (ch:=[e,it]) ?_ ?_ ?_ ?_ ?_ ?_ ?_ ?_ ?_ ?_ I.bare
   .intro b hb
    simp only[uQ,ug,vd]at hb
    rcases hb with rfl|rfl
    .exact⟨hfe.2.2.2.1,hfe.2.1,hfe.2.2.2.2.1,hfe.2.2.2.2.2⟩
    .exact⟨hfi.2.2.2.1,hfi.2.1,hfi.2.2.2.2.1,hfi.2.2.2.2.2⟩
   .exact λb o _ _ hc q _=>kept2 b o (λz=>hc (by simp[z])) (λz=>hc (by simp[z])) q
   .exact λb o _ _ hc q _=>⟨o.slots,kept2 b o (λz=>hc (by simp[z])) (λz=>hc (by simp[z])) q⟩
   .exact λb o _ q n=>by rw[An (lt b o q)];exact n
   .exact λb o hc q=>⟨o,kept2 b o (λz=>hc (by simp[z])) (λz=>hc (by simp[z])) q⟩
   .exact λb ys q=>by rw[An (Bv q fr)];exact q
   .exact λb o u q=>by rw[An (Bv q fr)];exact q
   .exact λb ps q=>⟨#[],by rw[An (Bv q fr),q];simp⟩
   .rintro m ⟨o,es,ep,ho,r⟩
    exact⟨o,es,ep,kept2 _ o (wR hfe.2.1) (wR hfi.2.1) ho,r⟩
   .intro b v q
    by_cases hb:b=s.heap.objs.size
    .subst hb
     rw[Bf]at q
     cases q
     exact⟨by show 2<=sizeLine;decide,[.int i tk,y],.cons ⟨tk,rfl⟩ (.cons ru .nil),⟨_,tup2,rfl,0,rfl⟩⟩
    .rw[An hb]at q
     refine(I.hok b v q).Yv (λc z hc r=>kept2 c z ?_ ?_ r) (λc r=>by rw[An (Bv r fr)];exact r) (λc ys r=>by rw[An (Bv r fr)];exact r)
     .rcases hc with z|z
      .rw[z];exact ne1 b v q
      .exact ne1 c _ z
     .rcases hc with z|z
      .rw[z];exact ne2 b v q
      .exact ne2 c _ z
  .have pa:PR h'' kk a its.toArray:=p.mono λo q=>kept2 a o hea hia q
   exact(st'.at (λo q=>(sb.2 it (wR hei)).trans q) λo q=>(sb.2 a hea).trans q).jit pa
  .intro b hb
   simp only[uQ,ug,vd]at hb
   rcases hb with rfl|rfl
   .rw[An (lt b _ h1)];exact hfe.1
   .rw[An (lt b _ hi1)];exact hfi.1
 done:=by
  intro X hP hw hK hc i pins s σ H E I hf st hg
  subst hP hw hK
  obtain⟨xs,hq,hx⟩:=hg
  obtain⟨its,rv,p⟩:=I.sqB hq
  obtain⟨⟨old,h1⟩,h2⟩:=st
  have hl:=rv.length
  have hh:X.A.in1.handled=none:=I.ok.hd hc
  obtain⟨f0,f1,f2,f3,f4,f5⟩:=hf it (by simp)
  have D:Draws X.prog X.w X.A.in1 it [it,a] i (λ_ _=>AAm) (λj h=>j=i/\SIt h it a i its.toArray):=
   {live:=λ_ _ st=>let⟨o,ho,_⟩:=st.2.live;⟨o,ho⟩
    frame:=λ_ _ _ st hk=>⟨st.1,st.2.at (λo e=>hk it (by simp) o e) λo e=>hk a (by simp) o e⟩
    item:=λj s Q E hj st _=>absurd st.1 (vK hj)
    done:=λs Q E st hE=>Nj hh st.2 (by simp;lia) hE}
  exact wpAny_pyNext_enum_endD D h1 ⟨rfl,h2.sit p⟩ λh' eb=>⟨rfl,I.turned (t':=s.toks) (λb o hb q=>eb b o hb q) f0 f1 f3 f4 f5⟩
 self:=λ_ _ _ _ _ st h=>by
  obtain⟨⟨old,h1⟩,_⟩:=st
  exact wpAny_pyIter_enum h1 h
section
variable{X:Cx}
noncomputable def kl(K:Wp)(ta:TA):TI:=λσ H R=>ta σ H λvs H1=>∃kk a,vs=[.ref a]/\(∃xs,SqB K H1 kk a xs)/\R (ItE K kk a) H1
theorem Zx{a:uu}{ta:TA}{p pos tp:Pos}{elts:Gc uu}{k:Nat}(hg:Gl X "enumerate")(hm:X.mg "enumerate"=uK)(ha:PA X [a] ta)(hs:uo [a] X.env=[(false,eval a X.env)]:=by rfl):PI X (.Tuple elts k tp) (.Call (.Name "enumerate" p) [a] [] pos) (kl X.K ta):=by
 intro pins s σ H R I h
 refine Call_ (Mn I hg hm boot_enumerate (callWith_type1 (thn (ha pos pins s σ H _ I h) λus s1 ⟨vs,H1,I1,r1,q1⟩=>?_) hs rfl))
 obtain⟨kk,b,e,⟨xs,hq⟩,q⟩:=q1
 subst e
 obtain⟨u,rfl,ru⟩:=r1.one
 cases (show u=vi b from ru)
 obtain⟨its,rv,pt⟩:=I1.sqB hq
 have fin:∀h':vF,IsEnum h' (s1.heap.objs.size+1) s1.heap.objs.size 0 .none->JIt h' kk s1.heap.objs.size b 0->(∀b o,s1.heap.get? b=Fk o->h'.get? b=Fk o)->wpAny (model X.prog X.w) X.A (pyIter (.ref (s1.heap.objs.size+1))) (PIE X pins σ (.Tuple elts k tp) R) X.xe {s1 with heap:=h'}:=λh' en it kp=>by
  refine wpAny_pyIter_enum (s:={s1 with heap:=h'}) en ?_
  refine⟨s1.heap.objs.size+1,[s1.heap.objs.size+1,s1.heap.objs.size],_,_,H1,rfl,I1.kept (t':=s1.toks) kp,V6 kk b (s1.heap.objs.size+1) s1.heap.objs.size (Nat.succ_ne_self _),⟨⟨_,en⟩,it⟩,λc hc=>?_,q⟩
  simp only[uQ,ug,vd]at hc
  rcases hc with rfl|rfl
  .exact I1.fR (by lia) (I1.hok.fresh (by lia))
  .exact I1.fR (uV _) (I1.hok.fresh (uV _))
 cases kk with
 |true=>exact VZ (show s1.heap.IsTuple b its.toArray from pt) λh' en it kp=>fin h' en it kp
 |false=>exact call_enumerate_list (show s1.heap.IsList b its.toArray from pt) λh' en it _ kp=>fin h' en it kp
end
end L2
end
noncomputable section
namespace L2
open PySem PySem.Spec PyProof.Rows PySem.SeqAt
open AutoSeq1 (wpAny_loadPart')
open MeetsSeq
abbrev Ot(dt:zf)(dd:uL uN)(sl:vY (uL W1)):Obj:={cls:=.type "dict",dict:=dd,data:=dt,slots:=sl}
theorem RY(l:uN)(dt:zf)(dd:uL uN)(sl:vY (uL W1))(b:Int)(u:Tok):Meets (yA.«dict.__eq__» ⟨[.ref l,.int b u],[]⟩) (λ_ R s=>s.heap.get? l=Fk (Ot dt dd sl)/\R (.ok (.ret .notImplemented)) s):=
 .of_wp λprog w A R s h=>by obtain⟨hp,g,d,tk,os⟩:=s;obtain⟨hl,h⟩:=h;have f1:=F.sub_int_dict;wp_walk using wpAny_loadPart' hl;exact⟨_,rfl,h⟩
theorem NP(T:xI)(l b:uN)(dt:zf)(dd:uL uN)(sl:vY (uL W1))(ob:Obj)(hT:ob.cls=.type T)(hs:isSubtype (.type T) (.type "dict")=pure false):Meets (yA.«dict.__eq__» ⟨[.ref l,.ref b],[]⟩) (λ_ R s=>s.heap.get? l=Fk (Ot dt dd sl)/\s.heap.get? b=Fk ob/\R (.ok (.ret .notImplemented)) s):=
 .of_wp λprog w A R s h=>by
  obtain⟨hp,g,d,tk,os⟩:=s;obtain⟨hl,hb,h⟩:=h
  obtain⟨oc,od,odt,osl⟩:=ob
  simp only at hT
  subst hT
  wp_walk using wpAny_loadPart' hl,wpAny_loadPart' hb
  exact⟨_,rfl,h⟩
theorem Rn(b:Int)(u:Tok)(l:uN)(dt:zf)(dd:uL uN)(sl:vY (uL W1)):Meets (yA.«int.__eq__» ⟨[.int b u,.ref l],[]⟩) (λ_ R s=>s.heap.get? l=Fk (Ot dt dd sl)/\(∃es ep,dt=.dict es ep)/\R (.ok (.ret .notImplemented)) s):=
 .of_wp λprog w A R s h=>by
  obtain⟨hp,g,d,tk,os⟩:=s;obtain⟨hl,⟨es,ep,rfl⟩,h⟩:=h
  wp_walk using wpAny_loadPart' hl,wpAny_load hl
  exact⟨_,rfl,h⟩
theorem Qr(l b:uN)(items:vY W1)(n:Nat)(dd:uL uN)(sl:vY (uL W1))(dt:zf)(dd2:uL uN)(sl2:vY (uL W1)):Meets (yA.«list.__eq__» ⟨[.ref l,.ref b],[]⟩) (λ_ R s=>s.heap.get? l=Fk {cls:=.type "list",dict:=dd,data:=.seq items n,slots:=sl}/\s.heap.get? b=Fk (Ot dt dd2 sl2)/\R (.ok (.ret .notImplemented)) s):=
 .of_wp λprog w A R s h=>by obtain⟨hp,g,d,tk,os⟩:=s;obtain⟨hl,hb,h⟩:=h;have f1:=F.sub_dict_list;wp_walk using wpAny_loadPart' hl,wpAny_loadPart' hb;exact⟨_,rfl,h⟩
theorem Pe(l b:uN)(items:vY W1)(n:Nat)(dd:uL uN)(sl:vY (uL W1))(dt:zf)(dd2:uL uN)(sl2:vY (uL W1)):Meets (yA.«tuple.__eq__» ⟨[.ref l,.ref b],[]⟩) (λ_ R s=>s.heap.get? l=Fk {cls:=.type "tuple",dict:=dd,data:=.seq items n,slots:=sl}/\s.heap.get? b=Fk (Ot dt dd2 sl2)/\R (.ok (.ret .notImplemented)) s):=
 .of_wp λprog w A R s h=>by obtain⟨hp,g,d,tk,os⟩:=s;obtain⟨hl,hb,h⟩:=h;have f1:=F.sub_dict_tuple;wp_walk using wpAny_loadPart' hl,wpAny_loadPart' hb;exact⟨_,rfl,h⟩
section
variable{A:vN}{s:uM}{l:uN}{es:vY DictEntry}{ep:Nat}{dd:uL uN}{sl:vY (uL W1)}
theorem UR(b:Int)(u:Tok)(ho:s.heap.get? l=Fk (Ot (.dict es ep) dd sl))(hu:A.units<cLine):RcAt A s (.ref l) (.int b u) false:=λprog w E Q h=>
 AAH (k:=false) ⟨_,ho,rfl⟩ (yD s b u) (by decide) F.sub_int_dict yF ABa
  (λ_ hq=>xF yF ⟨_,ho,rfl⟩ AAh (AAI _ _) (RY l _ dd sl b u) ⟨ho,hq⟩)
  (λ_ hq=>xF ABa (yD s b u) F.entry_int_eq (F.args_int_eq_2 _ _) (Rn b u l _ dd sl) ⟨ho,⟨_,_,rfl⟩,hq⟩)
  (λ_ hq=>wpAny_of_eq (rfl:isSame (.ref l) (.int b u)=pure false) hq) (.inr hu) h
theorem Rm{b:uN}{items:vY W1}(ho:s.heap.get? l=Fk (Ot (.dict es ep) dd sl))(hb:s.heap.IsList b items)(hu:A.units<cLine):RcAt A s (.ref l) (.ref b) false:=λprog w E Q h=>by
 obtain⟨⟨cls,dd2,data,sl2⟩,ho2,hc,n,hd⟩:=id hb
 simp only at hc hd
 subst hc hd
 have hne:l≠b:=λe=>by subst e;rw[ho]at ho2;exact absurd (congrArg Obj.cls (vg ho2)) (by simp[Ot])
 exact AAH (k:=false) ⟨_,ho,rfl⟩ ⟨_,ho2,rfl⟩ (by decide) F.sub_list_dict yF ABK
  (λ_ hq=>xF yF ⟨_,ho,rfl⟩ AAh (AAI _ _) (NP "list" l b _ dd sl _ rfl F.sub_list_dict) ⟨ho,ho2,hq⟩)
  (λ_ hq=>xF ABK ⟨_,ho2,rfl⟩ F.entry_list_eq (F.args_list_eq_2 _ _) (Qr b l items n dd2 sl2 _ dd sl) ⟨ho2,ho,hq⟩)
  (λ_ hq=>wpAny_isSame_ref_other' hne ho ho2 (by simp) hq) (.inr hu) h
theorem RC{b:uN}{items:vY W1}(ho:s.heap.get? l=Fk (Ot (.dict es ep) dd sl))(hb:s.heap.IsTuple b items)(hu:A.units<cLine):RcAt A s (.ref l) (.ref b) false:=λprog w E Q h=>by
 obtain⟨⟨cls,dd2,data,sl2⟩,ho2,hc,n,hd⟩:=id hb
 simp only at hc hd
 subst hc hd
 have hne:l≠b:=λe=>by subst e;rw[ho]at ho2;exact absurd (congrArg Obj.cls (vg ho2)) (by simp[Ot])
 exact AAH (k:=false) ⟨_,ho,rfl⟩ ⟨_,ho2,rfl⟩ (by decide) F.sub_tuple_dict yF AA4
  (λ_ hq=>xF yF ⟨_,ho,rfl⟩ AAh (AAI _ _) (NP "tuple" l b _ dd sl _ rfl F.sub_tuple_dict) ⟨ho,ho2,hq⟩)
  (λ_ hq=>xF AA4 ⟨_,ho2,rfl⟩ F.entry_tuple_eq (F.args_tuple_eq_2 _ _) (Pe b l items n dd2 sl2 _ dd sl) ⟨ho2,ho,hq⟩)
  (λ_ hq=>wpAny_isSame_ref_other hne ho ho2 (by simp) hq) (.inr hu) h
end
end L2
end
noncomputable section
namespace St
open PySem PySem.Spec L2 PyProof.Rows
inductive Kd where
 |non|bl|int|str|tup|lst|dct
 deriving DecidableEq
noncomputable def Kd.ty:Kd->xI
 | .non=>"NoneType" | .bl=>"bool" | .int=>"int" | .str=>"str" | .tup=>"tuple" | .lst=>"list" | .dct=>"dict"
noncomputable def Kd.isA:Kd->xI->vL
 | .bl,"bool"=>true| .bl,"int"=>true| .int,"int"=>true| .str,"str"=>true| .tup,"tuple"=>true| .lst,"list"=>true| .dct,"dict"=>true
 |_,_=>false
section
variable{K:Wp}
theorem eH(k:Kd):xJ K (.type k.ty) (.type "int")=Fk (k.isA "int"):=by
 cases k<;>first|rfl|(unfold xJ;rfl)
theorem aQ(k:Kd):xJ K (.type k.ty) (.type "bool")=Fk (k.isA "bool"):=by
 cases k<;>rfl
theorem kit_tuple(k:Kd):xJ K (.type k.ty) (.type "tuple")=Fk (k.isA "tuple"):=by
 cases k<;>rfl
theorem gm(k:Kd):xJ K (.type k.ty) (.type "str")=Fk (k.isA "str"):=by
 cases k<;>rfl
end
structure Dfn(P:ur)(w:vO)(K:Wp)(mg:Str->uL W1)(base:vF)(x:Str)(k:Nat)(ps:Gc Str)(sp:Sp):Prop where
 ex:∃f fd,mg x=Fk (.ref f)/\wy K (.ref f)=true/\Binds K fd ps []/\VN P w K mg base CX0 k f fd ps sp
structure Src(K:Wp)(mg:Str->uL W1)(x:Str)(st:vJ):Prop where
 ex:∃f fd,Fun K x x st f fd/\mg x=Fk (.ref f)
theorem oB{X:Cx}{k:Nat}{x:Str}{ps:Gc Str}{sp:Sp}{e:uu}{es:Gc uu}{t:TA}{p pos:Pos}(d:Dfn X.prog X.w X.K X.mg X.base x k ps sp)(hr:IB k X.A)(hg:Gl X x)(ha:PA X (e::es) t)(hdb:(x==("__debug__":Str))=false:=by decide)(he:uo (e::es) X.env=(false,eval e X.env)::uo es X.env:=by rfl)(hpl:(backTo pos (uo es X.env)).any (·.1)=false:=by rfl):PE X (.Call (.Name x p) (e::es) [] pos) (gS sp [] E0 t):=by
 obtain⟨f,fd,a,b,c,F⟩:=d.ex
 exact fL F hr hg a b c .nil nO ha hdb he hpl
section
variable{X:Cx}
theorem gO{n:Nat}(h:n<2^8000):n.log2<9000:=by
 by_cases h0:n=0
 .subst h0;decide
 .exact Nat.lt_trans ((Nat.log2_lt h0).mpr h) (by decide)
theorem Zf:OpR X (binaryOp .FloorDiv) (rI (λ_ j=>0<j/\j.natAbs<2^8000) λi j=>.int (i / j)):=opI λi j _ _ _ _ _ hc q=>by
 have h1:(0:Int)<j:=hc.1
 exact floordiv_int (by lia) (by rw[Int.fdiv_eq_ediv_of_nonneg i (by lia)];exact q) (.inl (PyProof.noPylong_of_log2 (gO hc.2)))
theorem QN{prog:ur}{w:vO}{A:vN}(hh:A.handled=uK){a it:uN}(hne:a≠it){vs:Gc W1}:Walks prog w A it [it,a] [it] vs.length (λi v=>vs[i]?=Fk v) (λi h=>h.IsListIter it a i/\h.IsList a vs.toArray) where
 sub:=λb hb=>by simp at hb;simp[hb]
 frame:=λi h h' st k=>⟨st.1.at λo e=>k it (by simp) o e,by
  obtain⟨o,ho,r⟩:=st.2
  exact⟨o,k a (by simp) o ho,r⟩⟩
 item:=λi s Q E hi st hQ=>by
  refine yd st.1 st.2 (x:=vs[i]) (by simp[hi]) λh' st' sb=>?_
  refine hQ _ h' s.toks (by simp[hi]) ⟨st',?_⟩ λb o hb e=>(sb.2 b (by simpa using hb)).trans e
  obtain⟨o,ho,r⟩:=st.2
  exact⟨o,(sb.2 a hne).trans ho,r⟩
 done:=λs Q E st hQ=>yv hh st.1 st.2 (by simp) λh' eb=>hQ h' s.toks λb o hb e=>eb b o (by simpa using hb) e
 self:=λi s Q E st hQ=>AAn st.1 hQ
theorem WI(hc:X.calm=true):Fd X (.builtin "all") (λxs H Q=>∃(p:uN) (bs:Gc vL),xs=[.ref p]/\SqL X.K H p (bs.map V.bl)/\Q (.bl (bs.all id)) H):=by
 intro pins s σ H xs us Q I r h
 obtain⟨p,bs,rfl,hp,q⟩:=h
 obtain⟨u,rfl,ru⟩:=r.one
 cases (show u=vi p from ru)
 obtain⟨its,rv,pl,hz⟩:=I.list hp
 have hd:X.A.in1.handled=none:=I.ok.hd hc
 refine call_all_walk (wZ pl.isList ?_)
 have hlen:bs.length=its.length:=by have:=rv.length;simpa using this
 have hpl:=pl.isList
 have hne:p≠s.heap.objs.size:=by
  obtain⟨o,ho,_⟩:=hpl
  exact vK (ui ho)
 refine⟨s.heap.objs.size,_,_,its.length,_,_,λi=>bs.getD i true,rfl,QN (vs:=its) hd hne,⟨⟨_,uq _ rfl,rfl,rfl⟩,?_⟩,?_,?_⟩
 .obtain⟨o,ho,r⟩:=hpl
  exact⟨o,uJ _ ho,r⟩
 .intro i v s' Q' E' hv hq
  have hi:i<its.length:=(uU.mp hv).1
  have hb:(bs.map V.bl)[i]?=Fk (.bl (bs.getD i true)):=by
   rw[uY,tz (by lia)]
   simp[uT,tz (show i<bs.length by lia)]
  obtain⟨u,hu,ru⟩:=rv.get hb
  rw[hv]at hu
  cases hu
  cases (show v=AAM _ from ru)
  exact x5 hq
 .intro h' tk hk
  have e:(uc its.length).all (λi=>bs.getD i true)=bs.all id:=by
   rw[<-hlen]
   clear q hp rv hlen
   have:∀(l:Gc vL),(uc l.length).all (λi=>l.getD i true)=l.all id:=by
    intro l
    induction l with
    |nil=>rfl
    |cons b l ih=>
     rw[vR,AAW,xG,AAX,xG,<-ih]
     rfl
   exact this bs
  rw[e]
  exact⟨.bl _,H,I.kept (t':=tk) λb o eb=>hk b o (by simp;exact vK (ui eb)) (uJ _ eb),rfl,q⟩
theorem Zm{ns:Gc Int}{j:Nat}(h:j<ns.length):(ns.take (j+1)).sum=(ns.take j).sum+ns.getD j 0:=by
 have e:ns.getD j 0=ns[j]:=by simp[uT,tz h]
 rw[List.take_succ,tz h,List.sum_append,e]
 show _+(ns[j]+0)=_
 lia
theorem Ob{ns:Gc Int}:∀{j:Nat},j<=ns.length->preSum (λi=>ns.getD i 0) j=(ns.take j).sum
 |0,_=>by simp[preSum]
 |j+1,h=>by
  rw[preSum,Ob (by lia),Zm (by lia)]
theorem Wt{ns:Gc Int}(h:∀n∈ns,0<=n/\n<=1000000):0<=ns.sum/\ns.sum<=1000000*ns.length:=by
 induction ns with
 |nil=>simp
 |cons a l ih=>
  have h1:=h a (by simp)
  have h2:=ih λn hn=>h n (by simp[hn])
  rw[wq,vR]
  have:((l.length+1:Nat):Int)=(l.length:Int)+1:=by lia
  lia
end
section
variable{prog:ur}{w:vO}{A:vN}{E:W1->uM->Prop}{s:uM}
theorem Mc{t sl:uN}{items:vY W1}{vl vu:W1}{lo hi:uL Int}{Q:W1->uM->Prop}(ht:IsTup s.heap t items)(hs:s.heap.IsSliceOf sl vl vu .none)(pl:AAR vl lo)(pu:AAR vu hi)(hw:HT.sIx items.size 0 lo=0/\HT.sIx items.size items.size hi=items.size)(h:Q (.ref t) s):wpAny (model prog w) A (getItem (.ref t) (.ref sl)) Q E s:=by
 obtain⟨os,hos,hcs,hds⟩:=id hs
 have hTs:s.TypeIs (.ref sl) "slice":=⟨os,hos,hcs⟩
 unfold getItem
 try with_reducible refine wX ?_
 first|refine uI (uZ ?_)|skip
 refine uI (zu ht.typeIs (by decide) ?_)
 refine uI (v5 (name:=vw "__getitem__") ht.typeIs vE
  (wV vE ht.typeIs zH ?_ (zZ _ _)))
 show wpAny _ _ (yC (.ref t) >>= _) _ _ s
 refine uI (ABQ ht ?_)
 refine uI (AAS hTs ?_)
 rw[vM (by decide)]
 refine uI (HT.Jg hs pl pu ?_)
 show wpAny _ _ (if(((HT.sIx items.size 0 lo:Nat):Int)==0 && (1:Int)==1 && (HT.sIx items.size items.size hi-HT.sIx items.size 0 lo)==items.size)=true then _ else _) _ _ s
 rw[vM (by rw[hw.1,hw.2];simp)]
 unfold Builtin.Tuple.tupleIsExact
 refine uI (uI (AAS ht.typeIs (uZ ?_)))
 rw[vM (by decide)]
 exact uI (AAO (uZ ⟨_,rfl,uZ h⟩))
theorem NX{sl:uN}{u:Tok}{n:Nat}{Q:Int×Int×Nat->uM->Prop}(hs:s.heap.IsSliceOf sl .none .none (.int (-1) u))(h:Q ((n:Int)-1,-1,n) s):wpAny (model prog w) A (xK (.ref sl) (pure (n:Int))) Q E s:=by
 obtain⟨os,hos,hcs,hds⟩:=id hs
 unfold xK zp
 refine uI (uI (wM hos hds (x:=.none) rfl (uI (wM hos hds (x:=.none) rfl (uI (wM hos hds (x:=.int (-1) u) rfl (uZ ?_)))))))
 refine uI (slicePart_int ?_)
 show wpAny _ _ (if((-1:Int)==0)=true then _ else _) _ _ s
 rw[vP (by decide)]
 refine uI (zY (uI (zY (uI (uZ ?_)))))
 show wpAny _ _ (match wJ uK uK (-1) (n:Int)with|(lo,hi)=>pure (lo,(-1:Int),vj lo hi (-1))) _ _ s
 have e:wJ uK uK (-1) (n:Int)=((n:Int)-1,-1):=by
  unfold wJ
  have h1:((-1:Int)<0):=by decide
  simp only[h1,yi]
 rw[e]
 have e2:vj ((n:Int)-1) (-1) (-1)=n:=by
  unfold vj
  have h1:¬((-1:Int)>0):=by decide
  simp only[h1,zX]
  by_cases h0:n=0
  .subst h0;rfl
  .rw[vM (by lia)]
   have:(-(-1):Int)=1:=rfl
   rw[this,Int.ediv_one]
   lia
 show wpAny _ _ (pure ((n:Int)-1,(-1:Int),vj ((n:Int)-1) (-1) (-1))) _ _ s
 rw[e2]
 exact uZ h
noncomputable def Qi(n:Nat)(k:Nat):Nat:=((n:Int)-1+(k:Int)*(-1)).toNat
theorem MU{t sl:uN}{items:vY W1}{u:Tok}{Q:W1->uM->Prop}(ht:IsTup s.heap t items)(hs:s.heap.IsSliceOf sl .none .none (.int (-1) u))(hz:items.size<=sizeLine)(h:Q (.ref s.heap.objs.size) {s with heap:=s.heap.push {cls:=.type "tuple",data:=.seq ((uc items.size).filterMap λk=>items[Qi items.size k]?).toArray}}):wpAny (model prog w) A (getItem (.ref t) (.ref sl)) Q E s:=by
 obtain⟨os,hos,hcs,hds⟩:=id hs
 have hTs:s.TypeIs (.ref sl) "slice":=⟨os,hos,hcs⟩
 have htake:sizeOk (.seq ((uc items.size).filterMap λk=>items[Qi items.size k]?).toArray):=by
  show((uc items.size).filterMap λk=>items[Qi items.size k]?).toArray.size<=sizeLine
  rw[ue]
  refine uW (yS _ _) ?_
  rw[yl]
  exact hz
 unfold getItem
 try with_reducible refine wX ?_
 first|refine uI (uZ ?_)|skip
 refine uI (zu ht.typeIs (by decide) ?_)
 refine uI (v5 (name:=vw "__getitem__") ht.typeIs vE
  (wV vE ht.typeIs zH ?_ (zZ _ _)))
 show wpAny _ _ (yC (.ref t) >>= _) _ _ s
 refine uI (ABQ ht ?_)
 refine uI (AAS hTs ?_)
 rw[vM (by decide)]
 refine uI (NX hs ?_)
 show wpAny _ _ (if(((items.size:Int)-1)==0 && (-1:Int)==1 && items.size==items.size)=true then _ else _) _ _ s
 rw[vP (by rw[show((-1:Int)==1)=false from rfl,AAz,AAv];decide)]
 first
  |exact uI (m:=vn _) (v3 (uZ ⟨_,rfl,uZ h⟩) htake)
  |exact uI (m:=vn _) (v3 (uI (uZ (uZ ⟨_,rfl,uZ h⟩))) htake)
  |exact uI (uI (m:=vn _) (v3 (uZ (uZ ⟨_,rfl,uZ h⟩)) htake))
  |exact uI (uI (m:=vn _) (v3 (uZ ⟨_,rfl,uZ h⟩) htake))
end
section
variable{X:Cx}
def sL(K:Wp):V->uL Int->uL Int->Hp->VK->Prop:=λx lo hi H Q=>∃a xs,x=.ref a/\SqT K H a xs/\HT.sIx xs.length 0 lo=0/\HT.sIx xs.length xs.length hi=xs.length/\Q x H
theorem ik:SlR X (sL X.K):=by
 intro pins s σ H x v vl vu lo hi sl Q I rx hs pl pu h
 obtain⟨a,xs,rfl,hx,h1,h2,q⟩:=h
 cases rx
 obtain⟨its,r,ht,hz⟩:=I.tuple hx
 have hlen:its.toArray.size=xs.length:=by rw[ue];exact r.length.symm
 refine⟨"tuple",_,vE.lookup,ht.typeIs,?_⟩
 exact Mc ht hs pl pu (by rw[hlen];exact⟨h1,h2⟩) ⟨.ref a,H,I,rfl,q⟩
noncomputable def nX(K:Wp):R2:=λx y H Q=>∃a b ys,x=.ref a/\y=.ref b/\SqT K H a []/\SqT K H b ys/\Q (.ref b) H
theorem fq:OpR X (binaryOp .Add) (nX X.K):=by
 intro pins s σ H x y v u Q I rx ry h
 obtain⟨a,b,ys,rfl,rfl,ha,hb,q⟩:=h
 cases rx
 cases ry
 obtain⟨its,r1,p1,_⟩:=I.tuple ha
 obtain⟨its2,r2,p2,_⟩:=I.tuple hb
 have e0:its=[]:=r1.Qj.mpr rfl
 subst e0
 obtain⟨⟨cls,dd,data,sl⟩,ho,hc,n,hd⟩:=id p1
 obtain⟨⟨cls2,dd2,data2,sl2⟩,ho2,hc2,n2,hd2⟩:=id p2
 simp only at hc hd hc2 hd2
 subst hc hd hc2 hd2
 exact concat_meets ⟨_,ho,rfl⟩ ⟨_,ho2,rfl⟩ AAD ABP yh ya (yQ _ _)
  (tuple_addW0 a b #[] its2.toArray n n2 dd dd2 sl sl2 rfl) ⟨ho,ho2,⟨.ref b,H,I,rfl,q⟩⟩
theorem Vals.pick{xs:Gc V}{us:Gc W1}(r:Vals xs us)(f:Nat->Nat):∀ks:Gc Nat,Vals (ks.filterMap λk=>xs[f k]?) (ks.filterMap λk=>us[f k]?)
 | []=>.nil
 |k::ks=>by
  have ih:=Vals.pick r f ks
  rw[vB,vB]
  cases e:xs[f k]? with
  |none=>rw[r.none_of e];exact ih
  |some x=>
   obtain⟨u,hu,ru⟩:=r.get e
   rw[hu]
   exact .cons ru ih
end
end St
end
noncomputable section
namespace Mi
open PySem PySem.Spec L2
inductive D where
 |non|bl (b:vL)|int (i:Int)|str (x:Str)|ty (n:xI)|tup (ds:Gc D)|lst (ds:Gc D)|dct (kvs:Gc (Key×D))|scr (ns:Gc Int)|ref (n:Nat)
inductive Wv where
 |val (d:D)|own (ds:Gc D)
inductive Cl where
 |lst (ds:Gc D)|dct (kvs:Gc (Key×D))|tab (x:Str)
abbrev Sto:=Gc Cl
structure Ms where
 cel:Gc uN
 tmp:Gc uN
def Ms.mem(M:Ms)(a:uN):Prop:=a∈M.cel\/a∈M.tmp
noncomputable def Ms.no:Ms:=⟨[],[]⟩
def KL(K:Wp)(a:uN)(xs:Gc V):Prop:=∃(o:Obj) (its:vY W1) (n:Nat),K.lookup a=Fk o/\o.cls=.type "list" /\o.dict=uK/\o.data=.seq its n/\its.size<=sizeLine/\Vals xs its.toList
mutual
inductive EI(K:Wp)(M:Ms)(H:Hp):V->D->Prop
 |non:EI K M H .non .non
 |bl (b:vL):EI K M H (.bl b) (.bl b)
 |int (i:Int):EI K M H (.int i) (.int i)
 |str (x:Str):EI K M H (.str x) (.str x)
 |ty (n:xI):EI K M H (.ty n) (.ty n)
 |tup {a:uN} {xs:Gc V} {ds:Gc D} (h:SqT K H a xs) (r:A5 K M H xs ds):EI K M H (.ref a) (.tup ds)
 |lst {a:uN} {xs:Gc V} {ds:Gc D} (h:H a=Fk (.lst xs)) (n:¬M.mem a) (r:A5 K M H xs ds):EI K M H (.ref a) (.lst ds)
 |scr {a:uN} {ns:Gc Int} (h:(Rd H a (.lst (ns.map V.int))/\¬M.mem a)\/KL K a (ns.map V.int)):EI K M H (.ref a) (.scr ns)
 |dct {a:uN} {kvs:Gc (Key×V)} {es:Gc (Key×D)} (h:H a=Fk (.dK kvs)) (n:¬M.mem a) (r:DY K M H kvs es):EI K M H (.ref a) (.dct es)
 |ref {a:uN} {n:Nat} (h:M.cel[n]?=Fk a):EI K M H (.ref a) (.ref n)
inductive A5(K:Wp)(M:Ms)(H:Hp):Gc V->Gc D->Prop
 |nil:A5 K M H [] []
 |cons {v:V} {d:D} {vs:Gc V} {ds:Gc D} (h:EI K M H v d) (t:A5 K M H vs ds):A5 K M H (v::vs) (d::ds)
inductive DY(K:Wp)(M:Ms)(H:Hp):Gc (Key×V)->Gc (Key×D)->Prop
 |nil:DY K M H [] []
 |cons {k:Key} {v:V} {d:D} {vs:Gc (Key×V)} {ds:Gc (Key×D)} (h:EI K M H v d) (t:DY K M H vs ds):DY K M H ((k,v)::vs) ((k,d)::ds)
end
def MOk(M:Ms)(H:Hp):Prop:=∀a,M.mem a->(∃xs,H a=Fk (.lst xs))\/(∃kvs,H a=Fk (.dK kvs))\/∃ps,H a=Fk (.tbl ps)
structure Sp1(M:Ms)(H:Hp)(M':Ms)(H':Hp):Prop where
 mo:MOk M H
 pre:M.cel <+: M'.cel
 fresh:∀a,M'.mem a->M.mem a\/H a=uK
 keep:∀a o,H a=Fk o->¬M.mem a->H' a=Fk o
structure Gr(M:Ms)(H:Hp)(M':Ms)(H':Hp):Prop where
 mo:MOk M H
 pre:M.cel <+: M'.cel
 tmp:M'.tmp=M.tmp
 fresh:∀a,a∈M'.cel->a∈M.cel\/H a=uK
 keep:∀a o,H a=Fk o->a∉M.cel->H' a=Fk o
 some:∀a,H a≠uK->H' a≠uK
section
variable{K:Wp}{M M' M2:Ms}{H H' H2:Hp}
theorem MOk.some(mo:MOk M H){a:uN}(h:M.mem a):H a≠none:=λz=>by
 rcases mo a h with⟨xs,e⟩|⟨xs,e⟩|⟨xs,e⟩<;>(rw[e]at z;cases z)
theorem Gr.st(g:Gr M H M' H'):Sp1 M H M' H':=⟨g.mo,g.pre,λa z=>z.elim (λz=>(g.fresh a z).imp .inl id) λz=>.inl (.inr (by rw[<-g.tmp];exact z)),λa o e n=>g.keep a o e λz=>n (.inl z)⟩
theorem Gr.refl(mo:MOk M H):Gr M H M H:=⟨mo,vp,rfl,λ_ z=>.inl z,λ_ _ e _=>e,λ_ e=>e⟩
theorem Gr.none(g:Gr M H M' H'){a:uN}(h:H' a=uK):H a=none:=by
 cases e:H a with
 |none=>rfl
 |some o=>exact absurd h (g.some a (by rw[e];intro z;cases z))
theorem Gr.trans(h:Gr M H M' H')(g:Gr M' H' M2 H2):Gr M H M2 H2:=
 ⟨h.mo,h.pre.trans g.pre,g.tmp.trans h.tmp,λa z=>(g.fresh a z).elim (h.fresh a) λz=>.inr (h.none z),λa o e n=>g.keep a o (h.keep a o e n) (λz=>by
   rcases h.fresh a z with z|z
   .exact n z
   .rw[e]at z;cases z),λa e=>g.some a (h.some a e)⟩
theorem Gr.grow(mo:MOk M H)(k:∀a o,H a=Fk o->H' a=Fk o):Gr M H M H':=
 ⟨mo,vp,rfl,λ_ z=>.inl z,λb u eb _=>k b u eb,λb eb z=>by
   cases h:H b with
   |none=>exact eb h
   |some o=>rw[k b o h]at z;cases z⟩
theorem Qz{α:Type}{xs ys:Gc α}(h:xs <+: ys){n:Nat}{a:α}(e:xs[n]?=Fk a):ys[n]?=Fk a:=by
 obtain⟨zs,rfl⟩:=h
 rw[uP (uU.mp e).1]
 exact e
theorem bW{a:uN}{xs:Gc V}(h:SqT K H a xs)(k:∀b o,H b=Fk o->(∀ys,o≠.lst ys)->(∀ys,o≠.dK ys)->(∀ys,o≠.tbl ys)->H' b=Fk o):SqT K H' a xs:=by
 rcases h with h|h
 .rcases h with h|⟨o,h⟩
  .exact .inl (.inl (k _ _ h (λys z=>by cases z) (λys z=>by cases z) λys z=>by cases z))
  .exact .inl (.inr ⟨o,k _ _ h (λys z=>by cases z) (λys z=>by cases z) λys z=>by cases z⟩)
 .exact .inr h
theorem Sp1.sqT(g:Sp1 M H M' H'){a:uN}{xs:Gc V}(h:SqT K H a xs):SqT K H' a xs:=bW h λb o e n1 n2 n3=>g.keep b o e λz=>by
 rcases g.mo b z with⟨ys,q⟩|⟨ys,q⟩|⟨ys,q⟩
 .exact n1 ys (vg (e.symm.trans q))
 .exact n2 ys (vg (e.symm.trans q))
 .exact n3 ys (vg (e.symm.trans q))
theorem Sp1.nm(g:Sp1 M H M' H'){a:uN}{o:HO}(e:H a=Fk o)(n:¬M.mem a):¬M'.mem a:=λz=>by
 rcases g.fresh _ z with z|z
 .exact n z
 .rw[z]at e;cases e
theorem EI.step(g:Sp1 M H M' H'){v:V}{d:D}(h:EI K M H v d):EI K M' H' v d:=
 EI.rec (motive_1:=λv d _=>EI K M' H' v d) (motive_2:=λv d _=>A5 K M' H' v d) (motive_3:=λv d _=>DY K M' H' v d) .non .bl .int .str .ty (λh _ r=>.tup (g.sqT h) r) (λh n _ r=>.lst (g.keep _ _ h n) (g.nm h n) r) (λh=>by
  rcases h with⟨h,n⟩|h
  .rcases h with h|⟨o,h⟩
   .exact .scr (.inl ⟨.inl (g.keep _ _ h n),g.nm h n⟩)
   .exact .scr (.inl ⟨.inr ⟨o,g.keep _ _ h n⟩,g.nm h n⟩)
  .exact .scr (.inr h)) (λh n _ r=>.dct (g.keep _ _ h n) (g.nm h n) r) (λh=>.ref (Qz g.pre h)) .nil (λ_ _ h t=>.cons h t) .nil (λ_ _ h t=>.cons h t) h
theorem A5.ind{P:Gc V->Gc D->Prop}(n:P [] [])(c:∀{v:V} {d:D} {vs:Gc V} {ds:Gc D},EI K M H v d->P vs ds->P (v::vs) (d::ds)){vs:Gc V}{ds:Gc D}(h:A5 K M H vs ds):P vs ds:=
 A5.rec (motive_1:=λ_ _ _=>AAm) (motive_2:=λv d _=>P v d) (motive_3:=λ_ _ _=>AAm) trivial (λ_=>trivial) (λ_=>trivial) (λ_=>trivial) (λ_=>trivial) (λ_ _ _=>trivial) (λ_ _ _ _=>trivial) (λ_=>trivial) (λ_ _ _ _=>trivial) (λ_=>trivial) n (λh _ _ t=>c h t) trivial (λ_ _ _ _=>trivial) h
theorem DY.ind{P:Gc (Key×V)->Gc (Key×D)->Prop}(n:P [] [])(c:∀{k:Key} {v:V} {d:D} {vs:Gc (Key×V)} {ds:Gc (Key×D)},EI K M H v d->P vs ds->P ((k,v)::vs) ((k,d)::ds)){vs:Gc (Key×V)}{ds:Gc (Key×D)}(h:DY K M H vs ds):P vs ds:=
 DY.rec (motive_1:=λ_ _ _=>AAm) (motive_2:=λ_ _ _=>AAm) (motive_3:=λv d _=>P v d) trivial (λ_=>trivial) (λ_=>trivial) (λ_=>trivial) (λ_=>trivial) (λ_ _ _=>trivial) (λ_ _ _ _=>trivial) (λ_=>trivial) (λ_ _ _ _=>trivial) (λ_=>trivial) trivial (λ_ _ _ _=>trivial) n (λh _ _ t=>c h t) h
theorem A5.step(g:Sp1 M H M' H'){v:Gc V}{d:Gc D}(h:A5 K M H v d):A5 K M' H' v d:=h.ind .nil λh t=>.cons (h.step g) t
theorem DY.step(g:Sp1 M H M' H'){v:Gc (Key×V)}{d:Gc (Key×D)}(h:DY K M H v d):DY K M' H' v d:=h.ind .nil λh t=>.cons (h.step g) t
theorem A5.length:∀{v:Gc V} {d:Gc D},A5 K M H v d->v.length=d.length
 |_,_,.nil=>rfl
 |_,_,.cons _ t=>by simp[A5.length t]
theorem A5.get:∀{v:Gc V} {d:Gc D} {i:Nat} {y:D},A5 K M H v d->d[i]?=Fk y->∃x,v[i]?=Fk x/\EI K M H x y
 |_,_,i,y,.nil,e=>by simp at e
 |_,_,0,y,.cons h t,e=>by simp at e;subst e;exact⟨_,rfl,h⟩
 |_,_,i+1,y,.cons h t,e=>by
  obtain⟨x,h1,h2⟩:=A5.get (i:=i) t (by simpa using e)
  exact⟨x,by simpa using h1,h2⟩
theorem A5.append:∀{v v':Gc V} {d d':Gc D},A5 K M H v d->A5 K M H v' d'->A5 K M H (v++v') (d++d')
 |_,_,_,_,.nil,s=>s
 |_,_,_,_,.cons h t,s=>.cons h (A5.append t s)
theorem A5.take:∀{v:Gc V} {d:Gc D} (n:Nat),A5 K M H v d->A5 K M H (v.take n) (d.take n)
 |_,_,0,_=>.nil
 |_,_,_+1,.nil=>.nil
 |_,_,n+1,.cons h t=>.cons h (A5.take n t)
theorem A5.drop:∀{v:Gc V} {d:Gc D} (n:Nat),A5 K M H v d->A5 K M H (v.drop n) (d.drop n)
 |_,_,0,r=>r
 |_,_,_+1,.nil=>.nil
 |_,_,n+1,.cons _ t=>A5.drop n t
theorem A5.set{x:V}{y:D}(r:EI K M H x y):∀{v:Gc V} {d:Gc D} (i:Nat),A5 K M H v d->A5 K M H (v.set i x) (d.set i y)
 |_,_,_,.nil=>.nil
 |_,_,0,.cons _ t=>.cons r t
 |_,_,i+1,.cons q t=>.cons q (A5.set r i t)
end
abbrev En:=Gc (uL D)
abbrev Sg:=Gc (uL V)
structure EnR(K:Wp)(M:Ms)(E:En)(σ:Sg)(H:Hp):Prop where
 len:E.length=σ.length
 val:∀(i:Nat) (d:D),E[i]?=Fk (Fk d)->∃v,σ[i]?=Fk (Fk v)/\EI K M H v d
noncomputable def OI(x:Str):Str:=(x++(".<locals>.":Str))++("<lambda>":Str)
def MR(K:Wp)(c P:uN):Prop:=
 ∃o vs file tf flags tg inF text tt,K.lookup c=Fk o/\o.cls=AAN "code" /\o.data=Data.fields vs/\vs[11]?=Fk (vi P)/\vs.getD 11 vz=vi P/\vs.getD 18 vz=AAA file tf/\vs.getD 7 vz=zP flags tg/\vs.getD 9 vz=AAM inF/\vs.getD 10 vz=zP text tt/\c≠P
def TabAt(K:Wp)(x:Str)(P:uN):Prop:=
 ∃f oc od fd osl c,wc K mainGlobals x=Fk (Fk (vi f))/\K.lookup f=Fk ⟨oc,od,Data.func fd,osl⟩/\fd.code=vi c/\MR K c P
def WN(q:Str)(o:Obj):Prop:=∃vs t,o.data=Data.fields vs/\vs[1]?=Fk (AAA q t)
structure Vr(K:Wp)(H:Hp)(x:Str)(P:uN)(ps:vY W1):Prop where
 tri:PySem.TriplesOk ps.toList
 tat:TabAt K x P
 cod:∀pos cv,PySem.codeAmong pos ps.toList=Fk cv->∃c o,cv=vi c/\H c=Fk (.frz o (.own 0))/\WN (OI x) o
theorem Vr.step{x:Str}{P:uN}{ps:vY W1}{K:Wp}{M M':Ms}{H H':Hp}(t:Vr K H x P ps)(g:Sp1 M H M' H'):Vr K H' x P ps:=⟨t.tri,t.tat,λpos cv e=>by
 obtain⟨c,o,h1,h2,h3⟩:=t.cod pos cv e
 refine⟨c,o,h1,g.keep _ _ h2 λz=>?_,h3⟩
 rcases g.mo c z with⟨ys,q⟩|⟨ys,q⟩|⟨ys,q⟩<;>(rw[h2]at q;cases q)⟩
def fP(K:Wp)(M:Ms)(H:Hp)(a:uN):Cl->Prop
 | .lst ds=>∃xs,H a=Fk (.lst xs)/\A5 K M H xs ds
 | .dct es=>∃kvs,H a=Fk (.dK kvs)/\DY K M H kvs es
 | .tab x=>∃ps,H a=Fk (.tbl ps)/\Vr K H x a ps
structure StR(K:Wp)(M:Ms)(S:Sto)(H:Hp):Prop where
 mo:MOk M H
 nd:M.cel.Nodup
 nt:∀a∈M.tmp,a∉M.cel
 len:M.cel.length=S.length
 cell:∀(n:Nat) (a:uN) (c:Cl),M.cel[n]?=Fk a->S[n]?=Fk c->fP K M H a c
section
variable{K:Wp}{M M' M2:Ms}{H H' H2:Hp}{E:En}{σ:Sg}{S:Sto}
theorem EnR.step(r:EnR K M E σ H)(g:Sp1 M H M' H'):EnR K M' E σ H':=⟨r.len,λi d e=>by
 obtain⟨v,h1,h2⟩:=r.val i d e
 exact⟨v,h1,h2.step g⟩⟩
theorem StR.at(r:StR K M S H){n:Nat}{c:Cl}(e:S[n]?=Fk c):∃a,M.cel[n]?=Fk a/\fP K M H a c:=by
 have hn:n<M.cel.length:=by rw[r.len];exact(uU.mp e).1
 exact⟨_,tz hn,r.cell n _ c (tz hn) e⟩
theorem StR.grow(r:StR K M S H)(k:∀a o,H a=Fk o->H' a=Fk o):StR K M S H':=by
 have g:Sp1 M H M H':=⟨r.mo,vp,λ_ z=>.inl z,λa o e _=>k a o e⟩
 refine⟨λa z=>(r.mo a z).imp (λ⟨xs,e⟩=>⟨xs,k _ _ e⟩) (Or.imp (λ⟨xs,e⟩=>⟨xs,k _ _ e⟩) λ⟨xs,e⟩=>⟨xs,k _ _ e⟩),r.nd,r.nt,r.len,λn a c h1 h2=>?_⟩
 have q:=r.cell n a c h1 h2
 cases c with
 |lst ds=>obtain⟨xs,e,rr⟩:=q;exact⟨xs,k _ _ e,rr.step g⟩
 |dct ds=>obtain⟨xs,e,rr⟩:=q;exact⟨xs,k _ _ e,rr.step g⟩
 |tab ds=>obtain⟨xs,e,rr⟩:=q;exact⟨xs,k _ _ e,rr.step g⟩
theorem StR.chg(r:StR K M S H){n:Nat}{a:uN}{ds es:Gc D}{ys:Gc V}(h1:M.cel[n]?=Fk a)(h2:S[n]?=Fk (.lst ds))(hy:A5 K M H ys es):StR K M (S.set n (.lst es)) (upd H a (.lst ys))/\Gr M H M (upd H a (.lst ys)):=by
 have ha:a∈M.cel:=uh h1
 have hl:n<S.length:=(uU.mp h2).1
 have g:Gr M H M (upd H a (.lst ys)):=⟨r.mo,vp,rfl,λ_ z=>.inl z,λb o eb nb=>by rw[An (λz=>nb (by rw[z];exact ha))];exact eb,λb eb=>by
  by_cases h:b=a
  .subst h;rw[Bf];intro z;cases z
  .rw[An h];exact eb⟩
 refine⟨⟨λb z=>?_,r.nd,r.nt,by rw[xE];exact r.len,λm b c e1 e2=>?_⟩,g⟩
 .by_cases h:b=a
  .subst h;exact .inl ⟨ys,Bf⟩
  .rw[An h];exact r.mo b z
 .by_cases h:n=m
  .subst h
   rw[h1]at e1;cases e1
   rw[ua hl]at e2;cases e2
   exact⟨ys,Bf,hy.step g.st⟩
  .rw[uS h]at e2
   have hb:b≠a:=λz=>by
    subst z
    exact h ((ym (uU.mp h1).1 r.nd).mp (h1.trans e1.symm))
   have q:=r.cell m b c e1 e2
   cases c with
   |lst fs=>obtain⟨xs,e,rr⟩:=q;exact⟨xs,by rw[An hb];exact e,rr.step g.st⟩
   |dct fs=>obtain⟨xs,e,rr⟩:=q;exact⟨xs,by rw[An hb];exact e,rr.step g.st⟩
   |tab fs=>obtain⟨xs,e,rr⟩:=q;exact⟨xs,by rw[An hb];exact e,rr.step g.st⟩
theorem StR.gi(r:StR K M S H){a:uN}{xs:Gc V}{ds:Gc D}(e:H a=uK)(k:∀b o,H b=Fk o->H' b=Fk o)(ea:H' a=Fk (.lst xs))(rr:A5 K M H xs ds):StR K ⟨M.cel++[a],M.tmp⟩ (S++[.lst ds]) H'/\Gr M H ⟨M.cel++[a],M.tmp⟩ H':=by
 have g:Gr M H ⟨M.cel++[a],M.tmp⟩ H':=⟨r.mo,xt _ _,rfl,λb z=>by
  rcases uk.mp z with z|z
  .exact .inl z
  .simp at z;subst z;exact .inr e,λb o eb _=>k b o eb,λb eb z=>by
  cases h:H b with
  |none=>exact eb h
  |some o=>rw[k b o h]at z;cases z⟩
 have na:¬M.mem a:=λz=>r.mo.some z e
 refine⟨⟨λb z=>?_,?_,λb hb z=>?_,by simp[r.len],λm b c e1 e2=>?_⟩,g⟩
 .have z':M.mem b\/b=a:=by
   rcases z with z|z
   .rcases uk.mp z with z|z
    .exact .inl (.inl z)
    .simp at z;exact .inr z
   .exact .inl (.inr z)
  rcases z' with z|z
  .exact(r.mo b z).imp (λ⟨xs,e⟩=>⟨xs,k _ _ e⟩) (Or.imp (λ⟨xs,e⟩=>⟨xs,k _ _ e⟩) λ⟨xs,e⟩=>⟨xs,k _ _ e⟩)
  .subst z;exact .inl ⟨xs,ea⟩
 .rw[yn]
  refine⟨r.nd,by simp,λx hx y hy=>?_⟩
  simp at hy;subst hy
  exact λz=>na (.inl (by rw[<-z];exact hx))
 .rcases uk.mp z with z|z
  .exact r.nt b hb z
  .simp at z;subst z;exact na (.inr hb)
 .by_cases h:m<S.length
  .rw[uP (by rw[r.len];exact h)]at e1
   rw[uP h]at e2
   have q:=r.cell m b c e1 e2
   cases c with
   |lst fs=>obtain⟨xs,e,rr⟩:=q;exact⟨xs,k _ _ e,rr.step g.st⟩
   |dct fs=>obtain⟨xs,e,rr⟩:=q;exact⟨xs,k _ _ e,rr.step g.st⟩
   |tab fs=>obtain⟨xs,e,rr⟩:=q;exact⟨xs,k _ _ e,rr.step g.st⟩
  .have hm:m=S.length:=by
    have:=(uU.mp e2).1
    simp at this;lia
   subst hm
   rw[vQ (by rw[r.len];exact uV _)]at e1
   rw[vQ (uV _)]at e2
   rw[r.len]at e1
   simp at e1 e2
   subst e1 e2
   exact⟨xs,ea,rr.step g.st⟩
end
noncomputable def sV:uL xj->vL
 |some .local=>true
 |some .cell=>true
 |some .free=>true
 |_=>false
noncomputable def oO(sc:vx)(x:Str):vL:=sV (sc.names.lookup x)
theorem jn{sc:vx}{x:Str}(h:oO sc x=true):Vis sc x:=by
 unfold oO at h
 unfold Vis
 cases e:sc.names.lookup x with
 |none=>rw[e]at h;cases h
 |some k=>
  rw[e]at h
  cases k<;>first|(cases h;done)|simp
abbrev Ev:=En->Sto->uL (D×Sto)
noncomputable def tD(K:Wp)(f:Ev):TE:=λσ H Q=>∃M E S d S',f E S=Fk (d,S')/\EnR K M E σ H/\StR K M S H/\∀v H' M',Gr M H M' H'->StR K M' S' H'->EI K M' H' v d->Q v H'
structure DE(X:Cx)(e:uu)(f:Ev):Prop where
 pe:PE X e (tD X.K f)
theorem CI{X:Cx}{e:uu}{t t':TE}(h:PE X e t)(m:∀σ H Q,t' σ H Q->t σ H Q):PE X e t':=λpins s σ H Q I q=>h pins s σ H Q I (m _ _ _ q)
theorem YA{X:Cx}{e:uu}{t t':TT}(h:PT X e t)(m:∀σ H Q,t' σ H Q->t σ H Q):PT X e t':=λpins s σ H Q I q=>h pins s σ H Q I (m _ _ _ q)
theorem JI{K:Wp}{f:Ev}{σ:Sg}{H:Hp}{Q Q':VK}(h:tD K f σ H Q)(m:∀v H',Q v H'->Q' v H'):tD K f σ H Q':=by
 obtain⟨M,E,S,d,S',e,r,st,q⟩:=h
 exact⟨M,E,S,d,S',e,r,st,λv H' M' g s r=>m _ _ (q v H' M' g s r)⟩
theorem BP{α β:Type}{o:uL α}{k:α->uL β}{y:β}(e:o.bind k=Fk y):∃x,o=Fk x/\k x=Fk y:=by
 cases o with
 |none=>cases e
 |some x=>exact⟨x,rfl,e⟩
theorem Mf{α β:Type}{o:uL α}{k:α->β}{y:β}(e:o.map k=Fk y):∃x,o=Fk x/\k x=y:=by
 cases o with
 |none=>cases e
 |some x=>cases e;exact⟨x,rfl,rfl⟩
noncomputable def fz:Wv->D
 | .val d=>d
 | .own ds=>.lst ds
noncomputable def at?(E:En)(i:Nat):uL D:=(E[i]?).join
theorem at?_some{E:En}{i:Nat}{w:D}(h:at? E i=Fk w):E[i]?=Fk (Fk w):=by
 unfold at? at h
 cases e:E[i]? with
 |none=>rw[e]at h;cases h
 |some q=>rw[e]at h;exact congrArg Fk h
noncomputable def evs:Gc Ev->En->Sto->uL (Gc D×Sto)
 | [],_,S=>Fk ([],S)
 |f::fs,E,S=>(f E S).bind λr=>(evs fs E r.2).map λq=>(r.1::q.1,q.2)
noncomputable def tDs(K:Wp):Gc Ev->TA
 | []=>rA
 |f::fs=>jT (tD K f) (tDs K fs)
structure DEs(X:Cx)(es:Gc uu)(fs:Gc Ev):Prop where
 pe:PA X es (tDs X.K fs)
theorem AD{X:Cx}:DEs X [] []:=⟨Ws⟩
theorem AA{X:Cx}{e:uu}{es:Gc uu}{f:Ev}{fs:Gc Ev}(h:DE X e f)(t:DEs X es fs)(hs:uo (e::es) X.env=(false,eval e X.env)::uo es X.env:=by rfl):DEs X (e::es) (f::fs):=⟨QW h.pe t.pe hs⟩
section
variable{K:Wp}{M M':Ms}{E:En}{S:Sto}{σ:Sg}{H H':Hp}
theorem Jd:∀{fs:Gc Ev} {M:Ms} {S:Sto} {ds:Gc D} {S':Sto} {H:Hp} {Q:Gc V->Hp->Prop},evs fs E S=Fk (ds,S')->EnR K M E σ H->StR K M S H->(∀vs H' M',Gr M H M' H'->StR K M' S' H'->A5 K M' H' vs ds->Q vs H')->tDs K fs σ H Q
 | [],M,S,ds,S',H,Q,e,r,st,q=>by
   cases e
   exact q [] H M (.refl st.mo) st .nil
 |f::fs,M,S,ds,S',H,Q,e,r,st,q=>by
  obtain⟨⟨d,S1⟩,e1,e⟩:=BP e
  obtain⟨⟨es,S2⟩,e2,e⟩:=Mf e
  cases e
  refine⟨M,E,S,d,S1,e1,r,st,λv H1 M1 g1 st1 d1=>?_⟩
  exact Jd e2 (r.step g1.st) st1 λvs H2 M2 g2 st2 d2=>q _ _ M2 (g1.trans g2) st2 (.cons (d1.step g2.st) d2)
theorem Oy:∀{fs:Gc Ev} {S:Sto} {ds:Gc D} {S':Sto},evs fs E S=Fk (ds,S')->ds.length=fs.length
 | [],_,_,_,e=>by cases e;rfl
 |f::fs,S,ds,S',e=>by
  obtain⟨⟨d,S1⟩,e1,e⟩:=BP e
  obtain⟨⟨es,S2⟩,e2,e⟩:=Mf e
  cases e
  simp[Oy e2]
def Sh(K:Wp)(M:Ms)(H:Hp)(v:V):Wv->Prop
 | .val d=>EI K M H v d
 | .own ds=>∃a xs,v=.ref a/\H a=Fk (.lst xs)/\A5 K M H xs ds
inductive Shs(K:Wp)(M:Ms)(H:Hp):Gc V->Gc Wv->Prop
 |nil:Shs K M H [] []
 |cons {v:V} {w:Wv} {vs:Gc V} {ws:Gc Wv} (h:Sh K M H v w) (t:Shs K M H vs ws):Shs K M H (v::vs) (w::ws)
noncomputable def dr(S:Sto):D->Wv
 | .ref n=>match S[n]? with
   |some (.lst ds)=>.own ds
   |_=>.val (.ref n)
 |d=>.val d
theorem eZ(st:StR K M S H){v:V}{d:D}(h:EI K M H v d):Sh K M H v (dr S d):=by
 cases h with
 |ref h=>
  rename_i a n
  show Sh K M H (.ref a) (match S[n]? with|some (.lst ds)=>.own ds|_=>.val (.ref n))
  split
  .rename_i ds e
   obtain⟨xs,h1,h2⟩:=st.cell n a _ h e
   exact⟨a,xs,rfl,h1,h2⟩
  .exact .ref h
 |non=>exact .non
 |bl b=>exact .bl b
 |int b=>exact .int b
 |str b=>exact .str b
 |ty b=>exact .ty b
 |tup h r=>exact .tup h r
 |lst h n r=>exact .lst h n r
 |scr h=>exact .scr h
 |dct h n r=>exact .dct h n r
theorem dD(st:StR K M S H):∀{vs:Gc V} {ds:Gc D},A5 K M H vs ds->Shs K M H vs (ds.map (dr S))
 |_,_,.nil=>.nil
 |_,_,.cons h t=>.cons (eZ st h) (dD st t)
def NwR(K:Wp)(M:Ms)(H H':Hp)(v:V):Wv->Prop
 | .val d=>EI K M H' v d
 | .own ds=>∃a xs,v=.ref a/\H a=uK/\H' a=Fk (.lst xs)/\A5 K M H xs ds
structure Nw(K:Wp)(M:Ms)(H H':Hp)(v:V)(w:Wv):Prop where
 grow:∀a o,H a=Fk o->H' a=Fk o
 rel:NwR K M H H' v w
theorem Nw.same{v:V}{d:D}(mo:MOk M H)(h:EI K M H v d):Nw K M H H v (.val d):=⟨λ_ _ e=>e,h⟩
theorem JM{a:uN}{o:HO}(e:H a=uK):∀b u,H b=Fk u->upd H a o b=Fk u:=λb u eb=>by rw[An (λz=>by subst z;rw[e]at eb;cases eb)];exact eb
theorem Nw.lst{a:uN}{xs:Gc V}{ds:Gc D}(mo:MOk M H)(e:H a=uK)(h:A5 K M H xs ds):Nw K M H (upd H a (.lst xs)) (.ref a) (.own ds):=⟨JM e,a,xs,rfl,e,Bf,h⟩
theorem Nw.tup{a:uN}{xs:Gc V}{ds:Gc D}(mo:MOk M H)(e:H a=uK)(h:A5 K M H xs ds):Nw K M H (upd H a (.tup xs)) (.ref a) (.val (.tup ds)):=⟨JM e,.tup (.of Bf) (h.step (Gr.grow mo (JM e)).st)⟩
noncomputable def fin:vL->Wv->Sto->uL (D×Sto)
 |_,.val d,S=>Fk (d,S)
 |false,.own ds,S=>Fk (.lst ds,S)
 |true,.own ds,S=>Fk (.ref S.length,S++[.lst ds])
theorem Nw.fin{c:vL}{v:V}{w:Wv}{d:D}{S':Sto}(n:Nw K M H H' v w)(st:StR K M S H)(e:fin c w S=Fk (d,S')):∃M',Gr M H M' H'/\StR K M' S' H'/\EI K M' H' v d:=by
 cases w with
 |val d'=>
  cases e
  exact⟨M,.grow st.mo n.grow,st.grow n.grow,n.rel⟩
 |own ds=>
  obtain⟨a,xs,rfl,h1,h2,h3⟩:=n.rel
  cases c with
  |false=>
   cases e
   exact⟨M,.grow st.mo n.grow,st.grow n.grow,.lst h2 (λz=>st.mo.some z h1) (h3.step (Gr.grow st.mo n.grow).st)⟩
  |true=>
   cases e
   obtain⟨s1,g1⟩:=st.gi h1 n.grow h2 h3
   refine⟨_,g1,s1,.ref ?_⟩
   rw[<-st.len]
   exact uj
abbrev Op1:=Wv->uL Wv
abbrev Op2:=Wv->Wv->uL Wv
abbrev OpN:=Gc Wv->uL Wv
noncomputable def rOp(K:Wp)(op:Op2):R2:=λx y H Q=>∃M w1 w2 r,op w1 w2=Fk r/\MOk M H/\Sh K M H x w1/\Sh K M H y w2/\∀v H',Nw K M H H' v r->Q v H'
def rUn(K:Wp)(op:Op1):V->Hp->VK->Prop:=λx H Q=>∃M w r,op w=Fk r/\MOk M H/\Sh K M H x w/\∀v H',Nw K M H H' v r->Q v H'
def rN(K:Wp)(op:OpN):Gc V->Hp->VK->Prop:=λxs H Q=>∃M ws r,op ws=Fk r/\MOk M H/\Shs K M H xs ws/\∀v H',Nw K M H H' v r->Q v H'
noncomputable def RT(c:vL)(op:OpN)(fs:Gc Ev):Ev:=λE S=>(evs fs E S).bind λr=>(op (r.1.map (dr r.2))).bind λw=>fin c w r.2
abbrev eOp:=RT false
abbrev g9:=RT true
noncomputable def o1(op:Op1):OpN| [a]=>op a|_=>uK
noncomputable def o2(op:Op2):OpN| [a,b]=>op a b|_=>uK
theorem P8{c:vL}{op:OpN}{fs:Gc Ev}{Q:VK}{d:D}{S':Sto}(e:RT c op fs E S=Fk (d,S'))(r:EnR K M E σ H)(st:StR K M S H)(h:∀v H' M',Gr M H M' H'->StR K M' S' H'->EI K M' H' v d->Q v H'):tDs K fs σ H λvs H1=>rN K op vs H1 Q:=by
 obtain⟨⟨ds,S1⟩,e1,e⟩:=BP e
 obtain⟨w,e2,e⟩:=BP e
 refine Jd e1 r st λvs H1 M1 g1 st1 d1=>⟨M1,_,w,e2,st1.mo,dD st1 d1,λv H2 n=>?_⟩
 obtain⟨M2,g2,st2,d2⟩:=n.fin st1 e
 exact h v H2 M2 (g1.trans g2) st2 d2
end
theorem kc{K:Wp}{f:Op2}{x y:V}{H:Hp}{Q:VK}(h:rN K (o2 f) [x,y] H Q):rOp K f x y H Q:=by
 obtain⟨M,ws,r,e,mo,s,q⟩:=h
 cases s with
 |cons h1 s=>
  cases s with
  |cons h2 s=>
   cases s
   exact⟨M,_,_,r,e,mo,h1,h2,q⟩
theorem je{K:Wp}{f:Op1}{x:V}{H:Hp}{Q:VK}(h:rN K (o1 f) [x] H Q):rUn K f x H Q:=by
 obtain⟨M,ws,r,e,mo,s,q⟩:=h
 cases s with
 |cons h1 s=>
  cases s
  exact⟨M,_,r,e,mo,h1,q⟩
theorem Ut{K:Wp}{c:vL}{f:Op2}{fa fb:Ev}{σ:Sg}{H:Hp}{Q:VK}(h:tD K (RT c (o2 f) [fa,fb]) σ H Q):tOp (rOp K f) (tD K fa) (tD K fb) σ H Q:=by
 obtain⟨M,E,S,d,S',e,r,st,q⟩:=h
 have z:tD K fa σ H λx H1=>tD K fb σ H1 λy H2=>rN K (o2 f) [x,y] H2 Q:=P8 (Q:=Q) e r st q
 exact JI z λx H1 z1=>JI z1 λy H2 z2=>kc z2
theorem Wm{K:Wp}{c:vL}{f:Op1}{fa:Ev}{σ:Sg}{H:Hp}{Q:VK}(h:tD K (RT c (o1 f) [fa]) σ H Q):tUn (rUn K f) (tD K fa) σ H Q:=by
 obtain⟨M,E,S,d,S',e,r,st,q⟩:=h
 have z:tD K fa σ H λx H1=>rN K (o1 f) [x] H1 Q:=P8 (Q:=Q) e r st q
 exact JI z λx H1 z1=>je z1
section
variable{X:Cx}{a b e:uu}{es:Gc uu}{fa fb:Ev}{fs:Gc Ev}{pos p:Pos}{c:vL}
theorem AX{op:Operator}{f:Op2}(ho:OpR X (binaryOp op) (rOp X.K f))(ha:DE X a fa)(hb:DE X b fb):DE X (.BinOp a op b pos) (RT c (o2 f) [fa,fb]):=⟨CI (pU ho ha.pe hb.pe) λ_ _ _ h=>Ut h⟩
theorem Ew{op:CmpOp}{f:Op2}(ho:OpR X (compareOp op) (rOp X.K f))(ha:DE X a fa)(hb:DE X b fb)(hm:behindInMarks op b=false:=by rfl):DE X (.Compare a [op] [b] pos) (RT c (o2 f) [fa,fb]):=⟨CI (eM ho ha.pe hb.pe hm) λ_ _ _ h=>Ut h⟩
theorem NY{op:UnaryOp}{f:Op1}(ho:UnR X (unaryOp op) (rUn X.K f))(ha:DE X a fa):DE X (.UnaryOp op a pos) (RT c (o1 f) [fa]):=⟨CI (kS ho ha.pe) λ_ _ _ h=>Wm h⟩
theorem AL{f:Op2}(hr:IxR X (rOp X.K f))(ha:DE X a fa)(hb:DE X b fb)(hs:X3 b:=by exact λ_ _=>rfl):DE X (.Subscript a b pos) (RT c (o2 f) [fa,fb]):=⟨CI (nW hr ha.pe hb.pe hs) λ_ _ _ h=>Ut h⟩
theorem Ac{id:xI}{x:Str}{f:OpN}(hc:Fd X (.builtin id) (rN X.K f))(hg:Gl X x)(hm:X.mg x=uK)(hv:bootBuiltins x=Fk (.builtin id))(ha:DEs X (e::es) fs)(hn:x≠ "__name__":=by decide)(hdb:(x==("__debug__":Str))=false:=by decide)(he:uo (e::es) X.env=(false,eval e X.env)::uo es X.env:=by rfl)(hpl:(backTo pos (uo es X.env)).any (·.1)=false:=by rfl):DE X (.Call (.Name x p) (e::es) [] pos) (RT c f fs):=⟨
 CI (bu hc hg hm hv ha.pe hn hdb he hpl) λ_ _ _ h=>by
  obtain⟨M,E,S,d,S',e,r,st,q⟩:=h
  exact P8 e r st q⟩
theorem Am{T:xI}{x:Str}{f:OpN}(hc:Fd X (.type T) (rN X.K f))(hg:Gl X x)(hm:X.mg x=uK)(hv:bootBuiltins x=Fk (.type T))(ha:DEs X (e::es) fs)(hn:x≠ "__name__":=by decide)(hdb:(x==("__debug__":Str))=false:=by decide)(he:uo (e::es) X.env=(false,eval e X.env)::uo es X.env:=by rfl)(hpl:(backTo pos (uo es X.env)).any (·.1)=false:=by rfl):DE X (.Call (.Name x p) (e::es) [] pos) (RT c f fs):=⟨
 CI (X5 hc hg hm hv ha.pe hn hdb he hpl) λ_ _ _ h=>by
  obtain⟨M,E,S,d,S',e,r,st,q⟩:=h
  exact P8 e r st q⟩
noncomputable def eC(d:D):Ev:=λ_ S=>Fk (d,S)
theorem SW{v:V}{d:D}(h:PE X e (tC v))(r:∀K M H,EI K M H v d):DE X e (eC d):=⟨CI h λσ H Q z=>by
 obtain⟨M,E,S,w,S',e,rr,st,q⟩:=z
 cases e
 exact q _ _ M (.refl st.mo) st (r _ _ _)⟩
theorem AF{i:Int}{j:Nat}:DE X (.Constant (.int i) j pos) (eC (.int i)):=SW dC λ_ _ _=>.int _
theorem UB{i:vL}{j:Nat}:DE X (.Constant (.bool i) j pos) (eC (.bl i)):=SW pW λ_ _ _=>.bl _
theorem BA{i:Str}{j:Nat}:DE X (.Constant (.str i) j pos) (eC (.str i)):=SW ji λ_ _ _=>.str _
theorem MM{j:Nat}:DE X (.Constant .none j pos) (eC .non):=SW iy λ_ _ _=>.non
noncomputable def eV(i:Nat):Ev:=λE S=>(at? E i).map λd=>(d,S)
theorem AB(i:Nat){x:Str}(hN:X.N[i]?=Fk x:=by rfl)(hv:oO X.env.scope x=true:=by rfl)(hd:(x==("__debug__":Str))=false:=by decide)(hcd:(x==("__classdict__":Str))=false:=by decide):DE X (.Name x pos) (eV i):=⟨CI (Xm hN (jn hv) hd hcd) λσ H Q z=>by
 obtain⟨M,E,S,d,S',e,r,st,q⟩:=z
 obtain⟨d',e1,e⟩:=Mf e
 cases e
 obtain⟨v,hv,rd⟩:=r.val i d (at?_some e1)
 exact⟨v,hv,q v H M (.refl st.mo) st rd⟩⟩
end
theorem Jb:fillsNumberSlot (.type "tuple") "mul"=pure false:=
 fillsNumberSlot_seq (id:="tuple.__mul__") (r:=Fk (.builtin "tuple.__rmul__")) yz.lookup (by decide+kernel) F.slot_tuple_rmul.lookup (by decide+kernel)
theorem NS:seqRepeat? (.type "tuple")=pure (Fk (.builtin "tuple.__mul__")):=by
 unfold seqRepeat?
 rw[seqSlot_of (T:="tuple") (name:="__mul__") (id:="tuple.__mul__") yz.lookup (by decide+kernel),seqSlot_of (T:="tuple") (name:="__rmul__") (id:="tuple.__rmul__") F.slot_tuple_rmul.lookup (by decide+kernel)]
 rfl
theorem K6(a:Int)(t:Tok)(l:uN)(items:vY W1)(n:Nat)(dd:uL uN)(sl:vY (uL W1)):Meets (yA.«int.__rmul__» ⟨[.int a t,.ref l],[]⟩) (λ_ R s=>s.heap.get? l=Fk {cls:=.type "tuple",dict:=dd,data:=.seq items n,slots:=sl}/\R (.ok (.ret Value.notImplemented)) s):=
 .of_wp λprog w A R s h=>by obtain⟨hp,g,d,tk,os⟩:=s;obtain⟨hl,h⟩:=h;wp_walk;exact⟨_,rfl,h⟩
theorem Xl(its:Gc W1)(m:Nat):ABX (λx1 x2=>x1++x2) #[] (um m its.toArray)=(um m its).flatten.toArray:=by
 have:=foldl_rep its m []
 rw[vH]at this
 exact this
theorem gR{X:Cx}:OpR X (binaryOp .Mult) (λx y H Q=>∃a xs k,x=.ref a/\y=.int k/\SqT X.K H a xs/\xs≠[]/\1<=k/\xs.length*k.toNat<=sizeLine/\(k=1->Q (.ref a) H)/\(k≠1->∀p,H p=uK->Q (.ref p) (upd H p (.tup (um k.toNat xs).flatten)))):=by
 intro pins s σ H x y v u Q I rx ry h
 obtain⟨a,xs,k,rfl,rfl,hx,hne,hk,hz,q1,q2⟩:=h
 cases rx
 obtain⟨t,rfl⟩:=ry
 obtain⟨its,r,⟨⟨c,dd,data,sl⟩,ho,hc,n,hd⟩,hzz⟩:=I.tuple hx
 simp only at hc hd
 subst hc hd
 have hl:=r.length
 have hsz:its.toArray.size=xs.length:=by rw[ue];exact hl.symm
 have hpos:0<xs.length:=ABL.mpr hne
 have hkl:k.toNat<=sizeLine:=uW (Nat.le_mul_of_pos_left _ hpos) hz
 have hk63:k<2^63:=by
  have:(sizeLine:Nat)<2^63:=by decide
  lia
 refine yL (T:="tuple") (U:="int") (by decide) ⟨_,ho,rfl⟩ (λs'=>yD s' k t) Jb AAf xw NS AAF.lookup
  (xF xw (yD s k t) AAG (zv _ _) (K6 k t a its.toArray n dd sl) ⟨ho,rfl,⟨_,ho,rfl⟩,?_⟩)
 refine wV yz ⟨_,ho,rfl⟩ F.entry_tuple_mul ?_ (ABb _ _)
 unfold yA.«tuple.__mul__»
 wp_walk using uw ho
 rw[vP (show¬(decide (k< -2^63)||decide (k≥2^63))=true by
  rw[vo]
  rintro (z|z)
  .have:=uf z;lia
  .have:=uf z;lia)]
 wp_walk using uw ho
 by_cases h1:k=1
 .subst h1
  rw[vM (show(its.toArray.isEmpty||(1:Int)==1)=true by simp)]
  wp_walk using uw ho
  exact⟨_,rfl,.ref a,H,I,rfl,q1 rfl⟩
 .have hemp:its.toArray.isEmpty=false:=by
   cases its with
   |nil=>rw[yV]at hl;lia
   |cons b bs=>rfl
  rw[vP (show¬(its.toArray.isEmpty||k==1)=true by rw[hemp];simpa using h1)]
  wp_walk using uw ho
  have hmul:((its.toArray.size:Int)*k)=((xs.length*k.toNat:Nat):Int):=by
   rw[hsz,AAi]
   congr 1
   lia
  rw[vP (show¬(decide (k<=0)||its.toArray.isEmpty)=true by
   rw[hemp,Bool.or_false]
   intro z
   have:=uf z
   lia)]
  wp_walk
  rw[vP (show¬((its.toArray.size:Int)*k>(2^63-1) / 8) by
   rw[hmul]
   have:(sizeLine:Nat)<=(2^63-1) / 8:=by decide
   lia)]
  wp_walk
  rw[vP (show¬zg ((its.toArray.size:Int)*k)=true by
   unfold zg
   rw[hmul]
   intro z
   have:=uf z
   lia)]
  rw[Xl]
  wp_walk
  have hlen:(um k.toNat its).flatten.length<=sizeLine:=by rw[len_rep,xW,<-hl];exact hz
  rw[vP (show¬((um k.toNat its).flatten.toArray.size>sizeLine) by rw[ue];lia)]
  wp_walk
  refine⟨_,rfl,.ref _,_,I.laid (o:=.tup (um k.toNat xs).flatten) (t':=s.toks) (λb ob q=>uJ _ q) (uV _) ?_,rfl,q2 h1 _ (I.hok.fresh (uV _))⟩
  exact⟨by rw[len_rep,xW];exact hz,_,r.rep k.toNat,xf _ _⟩
mutual
noncomputable def D.py:D->PyData
 | .non=>.none| .bl b=>.bool b| .int i=>.int i| .str x=>.str x| .ty _=>.none
 | .tup ds=>.tuple (D.pys ds)| .lst ds=>.list (D.pys ds)| .dct _=>.none| .scr _=>.none| .ref _=>.none
noncomputable def D.pys:Gc D->Gc PyData
 | []=>[]
 |d::ds=>D.py d::D.pys ds
end
mutual
noncomputable def D.lay:D->vL
 | .non=>true| .bl _=>true| .int _=>true| .str x=>vt x| .ty _=>false| .dct _=>false| .scr _=>false| .ref _=>false
 | .tup ds=>D.QP ds| .lst ds=>D.QP ds
noncomputable def D.QP:Gc D->vL
 | []=>true
 |d::ds=>D.lay d && D.QP ds
end
mutual
theorem OX:∀{d:D},d.lay=true->d.py.canLay0=true
 | .non,_=>rfl
 | .bl _,_=>rfl
 | .int _,_=>rfl
 | .str x,h=>h
 | .ty _,h=>wk h
 | .dct _,h=>wk h
 | .scr _,h=>wk h
 | .ref _,h=>wk h
 | .tup ds,h=>by show yo (D.pys ds)=true;exact Qh h
 | .lst ds,h=>by show yo (D.pys ds)=true;exact Qh h
theorem Qh:∀{ds:Gc D},D.QP ds=true->yo (D.pys ds)=true
 | [],_=>rfl
 |d::ds,h=>by
  have h':(D.lay d && D.QP ds)=true:=h
  rw[ub]at h'
  show(PyData.canLay0 d.py && yo (D.pys ds))=true
  rw[OX h'.1,Qh h'.2];rfl
end
section
variable{X:Cx}{pins:Gc (uN×Obj)}{σ:Sg}{H:Hp}{s:uM}{M:Ms}
theorem JZ(I:Inv X pins σ H s){a:uN}{xs:Gc V}(h:Rd H a (.lst xs)):∃its:Gc W1,Vals xs its/\∃o n,s.heap.get? a=Fk o/\o.cls=.type "list" /\o.data=.seq its.toArray n:=by
 obtain⟨z,its,n,r,e⟩:=h.ok I.hok
 exact⟨its,r,_,n,e,rfl,rfl⟩
theorem EI.reads(I:Inv X pins σ H s){v:V}{d:D}(h:EI X.K M H v d):∀{u:W1},RelV v u->d.lay=true->∃as,Reads s.heap u d.py as:=
 EI.rec (motive_1:=λv d _=>∀{u:W1},RelV v u->d.lay=true->∃as,Reads s.heap u d.py as) (motive_2:=λvs ds _=>∀{us:Gc W1},Vals vs us->D.QP ds=true->∃as,ReadsAll s.heap us (D.pys ds) as) (motive_3:=λ_ _ _=>AAm)
  (λr _=>by cases r;exact⟨_,.none⟩) (λb _ r _=>by cases r;exact⟨_,.bool b⟩) (λb _ r _=>by obtain⟨t,rfl⟩:=r;exact⟨_,.int b t⟩) (λb _ r _=>by obtain⟨t,rfl⟩:=r;exact⟨_,.str b t⟩) (λ_ _ _ h=>wk h)
  (fun h _ ih _ r hl => by
    cases r
    obtain⟨its,rv,⟨o,e,hc,n,hd⟩,_⟩:=I.tuple h
    obtain⟨as,ra⟩:=ih rv hl
    exact⟨as,.tuple e hc hd ra⟩)
  (fun h _ _ ih _ r hl => by
    cases r
    obtain⟨its,rv,o,n,e,hc,hd⟩:=JZ I (.inl h)
    obtain⟨as,ra⟩:=ih rv hl
    exact⟨_,.list e hc hd ra⟩)
  (λ_ _ _ h=>wk h) (λ_ _ _ _ _ _ h=>wk h) (λ_ _ _ h=>wk h)
  (fun r _ => by cases r; exact ⟨_, .nil⟩) (fun {v d vs ds} _ _ ih1 ih2 _ r hl => by
    cases r with
    |cons r1 r2=>
     have hl':(D.lay d && D.QP ds)=true:=hl
     rw[ub]at hl'
     obtain⟨as,ra⟩:=ih1 r1 hl'.1
     obtain⟨bs,rb⟩:=ih2 r2 hl'.2
     exact⟨_,.cons ra rb⟩) trivial (λ_ _ _ _=>trivial) h
theorem A5.reads(I:Inv X pins σ H s){vs:Gc V}{ds:Gc D}(h:A5 X.K M H vs ds):∀{us:Gc W1},Vals vs us->D.QP ds=true->∃as,ReadsAll s.heap us (D.pys ds) as:=
 h.ind (P:=λvs ds=>∀{us:Gc W1},Vals vs us->D.QP ds=true->∃as,ReadsAll s.heap us (D.pys ds) as) (λr _=>by cases r;exact⟨_,.nil⟩) (λ{v d vs ds} h ih2 _ r hl=>by
  cases r with
  |cons r1 r2=>
   have hl':(D.lay d && D.QP ds)=true:=hl
   rw[ub]at hl'
   obtain⟨as,ra⟩:=h.reads I r1 hl'.1
   obtain⟨bs,rb⟩:=ih2 r2 hl'.2
   exact⟨_,.cons ra rb⟩)
end
noncomputable def deq(a b:D):vL:=PyData.eqv a.py b.py
noncomputable def EE(a b:D):vL:=a.lay && b.lay && decide (min a.py.depth b.py.depth<=60)
noncomputable def wEq:Op2:=λa b=>if EE (fz a) (fz b)=true then Fk (.val (.bl (deq (fz a) (fz b))))else uK
noncomputable def wNe:Op2:=λa b=>if EE (fz a) (fz b)=true then Fk (.val (.bl (!deq (fz a) (fz b))))else uK
section
variable{X:Cx}
theorem Sh.reads{pins:Gc (uN×Obj)}{σ:Sg}{H:Hp}{s:uM}{M:Ms}{v:V}{u:W1}{w:Wv}(h:Sh X.K M H v w)(I:Inv X pins σ H s)(r:RelV v u)(hl:(fz w).lay=true):∃as,Reads s.heap u (fz w).py as:=by
 cases w with
 |val d=>exact EI.reads I h r hl
 |own ds=>
  obtain⟨a,xs,rfl,h1,h2⟩:=h
  cases r
  obtain⟨its,rv,o,n,e,hc,hd⟩:=JZ I (.inl h1)
  obtain⟨as,ra⟩:=A5.reads I h2 rv hl
  exact⟨_,.list e hc hd ra⟩
theorem Bo(hu:X.A.units+100<cLine):OpR X (compareOp .Eq) (rOp X.K wEq):=by
 intro pins s σ H x y v u Q I rx ry h
 obtain⟨M,w1,w2,r,e,mo,s1,s2,q⟩:=h
 unfold wEq at e
 split at e
 .rename_i hk
  unfold EE at hk
  rw[ub,ub]at hk
  cases e
  obtain⟨as,ra⟩:=s1.reads I rx hk.1.1
  obtain⟨bs,rb⟩:=s2.reads I ry hk.1.2
  have hd:=uf hk.2
  exact SeqAt.compareEq_reads ra rb (OX hk.1.1) (OX hk.1.2) (by omega) ⟨.bl _,H,I,rfl,q _ _ (.same mo (.bl _))⟩
 .cases e
theorem MG(hu:X.A.units+100<cLine):OpR X (compareOp .NotEq) (rOp X.K wNe):=by
 intro pins s σ H x y v u Q I rx ry h
 obtain⟨M,w1,w2,r,e,mo,s1,s2,q⟩:=h
 unfold wNe at e
 split at e
 .rename_i hk
  unfold EE at hk
  rw[ub,ub]at hk
  cases e
  obtain⟨as,ra⟩:=s1.reads I rx hk.1.1
  obtain⟨bs,rb⟩:=s2.reads I ry hk.1.2
  have hd:=uf hk.2
  exact SeqAt.compareNe_reads ra rb (OX hk.1.1) (OX hk.1.2) (by omega) ⟨.bl _,H,I,rfl,q _ _ (.same mo (.bl _))⟩
 .cases e
noncomputable def wI2(f:Int->Int->uL D):Op2
 | .val (.int i),.val (.int j)=>(f i j).map .val
 |_,_=>uK
theorem Uq{g:W1->W1->Sem W1}{C:Int->Int->Prop}{h:Int->Int->V}{f:Int->Int->uL D}(o:OpR X g (rI C h))(hf:∀i j d,f i j=Fk d->C i j/\∀K M H,EI K M H (h i j) d):OpR X g (rOp X.K (wI2 f)):=by
 intro pins s σ H x y v u Q I rx ry hh
 obtain⟨M,w1,w2,r,e,mo,s1,s2,q⟩:=hh
 unfold wI2 at e
 split at e
 .cases s1
  cases s2
  rename_i i j
  cases e1:f i j with
  |none=>rw[e1]at e;cases e
  |some d=>
   rw[e1]at e
   cases e
   obtain⟨c,rd⟩:=hf i j d e1
   exact o pins s σ H _ _ v u Q I rx ry ⟨i,j,rfl,rfl,c,q _ _ (.same mo (rd _ _ _))⟩
 .cases e
theorem N6{g:W1->W1->Sem W1}{h:Int->Int->V}{f:Int->Int->uL D}(o:OpR X g (rI0 h))(hf:∀i j d,f i j=Fk d->∀K M H,EI K M H (h i j) d):OpR X g (rOp X.K (wI2 f)):=by
 intro pins s σ H x y v u Q I rx ry hh
 obtain⟨M,w1,w2,r,e,mo,s1,s2,q⟩:=hh
 unfold wI2 at e
 split at e
 .cases s1
  cases s2
  rename_i i j
  cases e1:f i j with
  |none=>rw[e1]at e;cases e
  |some d=>
   rw[e1]at e
   cases e
   exact o pins s σ H _ _ v u Q I rx ry ⟨i,j,rfl,rfl,q _ _ (.same mo (hf i j d e1 _ _ _))⟩
 .cases e
noncomputable def OQ:Op2:=wI2 λi j=>Fk (.int (i-j))
noncomputable def cN:Nat:=2^60000
noncomputable def Hz:Nat:=2^8000
noncomputable def Dc(i j:Int):vL:=decide (i.natAbs<2^64)||(decide (j.natAbs<2^64)||(decide (i.natAbs<cN) && decide (j.natAbs<cN)))
theorem gA:OpR X (binaryOp .Mult) (rI (λi j=>Dc i j=true) λi j=>.int (i*j)):=by
 intro pins s σ H x y v u Q I rx ry h
 obtain⟨i,j,rfl,rfl,hk,q⟩:=h
 unfold Dc at hk
 rw[vo,vo,ub]at hk
 rcases hk with hk|hk|hk
 .have:=uf hk
  exact dZ pins s σ H _ _ v u Q I rx ry ⟨i,j,rfl,rfl,.inl ⟨by omega,by omega⟩,q⟩
 .have:=uf hk
  exact dZ pins s σ H _ _ v u Q I rx ry ⟨i,j,rfl,rfl,.inr ⟨by omega,by omega⟩,q⟩
 .have h1:i.natAbs<2^60000:=uf hk.1
  have h2:j.natAbs<2^60000:=uf hk.2
  obtain⟨t1,rfl⟩:=rx
  obtain⟨t2,rfl⟩:=ry
  exact PyProof.Rows.mul_int ⟨.int _,H,I.tok _,⟨_,rfl⟩,q⟩ (PyProof.Rows.mulOk_of_bits (m:=60000) (n:=60000) (AA5.mpr h1) (AA5.mpr h2) (by decide))
noncomputable def kH:Op2:=wI2 λi j=>if Dc i j=true then Fk (.int (i*j))else uK
noncomputable def Qo:Op2:=wI2 λi j=>if(decide (0<j) && decide (j.natAbs<Hz))=true then Fk (.int (i / j))else uK
noncomputable def TN:Op2:=wI2 λi j=>if 0<j then Fk (.int (i % j))else uK
noncomputable def XN:Op2:=wI2 λi j=>if(decide (0<=j) && decide (j<=1000) && decide (i.natAbs<2^64))=true then Fk (.int (i^j.toNat))else uK
noncomputable def wLt:Op2:=wI2 λi j=>Fk (.bl (decide (i<j)))
noncomputable def wLe:Op2:=wI2 λi j=>Fk (.bl (decide (i<=j)))
noncomputable def wGt:Op2:=wI2 λi j=>Fk (.bl (decide (j<i)))
noncomputable def wGe:Op2:=wI2 λi j=>Fk (.bl (decide (j<=i)))
theorem Fx:OpR X (binaryOp .Sub) (rOp X.K OQ):=N6 jB λi j d e K M H=>by cases e;exact .int _
theorem eK:OpR X (binaryOp .Mult) (rOp X.K kH):=Uq gA λi j d e=>by
 split at e
 .rename_i hk
  cases e
  exact⟨hk,λ_ _ _=>.int _⟩
 .cases e
theorem JX:OpR X (binaryOp .FloorDiv) (rOp X.K Qo):=Uq St.Zf λi j d e=>by
 split at e
 .rename_i hk
  rw[ub]at hk
  cases e
  exact⟨⟨uf hk.1,uf hk.2⟩,λ_ _ _=>.int _⟩
 .cases e
theorem IU:OpR X (binaryOp .Mod) (rOp X.K TN):=Uq iV λi j d e=>by
 split at e
 .rename_i hk
  cases e
  exact⟨hk,λ_ _ _=>.int _⟩
 .cases e
theorem Qk:OpR X (binaryOp .Pow) (rOp X.K XN):=Uq kT λi j d e=>by
 split at e
 .rename_i hk
  rw[ub,ub]at hk
  cases e
  have:=uf hk.1.2
  exact⟨⟨uf hk.1.1,by omega,uf hk.2⟩,λ_ _ _=>.int _⟩
 .cases e
theorem K9:OpR X (compareOp .Lt) (rOp X.K wLt):=N6 ng λi j d e K M H=>by cases e;exact .bl _
theorem kF:OpR X (compareOp .LtE) (rOp X.K wLe):=N6 pq λi j d e K M H=>by cases e;exact .bl _
theorem NQ:OpR X (compareOp .Gt) (rOp X.K wGt):=N6 oI λi j d e K M H=>by cases e;exact .bl _
theorem Yg:OpR X (compareOp .GtE) (rOp X.K wGe):=N6 nj λi j d e K M H=>by cases e;exact .bl _
noncomputable def asL:Wv->uL (Gc D)
 | .own ds=>Fk ds
 | .val (.lst ds)=>Fk ds
 |_=>uK
noncomputable def asT:Wv->uL (Gc D)
 | .val (.tup ds)=>Fk ds
 |_=>uK
noncomputable def asC:Wv->uL (Gc D)
 | .val (.scr ns)=>Fk (ns.map .int)
 |_=>uK
noncomputable def asS(w:Wv):uL (Gc D):=(asL w).or ((asT w).or (asC w))
section
variable{K:Wp}{M:Ms}{H:Hp}{v:V}{w:Wv}{ds:Gc D}
theorem Sh.l(h:Sh K M H v w)(e:asL w=Fk ds):∃a xs,v=.ref a/\H a=Fk (.lst xs)/\A5 K M H xs ds:=by
 cases w with
 |own es=>cases e;obtain⟨a,xs,rfl,h1,h2⟩:=h;exact⟨a,xs,rfl,h1,h2⟩
 |val d=>
  cases d<;>first|(cases e;done)|skip
  cases e
  cases h with
  |lst h n r=>exact⟨_,_,rfl,h,r⟩
theorem Sh.t(h:Sh K M H v w)(e:asT w=Fk ds):∃a xs,v=.ref a/\SqT K H a xs/\A5 K M H xs ds:=by
 cases w with
 |own es=>cases e
 |val d=>
  cases d<;>first|(cases e;done)|skip
  cases e
  cases h with
  |tup h r=>exact⟨_,_,rfl,h,r⟩
theorem Nv:∀{ns:Gc Int},A5 K M H (ns.map V.int) (ns.map D.int)
 | []=>.nil
 |n::ns=>.cons (.int n) Nv
theorem Sh.c(h:Sh K M H v w)(e:asC w=Fk ds):∃a xs,v=.ref a/\SqL K H a xs/\A5 K M H xs ds:=by
 cases w with
 |own es=>cases e
 |val d=>
  cases d<;>first|(cases e;done)|skip
  cases e
  cases h with
  |scr h=>
   refine⟨_,_,rfl,?_,Nv⟩
   rcases h with h|h
   .exact .inl h.1
   .exact .inr h
theorem Sh.s(h:Sh K M H v w)(e:asS w=Fk ds):∃a xs,v=.ref a/\(SqL K H a xs\/SqT K H a xs)/\A5 K M H xs ds:=by
 unfold asS at e
 cases e1:asL w with
 |some es=>
  rw[e1]at e
  cases e
  obtain⟨a,xs,h1,h2,h3⟩:=h.l e1
  exact⟨a,xs,h1,.inl (.of h2),h3⟩
 |none=>
  rw[e1]at e
  cases e2:asT w with
  |some es=>
   rw[e2]at e
   cases e
   obtain⟨a,xs,h1,h2,h3⟩:=h.t e2
   exact⟨a,xs,h1,.inr h2,h3⟩
  |none=>
   rw[e2]at e
   obtain⟨a,xs,h1,h2,h3⟩:=h.c e
   exact⟨a,xs,h1,.inl h2,h3⟩
end
noncomputable def Jo:Op1:=λw=>match w with
 | .val (.str z)=>if z.length<=sizeLine then Fk (.val (.int z.length))else uK
 |_=>(asS w).map λds=>.val (.int ds.length)
theorem Bq:Fd X (.builtin "len") (rN X.K (o1 Jo)):=by
 intro pins s σ H xs us Q I r h
 obtain⟨M,ws,w,e,mo,sh,q⟩:=h
 cases sh with
 |nil=>cases e
 |cons h1 t=>
  cases t with
  |cons h2 t=>cases e
  |nil=>
   rename_i v w1
   have e':Jo w1=Fk w:=e
   unfold Jo at e'
   split at e'
   .split at e'
    .rename_i z hz
     cases e'
     cases h1
     exact SH pins s σ H _ us Q I r ⟨z,rfl,hz,q _ _ (.same mo (.int _))⟩
    .cases e'
   .cases e1:asS w1 with
    |none=>rw[e1]at e';cases e'
    |some ds=>
     rw[e1]at e'
     cases e'
     obtain⟨a,ys,rfl,h3,h4⟩:=h1.s e1
     refine TJ pins s σ H _ us Q I r ⟨a,ys,rfl,h3,q _ _ ?_⟩
     rw[h4.length]
     exact .same mo (.int _)
noncomputable def wIx:Op2:=λa b=>match a,b with
 |a,.val (.int i)=>(asS a).bind λds=>(atI ds i).map .val
 |_,_=>uK
theorem gw{K:Wp}{M:Ms}{H:Hp}{xs:Gc V}{ds:Gc D}{i:Int}{d:D}(h:A5 K M H xs ds)(e:atI ds i=Fk d):∃x,atI xs i=Fk x/\EI K M H x d:=by
 unfold atI at e⊢
 rw[h.length]
 cases e1:ixN ds.length i with
 |none=>rw[e1]at e;cases e
 |some j=>
  rw[e1]at e
  exact h.get e
theorem AW:IxR X (rOp X.K wIx):=by
 intro value slice pins s σ H x y v u Q I rx ry h hs
 obtain⟨M,w1,w2,r,e,mo,s1,s2,q⟩:=h
 unfold wIx at e
 split at e
 .rename_i i
  cases e1:asS w1 with
  |none=>rw[e1]at e;cases e
  |some ds=>
   rw[e1]at e
   simp only[yI]at e
   cases e2:atI ds i with
   |none=>rw[e2]at e;cases e
   |some d=>
    rw[e2]at e
    cases e
    cases s2
    obtain⟨a,ys,rfl,h3,h4⟩:=s1.s e1
    obtain⟨z,h5,h6⟩:=gw h4 e2
    rcases h3 with h3|h3
    .exact fI value slice pins s σ H _ _ v u Q I rx ry ⟨a,ys,i,z,rfl,rfl,h3,h5,q _ _ (.same mo h6)⟩ hs
    .exact jU value slice pins s σ H _ _ v u Q I rx ry ⟨a,ys,i,z,rfl,rfl,h3,h5,q _ _ (.same mo h6)⟩ hs
 .cases e
end
section
variable{X:Cx}
noncomputable def CK:Op2:=λa b=>match a,b with
 | .val (.int i),.val (.int j)=>Fk (.val (.int (i+j)))
 | .val (.str x),.val (.str y)=>if x.length+y.length<=sizeLine then Fk (.val (.str (x++y)))else uK
 | .val (.tup xs),.val (.tup ys)=>if xs.length+ys.length<=sizeLine then Fk (.val (.tup (xs++ys)))else uK
 |a,b=>(asL a).bind λxs=>(asL b).bind λys=>if xs.length+ys.length<=sizeLine then Fk (.own (xs++ys))else uK
theorem AZ:OpR X (binaryOp .Add) (rOp X.K CK):=by
 intro pins s σ H x y v u Q I rx ry h
 obtain⟨M,w1,w2,r,e,mo,s1,s2,q⟩:=h
 unfold CK at e
 split at e
 .cases e
  cases s1;cases s2
  exact jQ pins s σ H _ _ v u Q I rx ry ⟨_,_,rfl,rfl,q _ _ (.same mo (.int _))⟩
 .split at e
  .cases e
   cases s1;cases s2
   exact WA pins s σ H _ _ v u Q I rx ry ⟨_,_,rfl,rfl,by assumption,q _ _ (.same mo (.str _))⟩
  .cases e
 .split at e
  .rename_i xs ys hz
   cases e
   cases s1 with
   |tup h1 r1=>
    cases s2 with
    |tup h2 r2=>
     rename_i a xs' b ys'
     have l1:=r1.length
     have l2:=r2.length
     by_cases hx:xs'=[]
     .subst hx
      cases r1
      refine St.fq pins s σ H _ _ v u Q I rx ry ⟨_,_,_,rfl,rfl,h1,h2,q _ _ (.same mo ?_)⟩
      exact .tup h2 r2
     .refine gJ pins s σ H _ _ v u Q I rx ry ⟨_,_,_,_,rfl,rfl,h1,h2,hx,by lia,λz=>?_,λ_ p hp=>q _ _ (.tup mo hp (r1.append r2))⟩
      subst z
      cases r2
      rw[wU]at q
      exact q _ _ (.same mo (.tup h1 r1))
  .cases e
 .cases e1:asL w1 with
  |none=>rw[e1]at e;cases e
  |some xs=>
   rw[e1]at e
   cases e2:asL w2 with
   |none=>rw[e2]at e;cases e
   |some ys=>
    rw[e2]at e
    simp only[yI]at e
    split at e
    .rename_i hz
     cases e
     obtain⟨a,xs',rfl,h1,r1⟩:=s1.l e1
     obtain⟨b,ys',rfl,h2,r2⟩:=s2.l e2
     have l1:=r1.length
     have l2:=r2.length
     exact ke pins s σ H _ _ v u Q I rx ry ⟨a,b,xs',ys',rfl,rfl,h1,h2,by lia,λp hp=>q _ _ (.lst mo hp (r1.append r2))⟩
    .cases e
noncomputable def lZ:Op2:=λa b=>match a,b with
 | .val (.int i),.val (.int j)=>if Dc i j=true then Fk (.val (.int (i*j)))else uK
 | .val (.tup xs),.val (.int k)=>if(!xs.isEmpty && decide (1<=k) && decide (xs.length*k.toNat<=sizeLine))=true then Fk (.val (.tup (um k.toNat xs).flatten))else uK
 |a,.val (.int k)=>(asL a).bind λxs=>if(decide (k<2^63) && decide (-(2^63)<=k) && decide (xs.length*k.toNat<=sizeLine))=true then Fk (.own (um k.toNat xs).flatten)else uK
 |_,_=>uK
theorem A5.rep{K:Wp}{M:Ms}{H:Hp}{xs:Gc V}{ds:Gc D}(h:A5 K M H xs ds):∀n:Nat,A5 K M H (um n xs).flatten (um n ds).flatten
 |0=>.nil
 |n+1=>by
  rw[wd,wd,xV,xV]
  exact h.append (A5.rep h n)
theorem WO:OpR X (binaryOp .Mult) (rOp X.K lZ):=by
 intro pins s σ H x y v u Q I rx ry h
 obtain⟨M,w1,w2,r,e,mo,s1,s2,q⟩:=h
 unfold lZ at e
 split at e
 .rename_i i j
  refine eK pins s σ H x y v u Q I rx ry ⟨M,_,_,r,?_,mo,s1,s2,q⟩
  unfold kH wI2
  show yX Wv.val (if Dc i j=true then Fk (D.int (i*j))else uK)=Fk r
  split at e
  .rename_i hk
   rw[vM hk]
   exact e
  .cases e
 .rename_i xs k
  split at e
  .rename_i hk
   rw[ub,ub]at hk
   cases e
   cases s2
   cases s1 with
   | @tup a ys _ h1 r1=>
     have l1:=r1.length
     have z:=uf hk.2
     have hk1:=uf hk.1.2
     have hne:ys≠[]:=λzz=>by
      subst zz
      cases r1
      exact absurd hk.1.1 (by decide)
     refine gR pins s σ H _ _ v u Q I rx ry ⟨a,ys,k,rfl,rfl,h1,hne,hk1,by rw[l1];exact z,λe1=>?_,λ_ p hp=>q _ _ (.tup mo hp (r1.rep _))⟩
     subst e1
     have:(um (1:Int).toNat xs).flatten=xs:=by simp
     rw[this]at q
     exact q _ _ (.same mo (.tup h1 r1))
  .cases e
 .rename_i k hn hn2
  cases e1:asL w1 with
  |none=>rw[e1]at e;cases e
  |some xs=>
   rw[e1]at e
   simp only[yI]at e
   split at e
   .rename_i hk
    rw[ub,ub]at hk
    cases e
    cases s2
    obtain⟨a,xs',rfl,h1,r1⟩:=s1.l e1
    have l1:=r1.length
    have z:=uf hk.2
    exact kD pins s σ H _ _ v u Q I rx ry ⟨a,k,xs',rfl,rfl,h1,uf hk.1.2,uf hk.1.1,by rw[l1];exact z,λp hp=>q _ _ (.lst mo hp (r1.rep _))⟩
   .cases e
 .cases e
noncomputable def Nm:Op1
 | .val (.int i)=>Fk (.val (.int (-i)))
 |_=>uK
theorem Gp:UnR X (unaryOp .USub) (rUn X.K Nm):=by
 intro pins s σ H x v Q I rx h
 obtain⟨M,w,r,e,mo,s1,q⟩:=h
 unfold Nm at e
 split at e
 .cases e
  cases s1
  exact cM pins s σ H _ v Q I rx ⟨_,rfl,q _ _ (.same mo (.int _))⟩
 .cases e
noncomputable def Kg:D->vL
 | .non=>true| .bl _=>true| .int _=>true| .str _=>true
 |_=>false
theorem Sh.flat{K:Wp}{M:Ms}{H:Hp}{v:V}{w:Wv}(h:Sh K M H v w)(f:Kg (fz w)=true):EI K M H v (fz w):=by
 cases w with
 |val d=>exact h
 |own ds=>cases f
noncomputable def inD(x:D)(xs:Gc D):vL:=xs.any λy=>deq y x
theorem VM{K:Wp}{M:Ms}{H:Hp}{v:V}{d:D}(h:EI K M H v d)(f:Kg d=true):Pg v=true:=by
 cases h<;>first|rfl|cases f
theorem fY{K:Wp}{M:Ms}{H:Hp}{v u:V}{d e:D}(h:EI K M H v d)(g:EI K M H u e)(f:Kg d=true)(f':Kg e=true):eqV v u=deq d e:=by
 cases h<;>first|(cases f;done)|skip
 all_goals (cases g<;>first|(cases f';done)|rfl)
theorem R5{K:Wp}{M:Ms}{H:Hp}:∀{vs:Gc V} {ds:Gc D},A5 K M H vs ds->ds.all Kg=true->vs.all Pg=true
 |_,_,.nil,_=>rfl
 |_,_,.cons h t,f=>by
  rw[xG,ub]at f⊢
  exact⟨VM h f.1,R5 t f.2⟩
theorem YV{K:Wp}{M:Ms}{H:Hp}{u:V}{e:D}(g:EI K M H u e)(f':Kg e=true):∀{vs:Gc V} {ds:Gc D},A5 K M H vs ds->ds.all Kg=true->inV u vs=inD e ds
 |_,_,.nil,_=>rfl
 |_,_,.cons h t,f=>by
  rw[xG,ub]at f
  have ih:=YV g f' t f.2
  unfold inV inD at ih⊢
  rw[xH,xH,ih,fY h g f.1 f']
noncomputable def wIn(neg:vL):Op2:=λa b=>(asS b).bind λds=>if(Kg (fz a) && ds.all Kg)=true then Fk (.val (.bl (if neg then !inD (fz a) ds else inD (fz a) ds)))else uK
theorem dN{M:Ms}{H:Hp}{x y:V}{w1 w2 r:Wv}{neg:vL}{Q:VK}(e:wIn neg w1 w2=Fk r)(mo:MOk M H)(s1:Sh X.K M H x w1)(s2:Sh X.K M H y w2)(q:∀v H',Nw X.K M H H' v r->Q v H'):rIn X.K neg x y H Q:=by
 unfold wIn at e
 cases e1:asS w2 with
 |none=>rw[e1]at e;cases e
 |some ds=>
  rw[e1]at e
  simp only[yI]at e
  split at e
  .rename_i hk
   rw[ub]at hk
   cases e
   obtain⟨a,xs,rfl,h3,h4⟩:=s2.s e1
   have g1:=s1.flat hk.1
   refine⟨a,xs,rfl,h3,VM g1 hk.1,R5 h4 hk.2,?_⟩
   rw[YV g1 hk.1 h4 hk.2]
   exact q _ _ (.same mo (.bl _))
  .cases e
theorem OU:OpR X (compareOp .In) (rOp X.K (wIn false)):=by
 intro pins s σ H x y v u Q I rx ry h
 obtain⟨M,w1,w2,r,e,mo,s1,s2,q⟩:=h
 exact YD pins s σ H _ _ v u Q I rx ry (dN e mo s1 s2 q)
theorem Sq:OpR X (compareOp .NotIn) (rOp X.K (wIn true)):=by
 intro pins s σ H x y v u Q I rx ry h
 obtain⟨M,w1,w2,r,e,mo,s1,s2,q⟩:=h
 exact Rg pins s σ H _ _ v u Q I rx ry (dN e mo s1 s2 q)
noncomputable def isN:Wv->vL
 | .val .non=>true
 |_=>false
noncomputable def ZM(neg:vL):Op2:=λa b=>match b with
 | .val .non=>Fk (.val (.bl (if neg then !isN a else isN a)))
 |_=>uK
theorem Xj{K:Wp}{M:Ms}{H:Hp}{x:V}{w:Wv}(s:Sh K M H x w):decide (x=.non)=isN w:=by
 cases w with
 |own ds=>obtain⟨a,xs,rfl,_⟩:=s;rfl
 |val d=>cases s<;>rfl
theorem Xk:OpR X (compareOp .Is) (rOp X.K (ZM false)):=by
 intro pins s σ H x y v u Q I rx ry h
 obtain⟨M,w1,w2,r,e,mo,s1,s2,q⟩:=h
 unfold ZM at e
 split at e
 .cases e
  cases s2
  refine ie pins s σ H _ _ v u Q I rx ry ⟨rfl,?_⟩
  rw[Xj s1]
  exact q _ _ (.same mo (.bl _))
 .cases e
theorem Zc:OpR X (compareOp .IsNot) (rOp X.K (ZM true)):=by
 intro pins s σ H x y v u Q I rx ry h
 obtain⟨M,w1,w2,r,e,mo,s1,s2,q⟩:=h
 unfold ZM at e
 split at e
 .cases e
  cases s2
  refine dy pins s σ H _ _ v u Q I rx ry ⟨rfl,?_⟩
  rw[Xj s1]
  exact q _ _ (.same mo (.bl _))
 .cases e
theorem Kk{K:Wp}{M:Ms}{H:Hp}{xs:Gc V}{ws:Gc Wv}{f:Op1}{r:Wv}(h:Shs K M H xs ws)(e:o1 f ws=Fk r):∃v w,xs=[v]/\ws=[w]/\Sh K M H v w/\f w=Fk r:=by
 cases h with
 |nil=>cases e
 |cons h1 t=>
  cases t with
  |cons h2 t=>cases e
  |nil=>exact⟨_,_,rfl,rfl,h1,e⟩
theorem UK{K:Wp}{M:Ms}{H:Hp}{xs:Gc V}{ws:Gc Wv}{f:Op2}{r:Wv}(h:Shs K M H xs ws)(e:o2 f ws=Fk r):∃v w v' w',xs=[v,v']/\ws=[w,w']/\Sh K M H v w/\Sh K M H v' w'/\f w w'=Fk r:=by
 cases h with
 |nil=>cases e
 |cons h1 t=>
  cases t with
  |nil=>cases e
  |cons h2 t=>
   cases t with
   |cons h3 t=>cases e
   |nil=>exact⟨_,_,_,_,rfl,rfl,h1,h2,e⟩
noncomputable def iC:Op1
 | .val (.int i)=>Fk (.val (.int (if i<0 then-i else i)))
 |_=>uK
theorem N0:Fd X (.builtin "abs") (rN X.K (o1 iC)):=by
 intro pins s σ H xs us Q I r h
 obtain⟨M,ws,w,e,mo,sh,q⟩:=h
 obtain⟨v,w1,rfl,rfl,s1,e1⟩:=Kk sh e
 unfold iC at e1
 split at e1
 .cases e1
  cases s1
  exact aO pins s σ H _ us Q I r ⟨_,rfl,q _ _ (.same mo (.int _))⟩
 .cases e1
noncomputable def mQ:Op2:=wI2 λi j=>Fk (.int (if j>i then j else i))
noncomputable def bV:Op2:=wI2 λi j=>Fk (.int (if j<i then j else i))
theorem Uj{f:Int->Int->uL D}{a b r:Wv}(e:wI2 f a b=Fk r):∃i j d,a=.val (.int i)/\b=.val (.int j)/\f i j=Fk d/\r=.val d:=by
 unfold wI2 at e
 split at e
 .rename_i i j
  cases e1:f i j with
  |none=>rw[e1]at e;cases e
  |some d=>rw[e1]at e;cases e;exact⟨i,j,d,rfl,rfl,e1,rfl⟩
 .cases e
theorem YN(hc:X.calm=true):Fd X (.builtin "max") (rN X.K (o2 mQ)):=by
 intro pins s σ H xs us Q I r h
 obtain⟨M,ws,w,e,mo,sh,q⟩:=h
 obtain⟨v,w1,v',w2,rfl,rfl,s1,s2,e1⟩:=UK sh e
 obtain⟨i,j,d,rfl,rfl,e2,rfl⟩:=Uj e1
 cases e2;cases s1;cases s2
 exact XX hc pins s σ H _ us Q I r ⟨_,_,rfl,q _ _ (.same mo (.int _))⟩
theorem Ow(hc:X.calm=true):Fd X (.builtin "min") (rN X.K (o2 bV)):=by
 intro pins s σ H xs us Q I r h
 obtain⟨M,ws,w,e,mo,sh,q⟩:=h
 obtain⟨v,w1,v',w2,rfl,rfl,s1,s2,e1⟩:=UK sh e
 obtain⟨i,j,d,rfl,rfl,e2,rfl⟩:=Uj e1
 cases e2;cases s1;cases s2
 exact Wb hc pins s σ H _ us Q I r ⟨_,_,rfl,q _ _ (.same mo (.int _))⟩
noncomputable def CS:Op1:=λw=>(asS w).map λds=>.val (.tup ds)
theorem BC:Fd X (.type "tuple") (rN X.K (o1 CS)):=by
 intro pins s σ H xs us Q I r h
 obtain⟨M,ws,w,e,mo,sh,q⟩:=h
 obtain⟨v,w1,rfl,rfl,s1,e1⟩:=Kk sh e
 unfold CS at e1
 cases e2:asS w1 with
 |none=>rw[e2]at e1;cases e1
 |some ds=>
  rw[e2]at e1
  cases e1
  obtain⟨a,ys,rfl,h3,h4⟩:=s1.s e2
  refine Q6 pins s σ H _ us Q I r ⟨a,ys,rfl,?_⟩
  rcases h3 with h3|h3
  .exact .inl ⟨h3,λl hl=>q _ _ (.tup mo hl h4)⟩
  .exact .inr ⟨h3,q _ _ (.same mo (.tup h3 h4))⟩
noncomputable def Lm:Op1:=λw=>(asS w).map λds=>.own ds
theorem Fg:Fd X (.type "list") (rN X.K (o1 Lm)):=by
 intro pins s σ H xs us Q I r h
 obtain⟨M,ws,w,e,mo,sh,q⟩:=h
 obtain⟨v,w1,rfl,rfl,s1,e1⟩:=Kk sh e
 unfold Lm at e1
 cases e2:asS w1 with
 |none=>rw[e2]at e1;cases e1
 |some ds=>
  rw[e2]at e1
  cases e1
  obtain⟨a,ys,rfl,h3,h4⟩:=s1.s e2
  exact R7 pins s σ H _ us Q I r ⟨a,ys,rfl,h3,λl hl=>q _ _ (.lst mo hl h4)⟩
noncomputable def Zz:Op1
 | .val (.int i)=>Fk (.val (.int i))
 | .val (.bl b)=>Fk (.val (.int (if b then 1 else 0)))
 |_=>uK
theorem L6:Fd X (.type "int") (rN X.K (o1 Zz)):=by
 intro pins s σ H xs us Q I r h
 obtain⟨M,ws,w,e,mo,sh,q⟩:=h
 obtain⟨v,w1,rfl,rfl,s1,e1⟩:=Kk sh e
 unfold Zz at e1
 split at e1
 .cases e1;cases s1
  exact SO pins s σ H _ us Q I r (.inl ⟨_,rfl,q _ _ (.same mo (.int _))⟩)
 .cases e1;cases s1
  exact SO pins s σ H _ us Q I r (.inr ⟨_,rfl,q _ _ (.same mo (.int _))⟩)
 .cases e1
noncomputable def kQ:Op1
 | .val (.int i)=>if i.natAbs.log2<1920 then Fk (.val (.str (toString i)))else uK
 |_=>uK
theorem YQ:Fd X (.type "str") (rN X.K (o1 kQ)):=by
 intro pins s σ H xs us Q I r h
 obtain⟨M,ws,w,e,mo,sh,q⟩:=h
 obtain⟨v,w1,rfl,rfl,s1,e1⟩:=Kk sh e
 unfold kQ at e1
 split at e1
 .split at e1
  .cases e1;cases s1
   exact SM pins s σ H _ us Q I r ⟨_,rfl,by assumption,q _ _ (.same mo (.str _))⟩
  .cases e1
 .cases e1
noncomputable def blD:D->uL vL
 | .bl b=>Fk b
 |_=>uK
noncomputable def bls(ds:Gc D):uL (Gc vL):=ds.mapM blD
theorem Xs{K:Wp}{M:Ms}{H:Hp}:∀{vs:Gc V} {ds:Gc D} {bs:Gc vL},A5 K M H vs ds->bls ds=Fk bs->vs=bs.map V.bl
 |_,_,bs,.nil,e=>by cases e;rfl
 |_,_,bs,.cons (d:=d) (ds:=ds) h t,e=>by
  unfold bls at e
  rw[zh]at e
  cases e1:blD d with
  |none=>rw[e1]at e;cases e
  |some b=>
   rw[e1]at e
   cases e2:ds.mapM blD with
   |none=>rw[e2]at e;cases e
   |some cs=>
    rw[e2]at e
    cases e
    have hd:d=.bl b:=by
     cases d<;>first|(cases e1;done)|skip
     cases e1;rfl
    subst hd
    cases h
    rw[uv,<-Xs t e2]
noncomputable def ja:Op1:=λw=>(asL w).bind λds=>(bls ds).map λbs=>.val (.bl (bs.all id))
theorem SI(hc:X.calm=true):Fd X (.builtin "all") (rN X.K (o1 ja)):=by
 intro pins s σ H xs us Q I r h
 obtain⟨M,ws,w,e,mo,sh,q⟩:=h
 obtain⟨v,w1,rfl,rfl,s1,e1⟩:=Kk sh e
 unfold ja at e1
 cases e2:asL w1 with
 |none=>rw[e2]at e1;cases e1
 |some ds=>
  rw[e2]at e1
  simp only[yI]at e1
  cases e3:bls ds with
  |none=>rw[e3]at e1;cases e1
  |some bs=>
   rw[e3]at e1
   cases e1
   obtain⟨a,ys,rfl,h3,h4⟩:=s1.l e2
   exact St.WI hc pins s σ H _ us Q I r ⟨a,bs,rfl,by rw[<-Xs h4 e3];exact .of h3,q _ _ (.same mo (.bl _))⟩
noncomputable def kdW:Wv->uL St.Kd
 | .own _=>Fk .lst
 | .val .non=>Fk .non| .val (.bl _)=>Fk .bl| .val (.int _)=>Fk .int| .val (.str _)=>Fk .str| .val (.lst _)=>Fk .lst| .val (.dct _)=>Fk .dct| .val (.tup _)=>Fk .tup
 | .val (.ty _)=>uK| .val (.scr _)=>uK| .val (.ref _)=>uK
end
section
variable{X:Cx}
theorem Ze{K:Wp}(k:St.Kd):xJ K (.type k.ty) (.type "list")=Fk (k.isA "list"):=by
 cases k<;>rfl
noncomputable def RG(T:xI):vL:=T== "int" ||T== "bool" ||T== "tuple" ||T== "str" ||T== "list"
theorem kq{K:Wp}{T:xI}(h:RG T=true)(k:St.Kd):xJ K (.type k.ty) (.type T)=Fk (k.isA T):=by
 unfold RG at h
 simp only[vo,ABY]at h
 rcases h with(((rfl|rfl)|rfl)|rfl)|rfl
 .exact St.eH k
 .exact St.aQ k
 .exact St.kit_tuple k
 .exact St.gm k
 .exact Ze k
noncomputable def K4:Op2:=λa t=>match t with
 | .val (.ty T)=>if RG T=true then(kdW a).map λk=>.val (.bl (k.isA T))else uK
 |_=>uK
theorem B0:Fd X (.builtin "isinstance") (rN X.K (o2 K4)):=by
 intro pins s σ H xs us Q I r h
 obtain⟨M,ws,w,e,mo,sh,q⟩:=h
 obtain⟨v,w1,v',w2,rfl,rfl,s1,s2,e1⟩:=UK sh e
 unfold K4 at e1
 split at e1
 .rename_i T
  split at e1
  .rename_i hT
   cases e2:kdW w1 with
   |none=>rw[e2]at e1;cases e1
   |some k=>
    rw[e2]at e1
    cases e1
    cases s2
    obtain⟨u1,u2,rfl,r1,r2⟩:=r.two
    cases (show u2=AAN T from r2)
    have fin:∀tk,EP X pins σ Q (.bool (k.isA T)) {s with toks:=tk}:=λtk=>⟨.bl _,H,I.tok tk,rfl,q _ _ (.same mo (.bl _))⟩
    have kk:=kq (K:=X.K) hT k
    cases w1 with
    |own ds=>
     cases e2
     obtain⟨a,ys,rfl,h1,_⟩:=s1
     exact HL I r1 (.lst h1) kk fin
    |val d=>
     have s1':EI X.K M H v d:=s1
     cases s1' with
     |non=>cases e2;exact HL I r1 .non kk fin
     |bl b=>cases e2;exact HL I r1 (.bl b) kk fin
     |int b=>cases e2;exact HL I r1 (.int b) kk fin
     |str b=>cases e2;exact HL I r1 (.str b) kk fin
     |ty b=>cases e2
     |scr h=>cases e2
     |lst h n rr=>cases e2;exact HL I r1 (.lst h) kk fin
     |dct h n rr=>cases e2;exact HL I r1 (.dK h) kk fin
     |ref h=>cases e2
     |tup h rr=>
      cases e2
      rename_i a ys ds
      cases (show u1=vi a from r1)
      obtain⟨its,_,⟨o,h1,h2,_⟩,_⟩:=I.tuple h
      exact vy ABU I.kIn ⟨o,h1,h2⟩ kk (λz=>nomatch z) fin
  .cases e1
 .cases e1
noncomputable def Cm(fs:Gc Ev):Ev:=λE S=>(evs fs E S).bind λr=>if r.1.length<=sizeLine then Fk (.tup r.1,r.2)else uK
noncomputable def bE(c:vL)(fs:Gc Ev):Ev:=λE S=>(evs fs E S).bind λr=>if r.1.length<=sizeLine then fin c (.own r.1) r.2 else uK
abbrev Fe:=bE false
abbrev Kz:=bE true
theorem A6{es:Gc uu}{fs:Gc Ev}{k:Nat}{pos:Pos}(h:DEs X es fs):DE X (.Tuple es k pos) (Cm fs):=⟨CI (kr h.pe) λσ H Q z=>by
 obtain⟨M,E,S,d,S',e,r,st,q⟩:=z
 obtain⟨⟨ds,S1⟩,e1,e⟩:=BP e
 dsimp only at e
 split at e
 .cases e
  refine Jd e1 r st λvs H1 M1 g1 st1 d1=>⟨by rw[d1.length];assumption,λp hp=>?_⟩
  have n:=Nw.tup st1.mo hp d1
  exact q _ _ M1 (g1.trans (.grow st1.mo n.grow)) (st1.grow n.grow) n.rel
 .cases e⟩
theorem BK{c:vL}{es:Gc uu}{fs:Gc Ev}{pos:Pos}(h:DEs X es fs):DE X (.List es pos) (bE c fs):=⟨CI (ku h.pe) λσ H Q z=>by
 obtain⟨M,E,S,d,S',e,r,st,q⟩:=z
 obtain⟨⟨ds,S1⟩,e1,e⟩:=BP e
 dsimp only at e
 split at e
 .refine Jd e1 r st λvs H1 M1 g1 st1 d1=>⟨by rw[d1.length];assumption,λp hp=>?_⟩
  obtain⟨M2,g2,st2,d2⟩:=(Nw.lst st1.mo hp d1).fin st1 e
  exact q _ _ M2 (g1.trans g2) st2 d2
 .cases e⟩
noncomputable def Hu(f g:Ev):Ev:=λE S=>(f E S).bind λr=>match r.1 with
 | .bl true=>g E r.2
 | .bl false=>Fk (.bl false,r.2)
 |_=>uK
noncomputable def eOr(f g:Ev):Ev:=λE S=>(f E S).bind λr=>match r.1 with
 | .bl false=>g E r.2
 | .bl true=>Fk (.bl true,r.2)
 |_=>uK
noncomputable def UC(f:Ev):Ev:=λE S=>(f E S).bind λr=>match r.1 with
 | .bl b=>Fk (.bl (!b),r.2)
 |_=>uK
noncomputable def eIf(c f g:Ev):Ev:=λE S=>(c E S).bind λr=>match r.1 with
 | .bl true=>f E r.2
 | .bl false=>g E r.2
 |_=>uK
theorem VH{K:Wp}{M:Ms}{H:Hp}{v:V}{b:vL}(h:EI K M H v (.bl b)):v=.bl b:=by cases h;rfl
variable{a b c:uu}{rest:Gc uu}{f g h:Ev}{pos:Pos}
theorem He{op:BoolOp}(h:DE X a f):DE X (.BoolOp op [a] pos) f:=⟨km h.pe⟩
theorem GN(ha:DE X a f)(hb:DE X (.BoolOp .And (b::rest) pos) g):DE X (.BoolOp .And (a::b::rest) pos) (Hu f g):=⟨CI (kX ha.pe hb.pe) λσ H Q z=>by
 obtain⟨M,E,S,d,S',e,r,st,q⟩:=z
 obtain⟨⟨d1,S1⟩,e1,e⟩:=BP e
 dsimp only at e
 refine⟨M,E,S,d1,S1,e1,r,st,λv H1 M1 g1 st1 r1=>?_⟩
 split at e
 .cases VH r1
  refine⟨_,rfl,?_⟩
  refine fO ?_
  exact⟨M1,E,S1,d,S',e,r.step g1.st,st1,λv H2 M2 g2 st2 r2=>q _ _ M2 (g1.trans g2) st2 r2⟩
 .cases e
  cases VH r1
  refine⟨_,rfl,?_⟩
  refine hU ?_
  exact q _ _ M1 g1 st1 r1
 .cases e⟩
theorem cZ(ha:DE X a f):DE X (.UnaryOp .Not a pos) (UC f):=⟨CI (ij ha.pe) λσ H Q z=>by
 obtain⟨M,E,S,d,S',e,r,st,q⟩:=z
 obtain⟨⟨d1,S1⟩,e1,e⟩:=BP e
 dsimp only at e
 split at e
 .cases e
  refine⟨M,E,S,_,_,e1,r,st,λv H1 M1 g1 st1 r1=>?_⟩
  cases VH r1
  exact⟨_,rfl,q _ _ M1 g1 st1 (.bl _)⟩
 .cases e⟩
noncomputable def tDT(K:Wp)(f:Ev):TT:=λσ H Q=>∃M E S b S',f E S=Fk (.bl b,S')/\EnR K M E σ H/\StR K M S H/\∀H' M',Gr M H M' H'->StR K M' S' H'->Q b H'
structure DT(X:Cx)(e:uu)(f:Ev):Prop where
 pe:PT X e (tDT X.K f)
structure DW(X:Cx)(e:uu)(f:Ev):Prop where
 pe:PW X e (tDT X.K f)
theorem DW.dt(h:DW X a f):DT X a f:=⟨PW.pt h.pe⟩
theorem fU{t:TE}(h:PT X a (iQ t))(m:∀σ H Q,tD X.K f σ H Q->t σ H Q):DT X a f:=⟨YA h λσ H Q z=>by
 obtain⟨M,E,S,b,S',e,r,st,q⟩:=z
 refine m _ _ _ ⟨M,E,S,_,S',e,r,st,λv H1 M1 g1 st1 r1=>?_⟩
 cases VH r1
 exact⟨_,rfl,q _ M1 g1 st1⟩⟩
theorem JC(h:DE X a f)(he:∀whole,isTrue a X.env whole=(do let v<-whole;standAt a.pos;holding [v] (truthy v)):=by intro _;rfl):DT X a f:=fU (t:=tD X.K f) (kA h.pe he) λ_ _ _ z=>z
theorem Av{fa fb:Ev}{op:CmpOp}{f:Op2}(ho:OpR X (compareOp op) (rOp X.K f))(ha:DE X a fa)(hb:DE X b fb)(hm:behindInMarks op b=false:=by rfl):DT X (.Compare a [op] [b] pos) (eOp (o2 f) [fa,fb]):=
 fU (gu ho ha.pe hb.pe hm) λ_ _ _ h=>Ut h
theorem Rq(ha:DT X a f):DT X (.UnaryOp .Not a pos) (UC f):=⟨YA (jJ ha.pe) λσ H Q z=>by
 obtain⟨M,E,S,b,S',e,r,st,q⟩:=z
 obtain⟨⟨w1,S1⟩,e1,e⟩:=BP e
 dsimp only at e
 split at e
 .cases e
  exact⟨M,E,S,_,_,e1,r,st,q⟩
 .cases e⟩
theorem IX(ha:DT X a f):DW X (.BoolOp .And [a] pos) f:=⟨gX ha.pe⟩
theorem Ub(ha:DT X a f):DW X (.BoolOp .Or [a] pos) f:=⟨jr ha.pe⟩
theorem W3{e:uu}{t t':TT}(h:PW X e t)(m:∀σ H Q,t' σ H Q->t σ H Q):PW X e t':=λwh pins s σ H Q I q=>h wh pins s σ H Q I (m _ _ _ q)
theorem KA(ha:DT X a f)(hb:DW X (.BoolOp .And (b::rest) pos) g):DW X (.BoolOp .And (a::b::rest) pos) (Hu f g):=⟨W3 (iO ha.pe hb.pe) λσ H Q z=>by
 obtain⟨M,E,S,k,S',e,r,st,q⟩:=z
 obtain⟨⟨w1,S1⟩,e1,e⟩:=BP e
 dsimp only at e
 split at e
 .refine⟨M,E,S,_,S1,e1,r,st,λH1 M1 g1 st1=>?_⟩
  refine fO ?_
  exact⟨M1,E,S1,k,S',e,r.step g1.st,st1,λH2 M2 g2 st2=>q _ M2 (g1.trans g2) st2⟩
 .cases e
  refine⟨M,E,S,_,_,e1,r,st,λH1 M1 g1 st1=>?_⟩
  refine hU ?_
  exact q _ M1 g1 st1
 .cases e⟩
theorem ZK(ha:DT X a f)(hb:DW X (.BoolOp .Or (b::rest) pos) g):DW X (.BoolOp .Or (a::b::rest) pos) (eOr f g):=⟨W3 (pN ha.pe hb.pe) λσ H Q z=>by
 obtain⟨M,E,S,k,S',e,r,st,q⟩:=z
 obtain⟨⟨w1,S1⟩,e1,e⟩:=BP e
 dsimp only at e
 split at e
 .refine⟨M,E,S,_,S1,e1,r,st,λH1 M1 g1 st1=>?_⟩
  refine hU ?_
  exact⟨M1,E,S1,k,S',e,r.step g1.st,st1,λH2 M2 g2 st2=>q _ M2 (g1.trans g2) st2⟩
 .cases e
  refine⟨M,E,S,_,_,e1,r,st,λH1 M1 g1 st1=>?_⟩
  refine fO ?_
  exact q _ M1 g1 st1
 .cases e⟩
theorem pD(hc:DT X c f)(ha:DE X a g)(hb:DE X b h):DE X (.IfExp c a b pos) (eIf f g h):=⟨CI (Z6 hc.pe ha.pe hb.pe) λσ H Q z=>by
 obtain⟨M,E,S,d,S',e,r,st,q⟩:=z
 obtain⟨⟨w1,S1⟩,e1,e⟩:=BP e
 dsimp only at e
 split at e
 .refine⟨M,E,S,_,S1,e1,r,st,λH1 M1 g1 st1=>?_⟩
  refine fO ?_
  exact⟨M1,E,S1,d,S',e,r.step g1.st,st1,λv H2 M2 g2 st2 r2=>q _ _ M2 (g1.trans g2) st2 r2⟩
 .refine⟨M,E,S,_,S1,e1,r,st,λH1 M1 g1 st1=>?_⟩
  refine hU ?_
  exact⟨M1,E,S1,d,S',e,r.step g1.st,st1,λv H2 M2 g2 st2 r2=>q _ _ M2 (g1.trans g2) st2 r2⟩
 .cases e⟩
end
inductive Fl where
 |nx
 |ret (d:D)
abbrev Ex:=En->Sto->uL (Fl×En×Sto)
def End(K:Wp)(M:Ms)(H:Hp)(Dn:Ends)(E':En)(S':Sto):Fl->Prop
 | .nx=>∀σ' H' M',Gr M H M' H'->EnR K M' E' σ' H'->StR K M' S' H'->Dn.nx σ' H'
 | .ret d=>∀v H' M',Gr M H M' H'->StR K M' S' H'->EI K M' H' v d->Dn.rt v H'
noncomputable def tX(K:Wp)(f:Ex):TS:=λDn σ H=>∃M E S fl E' S',f E S=Fk (fl,E',S')/\EnR K M E σ H/\StR K M S H/\End K M H Dn E' S' fl
structure DS(X:Cx)(st:vJ)(f:Ex):Prop where
 pe:PS X st (tX X.K f)
structure DSs(X:Cx)(st:Gc vJ)(f:Ex):Prop where
 pe:PSs X st (tX X.K f)
theorem IV{X:Cx}{e:vJ}{t t':TS}(h:PS X e t)(m:∀Dn σ H,t' Dn σ H->t Dn σ H):PS X e t':=λpins s σ H Dn I q=>h pins s σ H Dn I (m _ _ _ q)
theorem VI{X:Cx}{e:Gc vJ}{t t':TS}(h:PSs X e t)(m:∀Dn σ H,t' Dn σ H->t Dn σ H):PSs X e t':=λpins s σ H Dn I q=>h pins s σ H Dn I (m _ _ _ q)
theorem End.later{K:Wp}{M M1:Ms}{H H1:Hp}{Dn:Ends}{E':En}{S':Sto}{fl:Fl}(q:End K M H Dn E' S' fl)(g:Gr M H M1 H1):End K M1 H1 Dn E' S' fl:=by
 cases fl with
 |nx=>exact λσ' H' M' g' r st=>q σ' H' M' (g.trans g') r st
 |ret d=>exact λv H' M' g' st r=>q v H' M' (g.trans g') st r
noncomputable def Aa(f g:Ex):Ex:=λE S=>(f E S).bind λr=>match r.1 with
 | .nx=>g r.2.1 r.2.2
 | .ret w=>Fk (.ret w,r.2)
noncomputable def D5:Ex:=λE S=>Fk (.nx,E,S)
section
variable{X:Cx}{st:vJ}{rest a b:Gc vJ}{f g h:Ex}{c e:uu}{k:Ev}{pos:Pos}
theorem Az:DSs X [] D5:=⟨VI fV λDn σ H z=>by
 obtain⟨M,E,S,fl,E',S',e,r,st,q⟩:=z
 cases e
 exact q _ _ M (.refl st.mo) r st⟩
theorem AG(h1:DS X st f)(h2:DSs X rest g):DSs X (st::rest) (Aa f g):=⟨VI (VU h1.pe h2.pe) λDn σ H z=>by
 obtain⟨M,E,S,fl,E',S',e,r,st,q⟩:=z
 obtain⟨⟨f1,E1,S1⟩,e1,e⟩:=BP e
 dsimp only at e
 split at e
 .exact⟨M,E,S,.nx,E1,S1,e1,r,st,λσ1 H1 M1 g1 r1 st1=>⟨M1,E1,S1,fl,E',S',e,r1,st1,q.later g1⟩⟩
 .cases e
  exact⟨M,E,S,.ret _,_,_,e1,r,st,q⟩⟩
theorem AK(h1:DS X st f):DSs X [st] f:=⟨T4 h1.pe⟩
noncomputable def xIf(c:Ev)(f g:Ex):Ex:=λE S=>(c E S).bind λr=>match r.1 with
 | .bl true=>f E r.2
 | .bl false=>g E r.2
 |_=>uK
theorem CJ(hc:DT X c k)(ha:DSs X a f)(hb:DSs X b g):DS X (.If c a b pos) (xIf k f g):=⟨IV (p9 hc.pe ha.pe hb.pe) λDn σ H z=>by
 obtain⟨M,E,S,fl,E',S',e,r,st,q⟩:=z
 obtain⟨⟨w1,S1⟩,e1,e⟩:=BP e
 dsimp only at e
 split at e
 .refine⟨M,E,S,_,S1,e1,r,st,λH1 M1 g1 st1=>?_⟩
  refine fO ?_
  exact⟨M1,E,S1,fl,E',S',e,r.step g1.st,st1,q.later g1⟩
 .refine⟨M,E,S,_,S1,e1,r,st,λH1 M1 g1 st1=>?_⟩
  refine hU ?_
  exact⟨M1,E,S1,fl,E',S',e,r.step g1.st,st1,q.later g1⟩
 .cases e⟩
noncomputable def BJ(k:Ev):Ex:=λE S=>(k E S).map λr=>(.ret r.1,E,r.2)
theorem AR(h:DE X e k):DS X (.Return (Fk e) pos) (BJ k):=⟨IV (iY h.pe) λDn σ H z=>by
 obtain⟨M,E,S,fl,E',S',e,r,st,q⟩:=z
 obtain⟨⟨d,S1⟩,e1,e⟩:=Mf e
 cases e
 exact⟨M,E,S,d,S1,e1,r,st,λv H1 M1 g1 st1 r1=>q _ _ M1 g1 st1 r1⟩⟩
end
section
variable{K:Wp}{M:Ms}{E:En}{σ:Sg}{H:Hp}{i:Nat}{d:D}{v:V}
theorem EnR.put(r:EnR K M E σ H)(rd:EI K M H v d):EnR K M (E.set i (Fk d)) (σ.set i (Fk v)) H:=by
 refine⟨by rw[xE,xE];exact r.len,λj e ej=>?_⟩
 by_cases h:i=j
 .subst h
  by_cases hi:i<E.length
  .rw[ua hi]at ej
   cases ej
   exact⟨v,ua (by rw[<-r.len];exact hi),rd⟩
  .rw[xQ.mpr (by rw[xE];lia)]at ej;cases ej
 .rw[uS h]at ej
  obtain⟨v',h1,h2⟩:=r.val j e ej
  exact⟨v',by rw[uS h];exact h1,h2⟩
end
noncomputable def BQ(i:Nat)(k:Ev):Ex:=λE S=>(k E S).map λr=>(.nx,E.set i (Fk r.1),r.2)
theorem Ai{X:Cx}{e:uu}{k:Ev}{pos pos':Pos}(i:Nat){x:Str}(h:DE X e k)(hN:X.N.Nodup)(hi:X.N[i]?=Fk x:=by rfl)(hx:Loc X.env.scope x:=by first|exact Or.inl rfl|exact Or.inr rfl)(hs:swapsWith e (Fk (.Name x pos')) pos.line X.env=pure false:=by rfl)(hf:X.fn x=true\/X.env.scope.names.lookup x=Fk .local:=by first|exact .inl rfl|exact .inr rfl):DS X (.Assign [.Name x pos'] e pos) (BQ i k):=⟨
 IV (lA hN hi hx h.pe hs hf) λDn σ H z=>by
  obtain⟨M,E,S,fl,E',S',e,r,st,q⟩:=z
  obtain⟨⟨d,S1⟩,e1,e⟩:=Mf e
  cases e
  exact⟨M,E,S,d,S1,e1,r,st,λv H1 M1 g1 st1 r1=>q _ _ M1 g1 ((r.step g1.st).put r1) st1⟩⟩
noncomputable def Bl(k:Ev):Ex:=λE S=>(k E S).map λr=>(.nx,E,r.2)
theorem BW{X:Cx}{e:uu}{k:Ev}{pos:Pos}(h:DE X e k)(hs:swapsWith e uK pos.line X.env=pure false:=by rfl):DS X (.Expr e pos) (Bl k):=⟨IV (Xr h.pe hs) λDn σ H z=>by
 obtain⟨M,E,S,fl,E',S',e,r,st,q⟩:=z
 obtain⟨⟨d,S1⟩,e1,e⟩:=Mf e
 cases e
 exact⟨M,E,S,d,S1,e1,r,st,λv H1 M1 g1 st1 r1=>q _ _ M1 g1 (r.step g1.st) st1⟩⟩
noncomputable def Gb(S:Sto)(n:Nat):uL (Gc D):=match S[n]? with
 |some (.lst ds)=>Fk ds
 |_=>uK
theorem HF{S:Sto}{n:Nat}{ds:Gc D}(h:Gb S n=Fk ds):S[n]?=Fk (.lst ds):=by
 unfold Gb at h
 split at h
 .rename_i e
  cases h
  exact e
 .cases h
abbrev Mo:=Sto->Gc D->Gc D->uL (D×Gc D)
noncomputable def Lc(op:Mo)(f:Ev)(fs:Gc Ev):Ev:=λE S=>(f E S).bind λr=>match r.1 with
 | .ref n=>(Gb r.2 n).bind λ_=>(evs fs E r.2).bind λp=>(Gb p.2 n).bind λds=>(op p.2 ds p.1).map λq=>(q.1,p.2.set n (.lst q.2))
 |_=>uK
def lM(K:Wp)(op:Mo):V->Gc V->Hp->VK->Prop:=λx vs H Q=>∃M S n a ds args d ds',x=.ref a/\M.cel[n]?=Fk a/\S[n]?=Fk (.lst ds)/\op S ds args=Fk (d,ds')/\StR K M S H/\A5 K M H vs args/\∀v H',StR K M (S.set n (.lst ds')) H'->Gr M H M H'->EI K M H' v d->Q v H'
section
variable{X:Cx}
theorem j7{op:Mo}{f:Ev}{fs:Gc Ev}{σ:Sg}{H:Hp}{Q:VK}(h:tD X.K (Lc op f fs) σ H Q):tBM X.K "list" (lM X.K op) (tD X.K f) (tDs X.K fs) σ H Q:=by
 obtain⟨M,E,S,d,S',e,r,st,q⟩:=h
 obtain⟨⟨d1,S1⟩,e1,e⟩:=BP e
 dsimp only at e
 split at e
 .rename_i n
  obtain⟨ds0,e2,e⟩:=BP e
  obtain⟨⟨args,S2⟩,e3,e⟩:=BP e
  obtain⟨ds,e4,e⟩:=BP e
  obtain⟨⟨dd,ds'⟩,e5,e⟩:=Mf e
  cases e
  refine⟨M,E,S,_,S1,e1,r,st,λv H1 M1 g1 st1 r1=>?_⟩
  cases r1 with
  |ref hc=>
   rename_i a
   obtain⟨xs,h1,h2⟩:=st1.cell n a _ hc (HF e2)
   refine⟨.inl ⟨rfl,xs,.of h1⟩,?_⟩
   refine Jd e3 (r.step g1.st) st1 λvs H2 M2 g2 st2 r2=>?_
   exact⟨M2,S2,n,a,ds,args,dd,ds',rfl,Qz g2.pre hc,HF e4,e5,st2,r2,λv H3 st3 g3 r3=>q _ _ M2 ((g1.trans g2).trans g3) st3 r3⟩
 .cases e
theorem IP{id:xI}{name:Str}{o e:uu}{es:Gc uu}{op:Mo}{f:Ev}{fs:Gc Ev}{apos cpos:Pos}(slot:Slot "list" name id)(hty:typeOf (.builtin id)=pure (.type "method_descriptor"))(hm:MtR X id (lM X.K op))(ho:DE X o f)(ha:DEs X (e::es) fs)(hbase:attributeBase o name X.env (eval o X.env)=eval o X.env:=by rfl)(hfew:((backTo cpos (uo (e::es) X.env)).all (λx=> !x.1) && (backToKw cpos (keywordEach [] X.env)).all (λx=>x.1.isSome) && decide ((e::es).length+([]:Gc zt).length+(if([]:Gc zt).isEmpty then 0 else 1)<30))=true:=by rfl)(hline:(apos.endLine==cpos.line)=true:=by rfl)(hs:uo (e::es) X.env=(false,eval e X.env)::uo es X.env:=by rfl)(hplain:(backTo cpos (uo es X.env)).any (·.1)=false:=by rfl):DE X (.Call (.Attribute o name apos) (e::es) [] cpos) (Lc op f fs):=⟨CI (nT PySem.F.plainAttrs_list slot hty hm ho.pe ha.pe hbase hfew hline hs hplain) λσ H Q z=>j7 z⟩
noncomputable def Le:Mo
 |_,ds,[x]=>if ds.length<sizeLine then Fk (.non,ds++[x])else uK
 |_,_,_=>uK
theorem U9{K:Wp}{M:Ms}{H:Hp}{vs:Gc V}{d:D}(h:A5 K M H vs [d]):∃v,vs=[v]/\EI K M H v d:=by
 cases h with
 |cons h t=>cases t;exact⟨_,rfl,h⟩
theorem F1:MtR X "list.append" (lM X.K Le):=by
 intro pins s σ H x vs v us Q I rx rv h
 obtain⟨M,S,n,a,ds,args,d,ds',rfl,hc,hn,e,st,ra,q⟩:=h
 unfold Le at e
 split at e
 .split at e
  .rename_i hz
   cases e
   obtain⟨xs,h1,h2⟩:=st.cell n a _ hc hn
   obtain⟨y,rfl,ry⟩:=U9 ra
   obtain⟨st2,g2⟩:=st.chg hc hn (h2.append (.cons ry .nil))
   exact R4 pins s σ H _ _ v us Q I rx rv ⟨a,xs,y,rfl,rfl,h1,by rw[h2.length];exact hz,q _ _ st2 g2 .non⟩
  .cases e
 .cases e
end
noncomputable def P1(k f o:Ev):Ex:=λE S=>(k E S).bind λr=>(f E r.2).bind λb=>(o E b.2).bind λi=>match b.1,i.1 with
 | .ref n,.int j=>(Gb i.2 n).bind λds=>(ixN ds.length j).map λm=>(.nx,E,i.2.set n (.lst (ds.set m r.1)))
 |_,_=>uK
theorem Ct {X : Cx} {e t bs : uu} {k f o : Ev} {ps pos : Pos} (h : DE X e k) (hb : DE X bs f) (ht : DE X t o) (ha : ∀ v, assign (.Subscript bs t ps) X.env v = (do
      let ov ← holding [v] (eval bs X.env)
      let iv ← holding [v, ov] (eval t X.env)
      standAt ps
      holding [v, ov, iv] (setItem ov iv v)
      release [v, ov, iv] []) := by intro _; rfl)
    (hs : swapsWithSole [.Subscript bs t ps] e pos.line X.env = pure false := by rfl) (hw : swappedStores [.Subscript bs t ps] e X.env = pure none := by rfl)
    (h1 : (assignEach [.Subscript bs t ps] X.env).map (·.2) = [assign (.Subscript bs t ps) X.env] := by rfl) :
    DS X (.Assign [.Subscript bs t ps] e pos) (P1 k f o) := ⟨
  IV (cj h.pe (jg hb.pe ht.pe set_list ha) hs hw h1) fun Dn σ H z => by
    obtain ⟨M, E, S, fl, E', S', e, r, st, q⟩ := z
    obtain ⟨⟨d, S1⟩, e1, e⟩ := BP e
    obtain ⟨⟨b, S2⟩, e2, e⟩ := BP e
    obtain ⟨⟨i, S3⟩, e3, e⟩ := BP e
    dsimp only at e e1 e2 e3
    split at e
    · rename_i n j _
      obtain ⟨ds, e4, e⟩ := BP e
      obtain ⟨m, e5, e⟩ := Mf e
      cases e
      refine ⟨M, E, S, d, S1, e1, r, st, fun v H1 M1 g1 st1 r1 => ?_⟩
      refine ⟨M1, E, S1, _, S2, e2, r.step g1.st, st1, fun bv H2 M2 g2 st2 r2 => ?_⟩
      refine ⟨M2, E, S2, _, S3, e3, (r.step g1.st).step g2.st, st2, fun iv H3 M3 g3 st3 r3 => ?_⟩
      cases r3
      cases r2 with
      | ref hc =>
        rename_i a
        have hc3 := Qz g3.pre hc
        obtain ⟨xs, h1, h2⟩ := st3.cell n a _ hc3 (HF e4)
        obtain ⟨st4, g4⟩ := st3.chg hc3 (HF e4) (h2.set ((r1.step g2.st).step g3.st) m)
        have g := ((g1.trans g2).trans g3).trans g4
        exact ⟨a, xs, j, m, rfl, rfl, h1, by rw [h2.length]; exact e5, q _ _ M3 g (r.step g.st) st4⟩
    · cases e⟩
abbrev Fn:=Gc D->Sto->uL (D×Sto)
noncomputable def flD:Fl->D
 | .nx=>.non
 | .ret d=>d
noncomputable def A1(N:Nat)(body:Ex):Fn:=λds S=>(body (ds.map Fk++um (N-ds.length) uK) S).map λr=>(flD r.1,r.2.2)
def Ar{α:Type}(a:α):α:=Classical.choose (⟨a,rfl⟩:∃x,x=a)
theorem Jt{α:Type}(a:α):Ar a=a:=Classical.choose_spec (⟨a,rfl⟩:∃x,x=a)
noncomputable def spD(K:Wp)(np:Nat)(f:Fn):Sp:=λvs H Q _=>∃M ds S d S',ds.length=np/\f ds S=Fk (d,S')/\A5 K M H vs ds/\StR K M S H/\∀v H' M',Gr M H M' H'->StR K M' S' H'->EI K M' H' v d->Q v H'
theorem Rz{α:Type}{xs:Gc α}{i:Nat}{x:α}(h:(xs.map Fk)[i]?=Fk (Fk x)):xs[i]?=Fk x:=by
 rw[uY]at h
 cases e:xs[i]? with
 |none=>rw[e]at h;cases h
 |some y=>rw[e]at h;cases h;rfl
theorem Xy{α:Type}{xs:Gc (uL α)}{k i:Nat}{x:α}(h:(xs++um k uK)[i]?=Fk (Fk x)):xs[i]?=Fk (Fk x):=by
 by_cases hi:i<xs.length
 .rw[uP hi]at h;exact h
 .rw[vQ (by lia),AAC]at h
  split at h<;>cases h
theorem gf{α:Type}{xs:Gc (uL α)}{k i:Nat}{x:uL α}(h:xs[i]?=Fk x):(xs++um k uK)[i]?=Fk x:=by
 rw[uP (uU.mp h).1];exact h
theorem EnR.args{K:Wp}{M:Ms}{H:Hp}{vs:Gc V}{ds:Gc D}(r:A5 K M H vs ds)(k:Nat):EnR K M (ds.map Fk++um k uK) (vs.map Fk++um k uK) H:=by
 refine⟨by simp[r.length],λi d e=>?_⟩
 obtain⟨v,h1,h2⟩:=r.get (Rz (Xy e))
 exact⟨v,gf (by rw[uY,h1];rfl),h2⟩
section
variable{P:ur}{w:vO}{K:Wp}{mg:Str->uL W1}{base:vF}
theorem iW{x:Str}{st:vJ}{f:uN}{fd:wY}{N ps:Gc Str}{k np:Nat}{b:Ex}(Fu:Fun K x x st f fd)(S:AQ N ps (AH st))(hp:ps.length=np)(hb:∀(cdv:W1) (A:vN) (outer:Gc wN) (s:uM) (H:Hp) (E:XK),IB k (A.deeper (ve x (AH st) s.heap.objs.size f cdv))->DSs (M9 CX0 P w K mg base N x (AH st) f cdv A outer s H E).nox (DJ st) b):VN P w K mg base CX0 (k+1) f fd ps (spD K np (Ar (A1 N.length b))):=by
 rw[Jt]
 refine Fu.ok S (λvs H Q E h=>?_) (λcdv A outer s H vs Q E hr h=>?_)
 .obtain⟨M,ds,S0,d,S',hl,_,r,_⟩:=h
  have:=r.length
  lia
 .obtain⟨M,ds,S0,d,S',hl,e,r,st,q⟩:=h
  have hlen:=r.length
  refine⟨_,(hb cdv A outer s H E hr).pe,?_⟩
  obtain⟨⟨fl,E',S1⟩,e1,e⟩:=Mf e
  cases e
  refine⟨M,_,S0,fl,E',S1,e1,?_,st,?_⟩
  .rw[show L2.start N vs=vs.map Fk++um (N.length-ds.length) uK from by unfold L2.start;rw[hlen]]
   exact .args r _
  .cases fl with
   |nx=>exact λσ' H' M' g _ st'=>q _ _ M' g st' .non
   |ret d=>exact λv H' M' g st' r'=>q _ _ M' g st' r'
theorem iN{x:Str}{st:vJ}{N ps:Gc Str}{k np:Nat}{b:Ex}(S:St.Src K mg x st)(sc:AQ N ps (AH st))(hp:ps.length=np)(hbi:∀f fd,Fun K x x st f fd->Binds K fd ps [])(hb:∀(f:uN) (cdv:W1) (A:vN) (outer:Gc wN) (s:uM) (H:Hp) (E:XK),IB k (A.deeper (ve x (AH st) s.heap.objs.size f cdv))->DSs (M9 CX0 P w K mg base N x (AH st) f cdv A outer s H E).nox (DJ st) b):St.Dfn P w K mg base x (k+1) ps (spD K np (Ar (A1 N.length b))):=by
 obtain⟨f,fd,Fu,hm⟩:=S.ex
 exact⟨f,fd,hm,Fu.kp,hbi f fd Fu,iW Fu sc hp λcdv A outer s H E hr=>hb f cdv A outer s H E hr⟩
end
noncomputable def AJ(f:Fn)(fs:Gc Ev):Ev:=λE S=>(evs fs E S).bind λr=>f r.1 r.2
theorem eN{K:Wp}{np:Nat}{f:Fn}{fs:Gc Ev}{σ:Sg}{H:Hp}{Q:VK}(hn:fs.length=np)(h:tD K (AJ f fs) σ H Q):gS (spD K np f) [] E0 (tDs K fs) σ H Q:=by
 obtain⟨M,E,S,d,S',e,r,st,q⟩:=h
 obtain⟨⟨ds,S1⟩,e1,e⟩:=BP e
 refine Jd e1 r st λvs H1 M1 g1 st1 r1=>?_
 rw[wU]
 exact⟨M1,ds,S1,d,S',by rw[Oy e1];exact hn,e,r1,st1,λv H2 M2 g2 st2 r2=>q _ _ M2 (g1.trans g2) st2 r2⟩
theorem gZ{X:Cx}{k np:Nat}{x:Str}{ps:Gc Str}{f:Fn}{e:uu}{es:Gc uu}{fs:Gc Ev}{p pos:Pos}(d:St.Dfn X.prog X.w X.K X.mg X.base x k ps (spD X.K np f))(hr:IB k X.A)(hg:Gl X x)(ha:DEs X (e::es) fs)(hn:fs.length=np:=by rfl)(hdb:(x==("__debug__":Str))=false:=by decide)(he:uo (e::es) X.env=(false,eval e X.env)::uo es X.env:=by rfl)(hpl:(backTo pos (uo es X.env)).any (·.1)=false:=by rfl):DE X (.Call (.Name x p) (e::es) [] pos) (AJ f fs):=⟨CI (St.oB d hr hg ha.pe hdb he hpl) λσ H Q z=>eN hn z⟩
abbrev Tf:=D->En->Sto->uL En
noncomputable def tG(K:Wp)(t:Tf):TG:=λv σ H Q=>∃M d E E' S,t d E S=Fk E'/\EnR K M E σ H/\StR K M S H/\EI K M H v d/\∀σ',EnR K M E' σ' H->Q σ' H
structure DG(X:Cx)(tg:uu)(t:Tf):Prop where
 pe:PG X tg (tG X.K t)
noncomputable def tNm(i:Nat):Tf:=λd E _=>Fk (E.set i (Fk d))
theorem WM{X:Cx}{e:uu}{t t':TG}(h:PG X e t)(m:∀v σ H Q,t' v σ H Q->t v σ H Q):PG X e t':=λpins s σ H v u Q I r q=>h pins s σ H v u Q I r (m _ _ _ _ q)
theorem Ah{X:Cx}{pos:Pos}(i:Nat){x:Str}(hN:X.N.Nodup)(hi:X.N[i]?=Fk x:=by rfl)(hx:Loc X.env.scope x:=by first|exact Or.inl rfl|exact Or.inr rfl)(hf:X.fn x=true\/X.env.scope.names.lookup x=Fk .local:=by first|exact .inl rfl|exact .inr rfl):DG X (.Name x pos) (tNm i):=⟨WM (fC hN hi hx hf) λv σ H Q z=>by
 obtain⟨M,d,E,E',S,e,r,st,rd,q⟩:=z
 cases e
 exact q _ (r.put rd)⟩
noncomputable def tMs:Gc Tf->Gc D->En->Sto->uL En
 | [],[],E,_=>Fk E
 |t::ts,d::ds,E,S=>(t d E S).bind λE1=>tMs ts ds E1 S
 |_,_,_,_=>uK
noncomputable def tTp(ts:Gc Tf):Tf:=λd E S=>match d with
 | .tup ds=>tMs ts ds E S
 | .lst ds=>tMs ts ds E S
 | .ref n=>(Gb S n).bind λds=>tMs ts ds E S
 |_=>uK
noncomputable def tGs(K:Wp):Gc Tf->TGs
 | []=>qt
 |t::ts=>jx (tG K t) (tGs K ts)
theorem UZ{K:Wp}{M:Ms}{H:Hp}{S:Sto}(st:StR K M S H):∀{ts:Gc Tf} {ds:Gc D} {vs:Gc V} {E E':En} {σ:Sg} {Q:Sg->Hp->Prop},tMs ts ds E S=Fk E'->EnR K M E σ H->A5 K M H vs ds->(∀σ',EnR K M E' σ' H->Q σ' H)->tGs K ts vs σ H Q
 | [],[],_,E,E',σ,Q,e,r,rd,q=>by
   cases e
   cases rd
   exact⟨rfl,q _ r⟩
 |t::ts,d::ds,_,E,E',σ,Q,e,r,rd,q=>by
  obtain⟨E1,e1,e⟩:=BP e
  cases rd with
  |cons h1 h2=>exact⟨_,_,rfl,M,d,E,E1,S,e1,r,st,h1,λσ1 r1=>UZ st e r1 h2 q⟩
 | [],_::_,_,E,E',σ,Q,e,r,rd,q=>by cases e
 |_::_,[],_,E,E',σ,Q,e,r,rd,q=>by cases e
theorem RN:∀{ts:Gc Tf} {ds:Gc D} {E E':En} {S:Sto},tMs ts ds E S=Fk E'->ds.length=ts.length
 | [],[],_,_,_,_=>rfl
 |t::ts,d::ds,E,E',S,e=>by
  obtain⟨E1,e1,e⟩:=BP e
  simp[RN e]
 | [],_::_,_,_,_,e=>by cases e
 |_::_,[],_,_,_,e=>by cases e
structure DGs(X:Cx)(es:Gc uu)(ts:Gc Tf):Prop where
 pe:PGs X es (tGs X.K ts)
theorem Bg{X:Cx}:DGs X [] []:=⟨fX⟩
theorem AO{X:Cx}{e:uu}{es:Gc uu}{t:Tf}{ts:Gc Tf}(h:DG X e t)(g:DGs X es ts)(hs:(assignEach (e::es) X.env).map (·.2)=assign e X.env::(assignEach es X.env).map (·.2):=by rfl):DGs X (e::es) (t::ts):=⟨Zq h.pe g.pe hs⟩
theorem FA{X:Cx}{k:Nat}{es:Gc uu}{ts:Gc Tf}{pos:Pos}(hc:X.calm=true)(h:DGs X es ts)(hn:(assignEach es X.env).length=ts.length:=by rfl)(hst:(assignEach es X.env).findIdx? (·.1)=none:=by rfl):DG X (.Tuple es k pos) (tTp ts):=⟨
 WM (jO hc h.pe hn hst) λv σ H Q z=>by
  obtain⟨M,d,E,E',S,e,r,st,rd,q⟩:=z
  unfold tTp at e
  split at e
  .cases rd with
   |tup h1 h2=>exact⟨_,_,rfl,.inl h1,by rw[h2.length];exact RN e,UZ st e r h2 q⟩
  .cases rd with
   |lst h1 n h2=>exact⟨_,_,rfl,.inr h1,by rw[h2.length];exact RN e,UZ st e r h2 q⟩
  .obtain⟨ds,e1,e⟩:=BP e
   cases rd with
   |ref hc=>
    obtain⟨xs,h1,h2⟩:=st.cell _ _ _ hc (HF e1)
    exact⟨_,_,rfl,.inr h1,by rw[h2.length];exact RN e,UZ st e r h2 q⟩
  .cases e⟩
noncomputable def Qa(t:Tf)(k:Ev):Ex:=λE S=>(k E S).bind λr=>(t r.1 E r.2).map λE'=>(.nx,E',r.2)
theorem Hf{X:Cx}{tg e:uu}{t:Tf}{k:Ev}{pos:Pos}(h:DE X e k)(hg:DG X tg t)(hs:swapsWithSole [tg] e pos.line X.env=pure false:=by rfl)(hw:swappedStores [tg] e X.env=pure none:=by rfl)(h1:(assignEach [tg] X.env).map (·.2)=[assign tg X.env]:=by rfl):DS X (.Assign [tg] e pos) (Qa t k):=⟨IV (cj h.pe hg.pe hs hw h1) λDn σ H z=>by
 obtain⟨M,E,S,fl,E',S',e,r,st,q⟩:=z
 obtain⟨⟨d,S1⟩,e1,e⟩:=BP e
 obtain⟨E2,e2,e⟩:=Mf e
 cases e
 exact⟨M,E,S,d,S1,e1,r,st,λv H1 M1 g1 st1 r1=>⟨M1,d,E,_,S1,e2,r.step g1.st,st1,r1,λσ' r2=>q _ _ M1 g1 r2 st1⟩⟩⟩
noncomputable def TM(i j:Nat)(f g:Ev):Ex:=λE S=>(evs [f,g] E S).bind λr=>match r.1 with
 | [d,d']=>Fk (.nx,(E.set i (Fk d)).set j (Fk d'),r.2)
 |_=>uK
theorem Km{X:Cx}{i j:Nat}{x y:Str}{a b:uu}{f g:Ev}{px py pt:Pos}{kt k2:Nat}{pt2 pos:Pos}(hc:X.calm=true)(hN:X.N.Nodup)(hi:X.N[i]?=Fk x)(hj:X.N[j]?=Fk y)(hij:i≠j)(hx:X.env.scope.names.lookup x=Fk .local)(hy:X.env.scope.names.lookup y=Fk .local)(ha:DE X a f)(hb:DE X b g)(hw:swappedStores [.Tuple [.Name x px,.Name y py] kt pt] (.Tuple [a,b] k2 pt2) X.env=pure (Fk [x,y]):=by rfl)(hsa:uo [a,b] X.env=(false,eval a X.env)::uo [b] X.env:=by rfl)(hsb:uo [b] X.env=(false,eval b X.env)::uo [] X.env:=by rfl)(hs:swapsWithSole [.Tuple [.Name x px,.Name y py] kt pt] (.Tuple [a,b] k2 pt2) pos.line X.env=pure false:=by rfl):DS X (.Assign [.Tuple [.Name x px,.Name y py] kt pt] (.Tuple [a,b] k2 pt2) pos) (TM i j f g):=⟨by
 refine IV (iM hc hN hi hj hij hx hy (QW ha.pe (QW hb.pe Ws hsb) hsa) hw hs) λDn σ H z=>?_
 obtain⟨M,E,S,fl,E',S',e,r,st,q⟩:=z
 obtain⟨⟨ds,S1⟩,e1,e⟩:=BP e
 refine Jd (K:=X.K) (fs:=[f,g]) e1 r st λvs H1 M1 g1 st1 r1=>?_
 dsimp only at e
 split at e
 .rename_i d d'
  cases e
  cases r1 with
  |cons h1 t=>
   cases t with
   |cons h2 t=>
    cases t
    exact⟨_,_,rfl,q _ _ M1 g1 (((r.step g1.st).put h1).put h2) st1⟩
 .cases e⟩
noncomputable def RV:Ex:=λ_ _=>uK
theorem Ug{X:Cx}{st:vJ}:DS X st RV:=⟨λ_ _ _ _ _ _ z=>by
 obtain⟨M,E,S,fl,E',S',e,_⟩:=z
 cases e⟩
abbrev Gd:=Gc (Nat×Gc D)
def gOk(gs:Gd)(S:Sto):Prop:=∀g∈gs,Gb S g.1=Fk g.2
abbrev Sr:=En->Sto->uL ((Gc D×Gd)×Sto)
structure kW(K:Wp)(M:Ms)(H:Hp)(gs:Gd)(ds:Gc D)(J:It):Prop where
 go:∀(i:Nat) (H2:Hp) (M2:Ms) (S2:Sto),Sp1 M H M2 H2->StR K M2 S2 H2->gOk gs S2->i<ds.length->J.go i H2
 stop:∀(i:Nat) (H2:Hp) (M2:Ms) (S2:Sto),Sp1 M H M2 H2->StR K M2 S2 H2->gOk gs S2->ds.length<=i->J.stop i H2
 yld:∀(i:Nat) (H2:Hp) (M2:Ms) (S2:Sto) (x:V) (H3:Hp) (d:D),Sp1 M H M2 H2->StR K M2 S2 H2->gOk gs S2->ds[i]?=Fk d->J.yld i H2 x H3->(∀a o,H2 a=Fk o->H3 a=Fk o)/\EI K M2 H3 x d
noncomputable def tI(K:Wp)(s:Sr):TI:=λσ H R=>∃M E S ds gs S',s E S=Fk ((ds,gs),S')/\EnR K M E σ H/\StR K M S H/\∀J H' M',Gr M H M' H'->StR K M' S' H'->kW K M' H' gs ds J->R J H'
structure DI(X:Cx)(tg iter:uu)(s:Sr):Prop where
 pe:PI X tg iter (tI X.K s)
theorem Qy{X:Cx}{tg e:uu}{t t':TI}(h:PI X tg e t)(m:∀σ H R,t' σ H R->t σ H R):PI X tg e t':=λpins s σ H R I q=>h pins s σ H R I (m _ _ _ q)
noncomputable def se(K:Wp)(tl:TE):TI:=λσ H R=>tl σ H λx H1=>∃a,x=.ref a/\(((∃xs,SqL K H1 a xs)/\R (Itl K a) H1)\/((∃xs,SqT K H1 a xs)/\R (Itt K a) H1))
theorem jW{X:Cx}{tg l:uu}{tl:TE}(hl:PE X l tl):PI X tg l (se X.K tl):=by
 intro pins s σ H R I h
 refine thn (hl pins s σ H _ I h) λv s1 ⟨x,H1,I1,r1,q1⟩=>?_
 obtain⟨a,e,q1⟩:=q1
 subst e
 cases r1
 rcases q1 with⟨⟨xs,hq⟩,q⟩|⟨⟨xs,hq⟩,q⟩
 .obtain⟨its,rv,p,hz⟩:=I1.list hq
  refine wZ p.isList ?_
  refine⟨s1.heap.objs.size,[s1.heap.objs.size],_,_,H1,rfl,I1.kept (t':=s1.toks) λb o e=>uJ _ e,Xu a _,⟨_,uq _ rfl,rfl,rfl⟩,λb hb=>?_,q⟩
  have e:b=s1.heap.objs.size:=by simpa using hb
  subst e
  exact I1.fR (uV _) (I1.hok.fresh (uV _))
 .obtain⟨its,rv,p,hz⟩:=I1.tuple hq
  refine wj (show s1.heap.IsTuple a its.toArray from p) ?_
  refine⟨s1.heap.objs.size,[s1.heap.objs.size],_,_,H1,rfl,I1.kept (t':=s1.toks) λb o e=>uJ _ e,Vt a _,⟨_,uq _ rfl,rfl,rfl⟩,λb hb=>?_,q⟩
  have e:b=s1.heap.objs.size:=by simpa using hb
  subst e
  exact I1.fR (uV _) (I1.hok.fresh (uV _))
theorem A5.get'{K:Wp}{M:Ms}{H:Hp}{vs:Gc V}{ds:Gc D}{i:Nat}(h:A5 K M H vs ds)(hi:i<ds.length):∃x,vs[i]?=Fk x:=by
 have:=h.length
 exact⟨vs[i],tz (by omega)⟩
structure SqF(K:Wp)(M:Ms)(H:Hp)(gs:Gd)(k:vL)(a:uN)(ds:Gc D):Prop where
 keep:∀(H2:Hp) (M2:Ms) (S2:Sto),Sp1 M H M2 H2->StR K M2 S2 H2->gOk gs S2->∃xs,(if k=true then SqT K H2 a xs else SqL K H2 a xs)/\A5 K M2 H2 xs ds
noncomputable def sqD(S:Sto):D->uL (Gc D×Gd)
 | .tup ds=>Fk (ds,[])
 | .lst ds=>Fk (ds,[])
 | .ref n=>(Gb S n).map λds=>(ds,[(n,ds)])
 | .scr ns=>Fk (ns.map .int,[])
 |_=>uK
theorem VF{K:Wp}{M:Ms}{H:Hp}{S:Sto}{v:V}{d:D}{ds:Gc D}{gs:Gd}(st:StR K M S H)(h:EI K M H v d)(e:sqD S d=Fk (ds,gs)):∃k a,v=.ref a/\SqF K M H gs k a ds:=by
 cases h with
 |tup h r=>cases e;exact⟨true,_,rfl,⟨λH2 M2 S2 g _ _=>⟨_,g.sqT h,r.step g⟩⟩⟩
 |lst h n r=>cases e;exact⟨false,_,rfl,⟨λH2 M2 S2 g _ _=>⟨_,SqL.of (g.keep _ _ h n),r.step g⟩⟩⟩
 |scr h=>
  cases e
  refine⟨false,_,rfl,⟨λH2 M2 S2 g _ _=>⟨_,?_,Nv⟩⟩⟩
  rcases h with⟨h,n⟩|h
  .rcases h with h|⟨o,h⟩
   .exact .inl (.inl (g.keep _ _ h n))
   .exact .inl (.inr ⟨o,g.keep _ _ h n⟩)
  .exact .inr h
 |ref h=>
  obtain⟨es,e1,e⟩:=Mf e
  cases e
  refine⟨false,_,rfl,⟨λH2 M2 S2 g st2 ok=>?_⟩⟩
  obtain⟨xs,h1,h2⟩:=st2.cell _ _ _ (Qz g.pre h) (HF (ok _ (uy.mpr rfl)))
  exact⟨xs,SqL.of h1,h2⟩
 |non=>cases e
 |bl b=>cases e
 |int b=>cases e
 |str b=>cases e
 |ty b=>cases e
 |dct h n r=>cases e
theorem nv{K:Wp}{M:Ms}{H:Hp}{gs:Gd}{k:vL}{a:uN}{ds:Gc D}(h:SqF K M H gs k a ds):kW K M H gs ds (if k=true then Itt K a else Itl K a):=by
 cases k with
 |true=>
  exact{
   go:=λi H2 M2 S2 g st ok hi=>let⟨xs,h1,h2⟩:=h.keep H2 M2 S2 g st ok;let⟨x,hx⟩:=h2.get' hi;⟨xs,x,h1,hx⟩
   stop:=λi H2 M2 S2 g st ok hi=>let⟨xs,h1,h2⟩:=h.keep H2 M2 S2 g st ok;⟨xs,h1,by have:=h2.length;omega⟩
   yld:=λi H2 M2 S2 x H3 d g st ok hd hy=>by
    obtain⟨xs,h1,h2⟩:=h.keep H2 M2 S2 g st ok
    obtain⟨rfl,hy⟩:=hy
    refine⟨λ_ _ e=>e,?_⟩
    have hx:=hy xs h1
    obtain⟨x',h3,h4⟩:=h2.get hd
    rw[hx]at h3;cases h3
    exact h4}
 |false=>
  exact{
   go:=λi H2 M2 S2 g st ok hi=>let⟨xs,h1,h2⟩:=h.keep H2 M2 S2 g st ok;let⟨x,hx⟩:=h2.get' hi;⟨xs,x,h1,hx⟩
   stop:=λi H2 M2 S2 g st ok hi=>let⟨xs,h1,h2⟩:=h.keep H2 M2 S2 g st ok;⟨xs,h1,by have:=h2.length;omega⟩
   yld:=λi H2 M2 S2 x H3 d g st ok hd hy=>by
    obtain⟨xs,h1,h2⟩:=h.keep H2 M2 S2 g st ok
    obtain⟨rfl,hy⟩:=hy
    refine⟨λ_ _ e=>e,?_⟩
    have hx:=hy xs h1
    obtain⟨x',h3,h4⟩:=h2.get hd
    rw[hx]at h3;cases h3
    exact h4}
noncomputable def Js(f:Ev):Sr:=λE S=>(f E S).bind λr=>(sqD r.2 r.1).map λp=>(p,r.2)
theorem RL{S:Sto}{d:D}{ds:Gc D}{gs:Gd}(e:sqD S d=Fk (ds,gs)):gOk gs S:=by
 cases d<;>first|(cases e;done)|skip
 all_goals first
  |(cases e;intro g hg;cases hg;done)
  |(obtain⟨es,e1,e⟩:=Mf e
    cases e
    intro g hg
    rw[uy.mp hg]
    exact e1)
theorem DR{X:Cx}{tg e:uu}{f:Ev}(h:DE X e f):DI X tg e (Js f):=⟨Qy (jW h.pe) λσ H R z=>by
 obtain⟨M,E,S,ds,gs,S',e,r,st,q⟩:=z
 obtain⟨⟨d,S1⟩,e1,e⟩:=BP e
 obtain⟨⟨ds',gs'⟩,e2,e⟩:=Mf e
 cases e
 refine⟨M,E,S,d,S1,e1,r,st,λv H1 M1 g1 st1 r1=>?_⟩
 obtain⟨k,a,rfl,sq⟩:=VF st1 r1 e2
 obtain⟨xs,hs,_⟩:=sq.keep H1 M1 S1 (Gr.refl st1.mo).st st1 (RL e2)
 have it:=nv sq
 refine⟨a,rfl,?_⟩
 cases k with
 |true=>exact .inr ⟨⟨xs,hs⟩,q _ _ M1 g1 st1 it⟩
 |false=>exact .inl ⟨⟨xs,hs⟩,q _ _ M1 g1 st1 it⟩⟩
noncomputable def KH(lo:Int)(n:Nat):Gc D:=(uc n).map λ(i:Nat)=>.int (lo+(i:Int))
theorem kY{K:Wp}{M:Ms}{H:Hp}{lo:Int}{n:Nat}:kW K M H [] (KH lo n) (Itr lo n) where
 go:=λi H2 M2 S2 g st ok hi=>by
  have:i<n:=by unfold KH at hi;simpa using hi
  exact this
 stop:=λi H2 M2 S2 g st ok hi=>by
  have:n<=i:=by unfold KH at hi;simpa using hi
  exact this
 yld:=λi H2 M2 S2 x H3 d g st ok hd hy=>by
  obtain⟨rfl,rfl⟩:=hy
  refine⟨λ_ _ e=>e,?_⟩
  unfold KH at hd
  rw[uY]at hd
  cases e:(uc n)[i]? with
  |none=>rw[e]at hd;cases hd
  |some j=>
   rw[e]at hd
   cases hd
   have:j=i:=by
    obtain⟨h1,h2⟩:=uU.mp e
    simpa using h2.symm
   subst this
   exact .int _
noncomputable def PJ(fs:Gc Ev):Sr:=λE S=>(evs fs E S).bind λr=>match r.1 with
 | [.int j]=>if(decide (-(2^62)<=j) && decide (j<2^62))=true then Fk ((KH 0 j.toNat,[]),r.2)else uK
 | [.int i,.int j]=>if(decide (-(2^62)<=i) && decide (i<2^62) && decide (-(2^62)<=j) && decide (j<2^62))=true then Fk ((KH i (j-i).toNat,[]),r.2)else uK
 |_=>uK
theorem VC{K:Wp}{M:Ms}{H:Hp}{vs:Gc V}{j:Int}(h:A5 K M H vs [.int j]):vs=[.int j]:=by
 cases h with
 |cons h t=>cases t;cases h;rfl
theorem Fv{X:Cx}{tg a:uu}{o:Ev}{p pos:Pos}(hg:Gl X "range")(hm:X.mg "range"=uK)(ha:DEs X [a] [o])(hs:uo [a] X.env=[(false,eval a X.env)]:=by rfl):DI X tg (.Call (.Name "range" p) [a] [] pos) (PJ [o]):=⟨
 Qy (XQ hg hm ha.pe hs) λσ H R z=>by
  obtain⟨M,E,S,ds,gs,S',e,r,st,q⟩:=z
  obtain⟨⟨ws,S1⟩,e1,e⟩:=BP e
  have hl:=Oy e1
  refine Jd e1 r st λvs H1 M1 g1 st1 r1=>?_
  dsimp only at e
  split at e
  .split at e
   .rename_i j hk
    rw[ub]at hk
    cases e
    exact⟨j,VC r1,uf hk.1,uf hk.2,q _ _ M1 g1 st1 kY⟩
   .cases e
  .simp at hl
  .cases e⟩
open Classical in
def Nc(gs:Gd)(t:Tf)(body:Ex):Gc D->En->Sto->uL (Fl×En×Sto)
 | [],E,S=>if gOk gs S then Fk (.nx,E,S)else uK
 |d::ds,E,S=>if gOk gs S then(t d E S).bind λE1=>(body E1 S).bind λr=>match r.1 with
  | .nx=>Nc gs t body ds r.2.1 r.2.2
  | .ret w=>Fk (.ret w,r.2)
  else uK
def Lj(s:Sr)(t:Tf)(body:Ex):Ex:=λE S=>(s E S).bind λr=>Nc r.1.2 t body r.1.1 E r.2
theorem Ss{α:Type}{xs:Gc α}{i:Nat}{x:α}{r:Gc α}(h:xs.drop i=x::r):xs[i]?=Fk x/\xs.drop (i+1)=r/\i<xs.length:=by
 have hi:i<xs.length:=by
  by_cases hi:i<xs.length
  .exact hi
  .rw[vf (by omega)]at h;cases h
 rw[vG hi]at h
 cases h
 exact⟨tz hi,rfl,hi⟩
theorem E7{X:Cx}{tg iter:uu}{body:Gc vJ}{s:Sr}{t:Tf}{b:Ex}{pos:Pos}(hp:PassesOwn (model X.prog X.w) X.A X.env X.xe)(hc:X.calm=true)(hi:DI X tg iter s)(hg:DG X tg t)(hb:DSs X body b)(hs:∀x,foldedSetIterable iter X.env x=pure x:=by intro _;rfl):DS X (.For tg iter body [] pos) (Lj s t b):=⟨IV (j6 hp hc hi.pe hg.pe hb.pe hs) λDn σ H z=>by
 obtain⟨M,E,S,fl,E',S',e,r,st,q⟩:=z
 obtain⟨⟨⟨ds,gs⟩,S1⟩,e1,e⟩:=BP e
 dsimp only at e
 refine⟨M,E,S,ds,gs,S1,e1,r,st,λJ H1 M1 g1 st1 it=>?_⟩
 refine⟨λi m σ' H'=>m=ds.length-i/\∃E2 S2 M2,Nc gs t b (ds.drop i) E2 S2=Fk (fl,E',S')/\Gr M1 H1 M2 H'/\EnR X.K M2 E2 σ' H'/\StR X.K M2 S2 H',⟨_,rfl,E,S1,M1,e,.refl st1.mo,r.step g1.st,st1⟩,λi m σ2 H2 hW=>?_⟩
 obtain⟨rfl,E2,S2,M2,e2,g2,r2,st2⟩:=hW
 cases ed:ds.drop i with
 |nil=>
  rw[ed]at e2
  unfold Nc at e2
  split at e2
  .rename_i ok
   cases e2
   left
   exact⟨it.stop i H2 M2 _ g2.st st2 ok (AA6.mp ed),q _ _ M2 (g1.trans g2) r2 st2⟩
  .cases e2
 |cons d rest=>
  obtain⟨d1,d2,d3⟩:=Ss ed
  rw[ed]at e2
  unfold Nc at e2
  split at e2
  .rename_i ok
   obtain⟨E3,e3,e2⟩:=BP e2
   obtain⟨⟨f4,E4,S4⟩,e4,e2⟩:=BP e2
   dsimp only at e2
   right
   refine⟨it.go i H2 M2 S2 g2.st st2 ok d3,λσ' H'=>∃m',m'<ds.length-i/\(m'=ds.length-(i+1)/\∃E2 S2 M2,Nc gs t b (ds.drop (i+1)) E2 S2=Fk (fl,E',S')/\Gr M1 H1 M2 H'/\EnR X.K M2 E2 σ' H'/\StR X.K M2 S2 H'),λσ' H' z=>z,λx H3 hy=>?_⟩
   obtain⟨k3,rx⟩:=it.yld i H2 M2 S2 x H3 d g2.st st2 ok d1 hy
   have g3:Gr M2 H2 M2 H3:=.grow st2.mo k3
   refine⟨M2,d,E2,E3,S2,e3,r2.step g3.st,st2.grow k3,rx,λσ4 r4=>?_⟩
   refine⟨M2,E3,S2,f4,E4,S4,e4,r4,st2.grow k3,?_⟩
   split at e2
   .exact λσ6 H6 M6 g6 r6 st6=>⟨_,by omega,rfl,E4,S4,M6,by rw[d2];exact e2,(g2.trans g3).trans g6,r6,st6⟩
   .cases e2
    exact λv H6 M6 g6 st6 r6=>q _ _ M6 (((g1.trans g2).trans g3).trans g6) st6 r6
  .cases e2⟩
noncomputable def J1(c:Ev)(b:Ex):Nat->En->Sto->uL (Fl×En×Sto)
 |0,_,_=>uK
 |k+1,E,S=>(c E S).bind λr=>match r.1 with
  | .bl true=>(b E r.2).bind λp=>match p.1 with
    | .nx=>J1 c b k p.2.1 p.2.2
    | .ret w=>Fk (.ret w,p.2)
  | .bl false=>Fk (.nx,E,r.2)
  |_=>uK
noncomputable def TH(fuel:En->Nat)(c:Ev)(b:Ex):Ex:=λE S=>J1 c b (fuel E) E S
theorem U8{X:Cx}{c:uu}{body:Gc vJ}{k:Ev}{b:Ex}{pos:Pos}(fuel:En->Nat)(hp:PassesOwn (model X.prog X.w) X.A X.env X.xe)(hc:DT X c k)(hb:DSs X body b):DS X (.While c body [] pos) (TH fuel k b):=⟨
 IV (bJ hp hc.pe hb.pe) λDn σ H z=>by
  obtain⟨M,E,S,fl,E',S',e,r,st,q⟩:=z
  refine⟨λm σ' H'=>∃E2 S2 M2,J1 k b m E2 S2=Fk (fl,E',S')/\Gr M H M2 H'/\EnR X.K M2 E2 σ' H'/\StR X.K M2 S2 H',⟨fuel E,E,S,M,e,.refl st.mo,r,st⟩,λm σ2 H2 hW=>?_⟩
  obtain⟨E2,S2,M2,e2,g2,r2,st2⟩:=hW
  cases m with
  |zero=>cases e2
  |succ m=>
   obtain⟨⟨w3,S3⟩,e3,e2⟩:=BP e2
   dsimp only at e2
   split at e2
   .obtain⟨⟨f4,E4,S4⟩,e4,e2⟩:=BP e2
    refine⟨M2,E2,S2,true,S3,e3,r2,st2,λH3 M3 g3 st3=>?_⟩
    refine fO ⟨λσ' H'=>∃m',m'<m+1/\∃E2 S2 M2,J1 k b m' E2 S2=Fk (fl,E',S')/\Gr M H M2 H'/\EnR X.K M2 E2 σ' H'/\StR X.K M2 S2 H',λσ' H' z=>z,?_⟩
    refine⟨M3,E2,S3,f4,E4,S4,e4,r2.step g3.st,st3,?_⟩
    dsimp only at e2
    split at e2
    .exact λσ5 H5 M5 g5 r5 st5=>⟨m,by omega,E4,S4,M5,e2,(g2.trans g3).trans g5,r5,st5⟩
    .cases e2
     exact λv H5 M5 g5 st5 r5=>q _ _ M5 ((g2.trans g3).trans g5) st5 r5
   .cases e2
    refine⟨M2,_,S2,false,_,e3,r2,st2,λH3 M3 g3 st3=>?_⟩
    refine hU ?_
    exact q _ _ M3 (g2.trans g3) (r2.step g3.st) st3
   .cases e2⟩
noncomputable def Vm(i:Nat):En->Nat:=λE=>match at? E i with
 |some (.int j)=>j.natAbs+2
 |_=>0
section
variable{K:Wp}{M M' M2:Ms}{H H' H2:Hp}{S:Sto}
structure GrX(M:Ms)(H:Hp)(M':Ms)(H':Hp):Prop where
 pre:M.cel <+: M'.cel
 fresh:∀a,a∈M'.cel->a∈M.cel\/H a=uK
 keep:∀a o,H a=Fk o->a∉M.cel->H' a=Fk o
 some:∀a,H a≠uK->H' a≠uK
theorem GrX.none(g:GrX M H M' H'){a:uN}(h:H' a=uK):H a=none:=by
 cases e:H a with
 |none=>rfl
 |some o=>exact absurd h (g.some a (by rw[e];intro z;cases z))
theorem Gr.x(g:Gr M H M' H'):GrX M H M' H':=⟨g.pre,g.fresh,g.keep,g.some⟩
theorem GrX.trans(h:GrX M H M' H')(g:GrX M' H' M2 H2):GrX M H M2 H2:=
 ⟨h.pre.trans g.pre,λa z=>(g.fresh a z).elim (h.fresh a) λz=>.inr (h.none z),λa o e n=>g.keep a o (h.keep a o e n) (λz=>by
   rcases h.fresh a z with z|z
   .exact n z
   .rw[e]at z;cases z),λa e=>g.some a (h.some a e)⟩
theorem StR.jb(r:StR K M S H){a:uN}(e:H a=uK):StR K ⟨M.cel,a::M.tmp⟩ S (upd H a (.lst []))/\GrX M H ⟨M.cel,a::M.tmp⟩ (upd H a (.lst []))/\Sp1 M H ⟨M.cel,a::M.tmp⟩ (upd H a (.lst [])):=by
 have k:∀b o,H b=Fk o->upd H a (.lst []) b=Fk o:=JM e
 have na:¬M.mem a:=λz=>r.mo.some z e
 have s1:Sp1 M H ⟨M.cel,a::M.tmp⟩ (upd H a (.lst [])):=⟨r.mo,vp,λb z=>by
  rcases z with z|z
  .exact .inl (.inl z)
  .rcases uQ.mp z with z|z
   .subst z;exact .inr e
   .exact .inl (.inr z),λb o eb _=>k b o eb⟩
 refine⟨⟨λb z=>?_,r.nd,λb hb z=>?_,r.len,λn b c h1 h2=>?_⟩,⟨vp,λb z=>.inl z,λb o eb _=>k b o eb,λb eb z=>?_⟩,s1⟩
 .by_cases h:b=a
  .subst h;exact .inl ⟨[],Bf⟩
  .rw[An h]
   refine r.mo b ?_
   rcases z with z|z
   .exact .inl z
   .rcases uQ.mp z with z|z
    .exact absurd z h
    .exact .inr z
 .rcases uQ.mp hb with hb|hb
  .subst hb;exact na (.inl z)
  .exact r.nt b hb z
 .have q:=r.cell n b c h1 h2
  cases c with
  |lst ds=>obtain⟨xs,e,rr⟩:=q;exact⟨xs,k _ _ e,rr.step s1⟩
  |dct ds=>obtain⟨xs,e,rr⟩:=q;exact⟨xs,k _ _ e,rr.step s1⟩
  |tab ds=>obtain⟨xs,e,rr⟩:=q;exact⟨xs,k _ _ e,rr.step s1⟩
 .cases h:H b with
  |none=>exact eb h
  |some o=>rw[k b o h]at z;cases z
theorem StR.eU(r:StR K M S H){a:uN}{ys:Gc V}(ha:a∈M.tmp):StR K M S (upd H a (.lst ys))/\Sp1 M H M (upd H a (.lst ys)):=by
 have s1:Sp1 M H M (upd H a (.lst ys)):=⟨r.mo,vp,λb z=>.inl z,λb o eb nb=>by rw[An (λz=>nb (by rw[z];exact .inr ha))];exact eb⟩
 refine⟨⟨λb z=>?_,r.nd,r.nt,r.len,λn b c h1 h2=>?_⟩,s1⟩
 .by_cases h:b=a
  .subst h;exact .inl ⟨ys,Bf⟩
  .rw[An h];exact r.mo b z
 .have hb:b≠a:=λz=>r.nt a ha (by rw[<-z];exact uh h1)
  have q:=r.cell n b c h1 h2
  cases c with
  |lst ds=>obtain⟨xs,e,rr⟩:=q;exact⟨xs,by rw[An hb];exact e,rr.step s1⟩
  |dct ds=>obtain⟨xs,e,rr⟩:=q;exact⟨xs,by rw[An hb];exact e,rr.step s1⟩
  |tab ds=>obtain⟨xs,e,rr⟩:=q;exact⟨xs,by rw[An hb];exact e,rr.step s1⟩
theorem StR.eL{c:Gc uN}{t:Gc uN}{a:uN}{xs:Gc V}{ds:Gc D}{cf:vL}{d:D}{S':Sto}(r:StR K ⟨c,a::t⟩ S H)(nt:a∉t)(e:H a=Fk (.lst xs))(rr:A5 K ⟨c,a::t⟩ H xs ds)(ef:fin cf (.own ds) S=Fk (d,S')):∃c',StR K ⟨c',t⟩ S' H/\EI K ⟨c',t⟩ H (.ref a) d/\c <+: c'/\(∀b∈c',b∈c\/b=a):=by
 have nc:a∉c:=r.nt a uX
 cases cf with
 |false=>
  cases ef
  have s1:Sp1 ⟨c,a::t⟩ H ⟨c,t⟩ H:=⟨r.mo,vp,λb z=>.inl (z.imp id (uR _)),λ_ _ e _=>e⟩
  refine⟨c,⟨λb z=>r.mo b (z.imp id (uR _)),r.nd,λb hb=>r.nt b (uR _ hb),r.len,λn b cl h1 h2=>?_⟩,.lst e (λz=>z.elim nc nt) (rr.step s1),vp,λb z=>.inl z⟩
  have q:=r.cell n b cl h1 h2
  cases cl with
  |lst ds=>obtain⟨xs,e,rr⟩:=q;exact⟨xs,e,rr.step s1⟩
  |dct ds=>obtain⟨xs,e,rr⟩:=q;exact⟨xs,e,rr.step s1⟩
  |tab ds=>obtain⟨xs,e,rr⟩:=q;exact⟨xs,e,rr.step s1⟩
 |true=>
  cases ef
  have s1:Sp1 ⟨c,a::t⟩ H ⟨c++[a],t⟩ H:=⟨r.mo,xt _ _,λb z=>by
   rcases z with z|z
   .rcases uk.mp z with z|z
    .exact .inl (.inl z)
    .exact .inl (.inr (by rw[uy.mp z];exact uX))
   .exact .inl (.inr (uR _ z)),λ_ _ e _=>e⟩
  have hl:c.length=S.length:=r.len
  refine⟨c++[a],⟨λb z=>?_,?_,λb hb z=>?_,by simp[hl],λn b cl h1 h2=>?_⟩,.ref ?_,xt _ _,λb z=>?_⟩
  .refine r.mo b ?_
   rcases z with z|z
   .rcases uk.mp z with z|z
    .exact .inl z
    .exact .inr (by rw[uy.mp z];exact uX)
   .exact .inr (uR _ z)
  .rw[yn]
   refine⟨r.nd,by simp,λx hx y hy z=>?_⟩
   simp at hy;subst hy
   exact nc (by rw[<-z];exact hx)
  .rcases uk.mp z with z|z
   .exact r.nt b (uR _ hb) z
   .rw[uy.mp z]at hb;exact nt hb
  .by_cases h:n<S.length
   .rw[uP (by rw[hl];exact h)]at h1
    rw[uP h]at h2
    have q:=r.cell n b cl h1 h2
    cases cl with
    |lst ds=>obtain⟨xs,e,rr⟩:=q;exact⟨xs,e,rr.step s1⟩
    |dct ds=>obtain⟨xs,e,rr⟩:=q;exact⟨xs,e,rr.step s1⟩
    |tab ds=>obtain⟨xs,e,rr⟩:=q;exact⟨xs,e,rr.step s1⟩
   .have hm:n=S.length:=by
     have:=(uU.mp h2).1
     simp at this;omega
    subst hm
    rw[vQ (by rw[hl];exact uV _)]at h1
    rw[vQ (uV _)]at h2
    rw[hl]at h1
    simp at h1 h2
    subst h1 h2
    exact⟨xs,e,rr.step s1⟩
  .rw[<-hl];exact uj
  .rcases uk.mp z with z|z
   .exact .inl z
   .exact .inr (uy.mp z)
end
open Classical in
def C8(gs:Gd)(t:Tf)(c:Ev)(f:Ev):Gc D->Gc D->En->Sto->uL (Gc D×Sto)
 | [],acc,_,S=>if gOk gs S then Fk (acc,S)else uK
 |d::ds,acc,E,S=>if gOk gs S then(if acc.length<sizeLine then(t d E S).bind λE1=>(c E1 S).bind λr=>match r.1 with
   | .bl true=>(f E1 r.2).bind λp=>C8 gs t c f ds (acc++[p.1]) E1 p.2
   | .bl false=>C8 gs t c f ds acc E1 r.2
   |_=>uK
  else uK)else uK
noncomputable def Cr:Ev:=λ_ S=>Fk (.bl true,S)
noncomputable def PZ(cap:Gc Nat)(m:Nat)(E:En):En:=cap.map (at? E)++um m uK
def QK(cf:vL)(cap:Gc Nat)(m:Nat)(s:Sr)(t:Tf)(c:Ev)(f:Ev):Ev:=λE S=>(s E S).bind λr=>(C8 r.1.2 t c f r.1.1 [] (PZ cap m E) r.2).bind λq=>fin cf (.own q.1) q.2
noncomputable abbrev C9:=QK false
noncomputable abbrev dg:=QK true
noncomputable def ixC(cap:Gc Nat)(m:Nat):Gc (uL Nat):=cap.map Fk++um m uK
theorem EnR.cap{K:Wp}{M:Ms}{E:En}{σ:Sg}{H:Hp}(r:EnR K M E σ H)(cap:Gc Nat)(m:Nat):EnR K M (PZ cap m E) (sig (ixC cap m) σ) H:=by
 unfold PZ sig ixC
 refine⟨by simp,λi d e=>?_⟩
 have h1:=Xy e
 rw[uY]at h1
 cases e1:cap[i]? with
 |none=>rw[e1]at h1;cases h1
 |some j=>
  rw[e1]at h1
  have h2:at? E j=Fk d:=by simpa using h1
  obtain⟨v,hv,rd⟩:=r.val j d (at?_some h2)
  refine⟨v,?_,rd⟩
  have hi:i<cap.length:=(uU.mp e1).1
  rw[wg,uP (by simpa using hi),uY,uY,e1]
  show Fk ((σ[j]?).join)=Fk (Fk v)
  rw[hv]
  rfl
theorem X2{K:Wp}{cf:vL}{cap:Gc Nat}{m:Nat}{s:Sr}{t:Tf}{c f:Ev}{σ:Sg}{H:Hp}{Q:VK}(h:tD K (QK cf cap m s t c f) σ H Q):di (ixC cap m) (tI K s) (tG K t) (tDT K c) (tD K f) σ H Q:=by
 obtain⟨M,E,S,d,S',e,r,st,q⟩:=h
 obtain⟨⟨⟨ds,gs⟩,S1⟩,e1,e⟩:=BP e
 obtain⟨⟨accf,Sf⟩,e3,e⟩:=BP e
 dsimp only at e e3
 refine⟨M,E,S,ds,gs,S1,e1,r,st,λJ H1 M1 g1 st1 it A0 hD=>?_⟩
 obtain⟨st0,gx0,s0⟩:=st1.jb hD
 have nt:A0∉M1.tmp:=λz=>st1.mo.some (.inr z) hD
 refine⟨λi mm σ' H' ys=>mm=ds.length-i/\∃Ei Si Mi acc,C8 gs t c f (ds.drop i) acc Ei Si=Fk (accf,Sf)/\GrX M1 H1 Mi H'/\Mi.tmp=A0::M1.tmp/\EnR K Mi Ei σ' H'/\StR K Mi Si H'/\H' A0=Fk (.lst ys)/\A5 K Mi H' ys acc,
  ⟨_,rfl,_,S1,_,[],e3,gx0,rfl,((r.step g1.st).step s0).cap cap m,st0,Bf,.nil⟩,λi mm σ2 H2 ys hW=>?_⟩
 obtain⟨rfl,Ei,Si,Mi,acc,ec,gx,ht,r2,st2,hy,ry⟩:=hW
 have sp:Sp1 M1 H1 Mi H2:=⟨st1.mo,gx.pre,λa z=>by
  rcases z with z|z
  .exact(gx.fresh a z).imp .inl id
  .rw[ht]at z
   rcases uQ.mp z with z|z
   .subst z;exact .inr hD
   .exact .inl (.inr z),λa o eo no=>gx.keep a o eo λz=>no (.inl z)⟩
 refine⟨hy,?_⟩
 cases ed:ds.drop i with
 |nil=>
  rw[ed]at ec
  unfold C8 at ec
  split at ec
  .rename_i ok
   cases ec
   left
   obtain⟨ci,ti⟩:=Mi
   have ht':ti=A0::M1.tmp:=ht
   subst ht'
   obtain⟨c',st',rd',pr',sub'⟩:=st2.eL nt hy ry e
   refine⟨it.stop i H2 _ _ sp st2 ok (AA6.mp ed),q _ _ ⟨c',M1.tmp⟩ (g1.trans ⟨st1.mo,gx.pre.trans pr',rfl,λa z=>?_,gx.keep,gx.some⟩) st' rd'⟩
   rcases sub' a z with z|z
   .exact gx.fresh a z
   .subst z;exact .inr hD
  .cases ec
 |cons d rest=>
  obtain⟨d1,d2,d3⟩:=Ss ed
  rw[ed]at ec
  unfold C8 at ec
  split at ec
  .rename_i ok
   split at ec
   .rename_i hz
    obtain⟨E3,e4,ec⟩:=BP ec
    obtain⟨⟨w5,S5⟩,e5,ec⟩:=BP ec
    right
    refine⟨it.go i H2 Mi Si sp st2 ok d3,by rw[ry.length];exact hz,λx H3 hyl=>?_⟩
    obtain⟨k3,rx⟩:=it.yld i H2 Mi Si x H3 d sp st2 ok d1 hyl
    have g3:Gr Mi H2 Mi H3:=.grow st2.mo k3
    have st3:=st2.grow k3
    refine⟨Mi,d,Ei,E3,Si,e4,r2.step g3.st,st3,rx,λσ4 r4=>?_⟩
    have hA:A0∈Mi.tmp:=by rw[ht];exact uX
    have hy3:H3 A0=Fk (.lst ys):=k3 _ _ hy
    have ry3:A5 K Mi H3 ys acc:=ry.step g3.st
    have fin:∀{E6:En} {S6:Sto} {M6:Ms} {H6:Hp} {zs:Gc V} {acc6:Gc D},C8 gs t c f rest acc6 E6 S6=Fk (accf,Sf)->GrX M1 H1 M6 H6->M6.tmp=A0::M1.tmp->EnR K M6 E6 σ4 H6->StR K M6 S6 H6->H6 A0=Fk (.lst zs)->A5 K M6 H6 zs acc6->
      ∃m',m'<ds.length-i/\(m'=ds.length-(i+1)/\∃Ei Si Mi acc,C8 gs t c f (ds.drop (i+1)) acc Ei Si=Fk (accf,Sf)/\GrX M1 H1 Mi H6/\Mi.tmp=A0::M1.tmp/\EnR K Mi Ei σ4 H6/\StR K Mi Si H6/\H6 A0=Fk (.lst zs)/\A5 K Mi H6 zs acc):=
     λ{E6 S6 M6 H6 zs acc6} ec g6 t6 r6 st6 h6 y6=>⟨_,by omega,rfl,E6,S6,M6,acc6,by rw[d2];exact ec,g6,t6,r6,st6,h6,y6⟩
    dsimp only at ec
    split at ec
    .obtain⟨⟨w7,S7⟩,e7,ec⟩:=BP ec
     refine⟨Mi,E3,Si,true,S5,e5,r4,st3,λH5 M5 g5 st5=>?_⟩
     refine fO ?_
     refine⟨M5,E3,S5,w7,S7,e7,r4.step g5.st,st5,λy H7 M7 g7 st7 d7=>?_⟩
     have nA:∀{M6:Ms} {H6:Hp} {S6:Sto},StR K M6 S6 H6->A0∈M6.tmp->A0∉M6.cel:=λr6 h6=>r6.nt A0 h6
     have hA5:A0∈M5.tmp:=by rw[g5.tmp];exact hA
     have hA7:A0∈M7.tmp:=by rw[g7.tmp];exact hA5
     have hy5:H5 A0=Fk (.lst ys):=g5.keep _ _ hy3 (nA st3 hA)
     have hy7:H7 A0=Fk (.lst ys):=g7.keep _ _ hy5 (nA st5 hA5)
     have ry7:A5 K M7 H7 ys acc:=(ry3.step g5.st).step g7.st
     refine⟨hy7,?_⟩
     obtain⟨st8,s8⟩:=st7.eU (ys:=ys++[y]) hA7
     have gx7:GrX M1 H1 M7 H7:=((gx.trans g3.x).trans g5.x).trans g7.x
     have gx8:GrX M1 H1 M7 (upd H7 A0 (.lst (ys++[y]))):=⟨gx7.pre,gx7.fresh,λa o eo no=>by
      rw[An (λz=>by subst z;rw[hD]at eo;cases eo)]
      exact gx7.keep a o eo no,λa ea=>by
      by_cases h:a=A0
      .subst h;rw[Bf];intro z;cases z
      .rw[An h];exact gx7.some a ea⟩
     exact fin ec gx8 (by rw[g7.tmp,g5.tmp];exact ht) (((r4.step g5.st).step g7.st).step s8) st8 Bf ((ry7.append (.cons d7 .nil)).step s8)
    .refine⟨Mi,E3,Si,false,S5,e5,r4,st3,λH5 M5 g5 st5=>?_⟩
     refine hU ?_
     exact fin ec ((gx.trans g3.x).trans g5.x) (by rw[g5.tmp];exact ht) (r4.step g5.st) st5 (g5.keep _ _ hy3 (st3.nt A0 hA)) (ry3.step g5.st)
    .cases ec
   .cases ec
  .cases ec
structure DTs(X:Cx)(ifs:Gc uu)(c:Ev):Prop where
 pe:PTs X ifs (tDT X.K c)
theorem Zl{X:Cx}{e:Gc uu}{t t':TT}(h:PTs X e t)(m:∀σ H Q,t' σ H Q->t σ H Q):PTs X e t':=λpins s σ H Q I q=>h pins s σ H Q I (m _ _ _ q)
theorem Cn{X:Cx}:DTs X [] Cr:=⟨Zl eR λσ H Q z=>by
 obtain⟨M,E,S,b,S',e,r,st,q⟩:=z
 cases e
 exact q _ M (.refl st.mo) st⟩
theorem KP{X:Cx}{c:uu}{f:Ev}(h:DT X c f):DTs X [c] f:=⟨eF h.pe⟩
section
variable{X:Cx}{N':Gc Str}{cf:vL}{cap:Gc Nat}{m:Nat}{scope:vx}{elt tg iter:uu}{ifs:Gc uu}{pos:Pos}{s:Sr}{t:Tf}{c f:Ev}
def Blk(X:Cx)(N':Gc Str)(scope:vx)(tg:uu)(ifs:Gc uu)(elt:uu)(t:Tf)(c f:Ev):Prop:=
 ∀(s:uM) (H:Hp) (fp:Gc uN),DG (Jv X N' scope s H fp) tg t/\DTs (Jv X N' scope s H fp) ifs c/\DE (Jv X N' scope s H fp) elt f
theorem Dz(cap:Gc Nat)(m:Nat)(N':Gc Str)(hc:X.calm=true)(S:Af X.N X.env.scope N' (ixC cap m) scope)(hi:DI X tg iter s)(hb:Blk X N' scope tg ifs elt t c f)(hs:∀x,foldedSetIterable iter X.env x=pure x:=by intro _;rfl):DE X (.ListComp elt [⟨tg,iter,ifs,0⟩] scope pos) (QK cf cap m s t c f):=⟨
 CI (fS (g:=tG X.K t) (tc:=tDT X.K c) (te:=tD X.K f) hc S hi.pe (λs H fp=>⟨(hb s H fp).1.pe,(hb s H fp).2.1.pe,(hb s H fp).2.2.pe⟩) hs) λ_ _ _ h=>X2 h⟩
theorem CU{i:Nat}{y:Str}{py spos:Pos}(cap:Gc Nat)(m:Nat)(N':Gc Str)(hc:X.calm=true)(hN:X.N.Nodup)(hi':X.N[i]?=Fk y)(hx:X.env.scope.names.lookup y=Fk .local)(S:Af X.N X.env.scope N' (ixC cap m) scope)(hi:DI X tg iter s)(hb:Blk X N' scope tg ifs elt t c f)(hsw:swapsWith (.ListComp elt [⟨tg,iter,ifs,0⟩] scope pos) (Fk (.Name y py)) spos.line X.env=pure true:=by rfl)(hs:∀x,foldedSetIterable iter X.env x=pure x:=by intro _;rfl):DS X (.Assign [.Name y py] (.ListComp elt [⟨tg,iter,ifs,0⟩] scope pos) spos) (BQ i (QK cf cap m s t c f)):=⟨
 IV (Vy (g:=tG X.K t) (tc:=tDT X.K c) (te:=tD X.K f) hc hN hi' hx S hi.pe (λs H fp=>⟨(hb s H fp).1.pe,(hb s H fp).2.1.pe,(hb s H fp).2.2.pe⟩) hsw hs) λDn σ H z=>by
  obtain⟨M,E,S,fl,E',S',e,r,st,q⟩:=z
  obtain⟨⟨d,S1⟩,e1,e⟩:=Mf e
  cases e
  exact X2 ⟨M,E,S,d,S1,e1,r,st,λv H1 M1 g1 st1 r1=>q _ _ M1 g1 ((r.step g1.st).put r1) st1⟩⟩
end
noncomputable def IZ{α:Type}(xs:Gc α)(lo hi:uL Int):Gc α:=(xs.drop (HT.sIx xs.length 0 lo)).take (HT.sIx xs.length xs.length hi-HT.sIx xs.length 0 lo)
theorem Xb{K:Wp}{M:Ms}{H:Hp}{xs:Gc V}{ds:Gc D}(h:A5 K M H xs ds)(lo hi:uL Int):A5 K M H (dB xs lo hi) (IZ ds lo hi):=by
 unfold dB IZ
 rw[h.length]
 exact(h.drop _).take _
theorem XG{α:Type}{xs:Gc α}{lo hi:uL Int}(h1:HT.sIx xs.length 0 lo=0)(h2:HT.sIx xs.length xs.length hi=xs.length):IZ xs lo hi=xs:=by
 unfold IZ
 rw[h1,h2]
 simp
noncomputable def wSl(lo hi:uL Int):Op1:=λw=>match w with
 | .val (.tup ds)=>Fk (.val (.tup (IZ ds lo hi)))
 | .val (.str z)=>if z.length<=sizeLine then Fk (.val (.str (Txt.slice z lo hi)))else uK
 |w=>(asL w).map λds=>.own (IZ ds lo hi)
def rh(K:Wp):V->uL Int->uL Int->Hp->VK->Prop:=λx lo hi H Q=>∃M w r,wSl lo hi w=Fk r/\MOk M H/\Sh K M H x w/\∀v H',Nw K M H H' v r->Q v H'
theorem kn{X:Cx}:SlR X (λx lo hi H Q=>∃z,x=.str z/\z.length<=sizeLine/\Q (.str (Txt.slice z lo hi)) H):=by
 intro pins s σ H x v vl vu lo hi sl Q I rx hs pl pu h
 obtain⟨z,rfl,hz,q⟩:=h
 obtain⟨t,rfl⟩:=rx
 have fin:∀t' k,EP X pins σ Q (.str (Txt.slice z lo hi) t') {s with toks:=k}:=λt' k=>⟨.str _,H,I.tok k,⟨t',rfl⟩,q⟩
 cases pl with
 |none=>
  cases pu with
  |none=>exact⟨"str",_,xh.lookup,zc _ _ _,xk (l:=uK) (u:=uK) (st:=uK) hs rfl (zF ⟨uW (AAY z _ _) hz,fin⟩)⟩
  |int j u=>exact⟨"str",_,xh.lookup,zc _ _ _,xk (l:=uK) (u:=Fk (j,u)) (st:=uK) hs rfl (zF ⟨uW (AAY z _ _) hz,fin⟩)⟩
 |int i u'=>
  cases pu with
  |none=>exact⟨"str",_,xh.lookup,zc _ _ _,xk (l:=Fk (i,u')) (u:=uK) (st:=uK) hs rfl (zF ⟨uW (AAY z _ _) hz,fin⟩)⟩
  |int j u=>exact⟨"str",_,xh.lookup,zc _ _ _,xk (l:=Fk (i,u')) (u:=Fk (j,u)) (st:=uK) hs rfl (zF ⟨uW (AAY z _ _) hz,fin⟩)⟩
theorem oU{X:Cx}:SlR X (rh X.K):=by
 intro pins s σ H x v vl vu lo hi sl Q I rx hs pl pu h
 obtain⟨M,w,r,e,mo,sh,q⟩:=h
 unfold wSl at e
 split at e
 .rename_i ds
  cases e
  cases sh with
  |tup hx rr=>
   rename_i a xs
   have hl:=rr.length
   by_cases hw:HT.sIx xs.length 0 lo=0/\HT.sIx xs.length xs.length hi=xs.length
   .refine St.ik pins s σ H _ v vl vu lo hi sl Q I rx hs pl pu ⟨a,xs,rfl,hx,hw.1,hw.2,?_⟩
    have ew:IZ ds lo hi=ds:=XG (by rw[<-hl];exact hw.1) (by rw[<-hl];exact hw.2)
    rw[ew]at q
    exact q _ _ (.same mo (.tup hx rr))
   .exact ky pins s σ H _ v vl vu lo hi sl Q I rx hs pl pu ⟨a,xs,rfl,hx,hw,λp hp=>q _ _ (.tup mo hp (Xb rr lo hi))⟩
 .split at e
  .cases e
   cases sh
   exact kn pins s σ H _ v vl vu lo hi sl Q I rx hs pl pu ⟨_,rfl,by assumption,q _ _ (.same mo (.str _))⟩
  .cases e
 .cases e1:asL w with
  |none=>rw[e1]at e;cases e
  |some ds=>
   rw[e1]at e
   cases e
   obtain⟨a,xs,rfl,h1,rr⟩:=sh.l e1
   exact dz pins s σ H _ v vl vu lo hi sl Q I rx hs pl pu ⟨a,xs,rfl,.of h1,λp hp=>q _ _ (.lst mo hp (Xb rr lo hi))⟩
noncomputable def iI:Wv->uL Int
 | .val (.int i)=>Fk i
 |_=>uK
noncomputable def Kn(l h:vL):OpN:=λws=>match l,h,ws with
 |false,false,[a]=>wSl uK uK a
 |true,false,[a,b]=>(iI b).bind λi=>wSl (Fk i) uK a
 |false,true,[a,b]=>(iI b).bind λi=>wSl uK (Fk i) a
 |true,true,[a,b,c]=>(iI b).bind λi=>(iI c).bind λj=>wSl (Fk i) (Fk j) a
 |_,_,_=>uK
theorem W4{K:Wp}{M:Ms}{H:Hp}{v:V}{w:Wv}{i:Int}(s:Sh K M H v w)(e:iI w=Fk i):v=.int i:=by
 cases w with
 |own ds=>cases e
 |val d=>
  cases d<;>first|(cases e;done)|skip
  cases e;cases s;rfl
section
variable{X:Cx}{e lo hi:uu}{oe ol oh:Ev}{c:vL}{pos p2:Pos}
theorem JG(h:DE X e oe)(hl:DE X lo ol):DE X (.Subscript e (.Slice (Fk lo) uK uK p2) pos) (RT c (Kn true false) [oe,ol]):=⟨CI (Q4 oU h.pe (Qg hl.pe) WJ) λσ H Q z=>by
 obtain⟨M0,E,S0,w,S1,e,r,st,q⟩:=z
 have z:tD X.K oe σ H λx H1=>tD X.K ol σ H1 λy H2=>rN X.K (Kn true false) [x,y] H2 Q:=P8 (Q:=Q) e r st q
 refine JI z λx H1 z1=>JI z1 λy H2 z2=>?_
 obtain⟨M,ws,w',e1,mo,sh,q1⟩:=z2
 cases sh with
 |cons h1 t=>
  cases t with
  |cons h2 t=>
   cases t
   obtain⟨i,ei,e1⟩:=BP e1
   exact⟨i,W4 h2 ei,M,_,w',e1,mo,h1,q1⟩⟩
theorem IY(h:DE X e oe)(hh:DE X hi oh):DE X (.Subscript e (.Slice uK (Fk hi) uK p2) pos) (RT c (Kn false true) [oe,oh]):=⟨CI (Q4 oU h.pe WJ (Qg hh.pe)) λσ H Q z=>by
 obtain⟨M0,E,S0,w,S1,e,r,st,q⟩:=z
 have z:tD X.K oe σ H λx H1=>tD X.K oh σ H1 λy H2=>rN X.K (Kn false true) [x,y] H2 Q:=P8 (Q:=Q) e r st q
 refine JI z λx H1 z1=>JI z1 λy H2 z2=>?_
 obtain⟨M,ws,w',e1,mo,sh,q1⟩:=z2
 cases sh with
 |cons h1 t=>
  cases t with
  |cons h2 t=>
   cases t
   obtain⟨i,ei,e1⟩:=BP e1
   exact⟨i,W4 h2 ei,M,_,w',e1,mo,h1,q1⟩⟩
theorem W2{K:Wp}{M:Ms}{H:Hp}{S:Sto}{v:V}{d:D}{i:Int}(r:EI K M H v d)(e:iI (dr S d)=Fk i):v=.int i:=by
 cases r<;>first|(cases e;done)|skip
 .cases e;rfl
 .rename_i n h
  unfold dr at e
  dsimp only at e
  split at e<;>cases e
theorem fT(h:DE X e oe)(hl:DE X lo ol)(hh:DE X hi oh):DE X (.Subscript e (.Slice (Fk lo) (Fk hi) uK p2) pos) (RT c (Kn true true) [oe,ol,oh]):=⟨CI (Q4 oU h.pe (Qg hl.pe) (Qg hh.pe)) λσ H Q z=>by
 obtain⟨M0,E,S0,w,S1,e,r,st,q⟩:=z
 obtain⟨⟨ds,S2⟩,e1,e⟩:=BP e
 obtain⟨w2,e2,e⟩:=BP e
 obtain⟨⟨d1,Sa⟩,ea,e1⟩:=BP e1
 obtain⟨⟨ds1,Sb⟩,eb,e1⟩:=Mf e1
 cases e1
 obtain⟨⟨d2,Sc⟩,ec,eb⟩:=BP eb
 obtain⟨⟨ds2,Sd⟩,ed,eb⟩:=Mf eb
 cases eb
 obtain⟨⟨d3,Se⟩,ee,ed⟩:=BP ed
 obtain⟨⟨ds3,Sf⟩,ef,ed⟩:=Mf ed
 cases ed
 cases ef
 obtain⟨i,ei,e2⟩:=BP e2
 obtain⟨j,ej,e2⟩:=BP e2
 refine⟨M0,E,S0,d1,Sa,ea,r,st,λx H1 M1 g1 st1 r1=>?_⟩
 refine⟨M1,E,Sa,d2,Sc,ec,r.step g1.st,st1,λy H2 M2 g2 st2 r2=>⟨i,?_,?_⟩⟩
 .exact W2 r2 ei
 refine⟨M2,E,Sc,d3,Se,ee,(r.step g1.st).step g2.st,st2,λu H3 M3 g3 st3 r3=>⟨j,?_,?_⟩⟩
 .exact W2 r3 ej
 refine⟨M3,_,w2,e2,st3.mo,eZ st3 ((r1.step g2.st).step g3.st),λv H4 n=>?_⟩
 obtain⟨M4,g4,st4,d4⟩:=n.fin st3 e
 exact q v H4 M4 (((g1.trans g2).trans g3).trans g4) st4 d4⟩
noncomputable def Uk{α:Type}(xs:Gc α):Gc α:=(uc xs.length).filterMap λk=>xs[St.Qi xs.length k]?
theorem gE{K:Wp}{M:Ms}{H:Hp}{xs:Gc V}{ds:Gc D}(h:A5 K M H xs ds):A5 K M H (Uk xs) (Uk ds):=by
 unfold Uk
 rw[h.length]
 generalize uc ds.length=ks
 induction ks with
 |nil=>exact .nil
 |cons k ks ih=>
  rw[vB,vB]
  cases e:ds[St.Qi ds.length k]? with
  |none=>
   have:xs[St.Qi ds.length k]?=none:=by rw[xQ]at e ⊢; rw[h.length];exact e
   rw[this]
   exact ih
  |some d=>
   obtain⟨x,h1,h2⟩:=h.get e
   rw[h1]
   exact .cons h2 ih
noncomputable def iB:Op1
 | .val (.tup ds)=>Fk (.val (.tup (Uk ds)))
 |_=>uK
noncomputable def oy(K:Wp)(te:TE):TE:=λσ H Q=>te σ H λx H1=>∃a xs,x=.ref a/\SqT K H1 a xs/\∀p,H1 p=uK->Q (.ref p) (upd H1 p (.tup (Uk xs)))
theorem fH{e:uu}{te:TE}{p1 p2 p3 pos:Pos}{k:Nat}(he:PE X e te):PE X (.Subscript e (.Slice uK uK (Fk (.UnaryOp .USub (.Constant (.int 1) k p1) p2)) p3) pos) (oy X.K te):=by
 intro pins s σ H Q I h
 refine AAt (thn (he pins s σ H _ I h) λv s1 ⟨x,H1,I1,r1,q1⟩=>?_)
 obtain⟨a,xs,rfl,hx,q⟩:=q1
 cases r1
 refine wpAny_Slice ?_
 rw[ABR]
 refine uZ (uZ ?_)
 rw[evalPart_some]
 refine thn ((kS (X:=X) cM (dC (i:=1) (j:=k) (pos:=p1)) (pos:=p2)) pins s1 σ H1 (λv H2=>v=.int (-1)/\H2=H1) I1 ⟨_,rfl,rfl,rfl⟩) λu s2 ⟨y,H2,I2,r2,ey,eh⟩=>?_
 subst ey eh
 obtain⟨tk,rfl⟩:=r2
 have I4:Inv X pins σ H2 {s2 with heap:=s2.heap.push {cls:=.type "slice",data:=.fields #[.none,.none,.int (-1) tk]}}:=I2.kept (t':=s2.toks) λb ob q=>uJ _ q
 obtain⟨its,r,ht,hz⟩:=I4.tuple hx
 have hlen:its.toArray.size=xs.length:=by rw[ue];exact r.length.symm
 refine PyProof.Rows.tail_any (ops:=[.ref a,.ref s2.heap.objs.size]) ht.typeIs vE.lookup ?_ (by with_unfolding_all rfl)
 refine St.MU ht (ABW ..) (by rw[hlen];exact hz) ?_
 have fr:=I4.hok.fresh (uV _)
 refine⟨.ref _,_,I4.laid (o:=.tup (Uk xs)) (λb ob q=>uJ _ q) (uV _) ?_,rfl,q _ fr⟩
 have:=St.Vals.pick r (St.Qi xs.length) (uc xs.length)
 refine⟨?_,_,this,?_⟩
 .unfold Uk
  refine uW (yS _ _) ?_
  rw[yl]
  exact hz
 .have e:((uc its.toArray.size).filterMap λk=>its.toArray[St.Qi its.toArray.size k]?)=((uc xs.length).filterMap λk=>its[St.Qi xs.length k]?):=by
   rw[hlen]
   congr 1
   funext k
   rw[List.getElem?_toArray]
  rw[e]
  exact xf _ _
theorem cT{p1 p3:Pos}{k:Nat}(h:DE X e oe):DE X (.Subscript e (.Slice uK uK (Fk (.UnaryOp .USub (.Constant (.int 1) k p1) p2)) p3) pos) (eOp (o1 iB) [oe]):=⟨CI (fH h.pe) λσ H Q z=>by
 refine JI (Wm z) λx H1 z1=>?_
 obtain⟨M,w,r,e,mo,sh,q⟩:=z1
 unfold iB at e
 split at e
 .cases e
  cases sh with
  |tup hx rr=>exact⟨_,_,rfl,hx,λp hp=>q _ _ (.tup mo hp (gE rr))⟩
 .cases e⟩
noncomputable def wUp:Op1
 | .val (.str z)=>if(ABF z).length<=sizeLine then Fk (.val (.str (ABF z)))else uK
 |_=>uK
theorem ao:MtR X "str.upper" (λx xs H Q=>xs=[]/\∃z,x=.str z/\(ABF z).length<=sizeLine/\Q (.str (ABF z)) H):=by
 intro pins s σ H x xs v us Q I rx rv h
 obtain⟨rfl,z,rfl,hz,q⟩:=h
 cases rv
 obtain⟨t,rfl⟩:=rx
 have hfit:ABM (ABF z).length=false:=by
  unfold ABM
  exact xS (by lia)
 exact call_gives AAZ (zc _ _ _) PySem.F.entry_str_upper (PySem.F.args_str_upper_1 _) (gives_str_upper z t hfit) ⟨hz,⟨.str _,H,I.tok _,⟨_,rfl⟩,q⟩⟩
theorem ZG{o:uu}{oo:Ev}{apos cpos:Pos}(h:DE X o oo)(hbase:attributeBase o "upper" X.env (eval o X.env)=eval o X.env:=by rfl)(hline:(apos.endLine==cpos.line)=true:=by rfl):DE X (.Call (.Attribute o "upper" apos) [] [] cpos) (eOp (o1 wUp) [oo]):=⟨
 CI (jI PySem.F.plainAttrs_str AAZ PySem.F.type_str_upper ao h.pe hbase hline) λσ H Q z=>by
  refine JI (Wm z) λx H1 z1=>?_
  obtain⟨M,w,r,e,mo,sh,q⟩:=z1
  unfold wUp at e
  split at e
  .split at e
   .cases e
    cases sh
    exact⟨rfl,rfl,_,rfl,by assumption,q _ _ (.same mo (.str _))⟩
   .cases e
  .cases e⟩
structure WC(K:Wp)(mg:Str->uL W1)(x:Str)(d:D):Prop where
 ex:∃v u,mg x=Fk u/\RelV v u/\∀M H,EI K M H v d
theorem Qw{x:Str}{d:D}(c:WC X.K X.mg x d)(hg:Gl X x)(hd:(x==("__debug__":Str))=false:=by decide):DE X (.Name x pos) (eC d):=⟨by
 obtain⟨v,u,h1,h2,h3⟩:=c.ex
 exact CI (d8 hg h1 h2 hd) λσ H Q z=>by
  obtain⟨M0,E,S0,w,S1,e,rr,st,q⟩:=z
  cases e
  exact q _ _ M0 (.refl st.mo) st (h3 _ _)⟩
theorem KC{x:Str}{T:xI}(hg:Gl X x)(hm:X.mg x=uK)(hv:bootBuiltins x=Fk (.type T))(hn:x≠ "__name__":=by decide)(hd:(x==("__debug__":Str))=false:=by decide):DE X (.Name x pos) (eC (.ty T)):=
 SW (gy (v:=.ty T) hg hm hv rfl hn hd) λ_ _ _=>.ty T
structure uD(K:Wp)(w:vO)(mg:Str->uL W1)(x:Str)(tbl:Gc (Str×D)):Prop where
 ex:∃a kvs,mg x=Fk (.ref a)/\TopD K w a kvs/\∀k,(tbl.lookup k=uK->kvs.lookup k=uK)/\∀d,tbl.lookup k=Fk d->∃v,kvs.lookup k=Fk v/\∀M H,EI K M H v d
end
noncomputable def RX:Nat->Gc D->Gc D
 |_,[]=>[]
 |k,d::ds=>.tup [.int k,d]::RX (k+1) ds
theorem Na:∀{ds:Gc D} {k i:Nat},(RX k ds)[i]?=(ds[i]?).map λd=>.tup [.int ((k+i:Nat):Int),d]
 | [],k,i=>by simp[RX]
 |d::ds,k,0=>by simp[RX]
 |d::ds,k,i+1=>by
  simp only[RX,List.getElem?_cons_succ]
  rw[Na,show k+1+i=k+(i+1) by lia]
theorem QR:∀{ds:Gc D} {k:Nat},(RX k ds).length=ds.length
 | [],k=>rfl
 |d::ds,k=>by simp[RX,QR (ds:=ds)]
theorem SqF.sqB{K:Wp}{M:Ms}{H:Hp}{gs:Gd}{k:vL}{a:uN}{ds:Gc D}(h:SqF K M H gs k a ds){H2:Hp}{M2:Ms}{S2:Sto}(g:Sp1 M H M2 H2)(st:StR K M2 S2 H2)(ok:gOk gs S2):∃xs,SqB K H2 k a xs/\A5 K M2 H2 xs ds:=by
 obtain⟨xs,h1,h2⟩:=h.keep H2 M2 S2 g st ok
 refine⟨xs,?_,h2⟩
 cases k with
 |true=>exact h1
 |false=>exact h1
theorem j8{K:Wp}{M:Ms}{H:Hp}{gs:Gd}{k:vL}{a:uN}{ds:Gc D}(h:SqF K M H gs k a ds):kW K M H gs (RX 0 ds) (ItE K k a) where
 go:=λi H2 M2 S2 g st ok hi=>by
  rw[QR]at hi
  obtain⟨xs,h1,h2⟩:=h.sqB g st ok
  obtain⟨x,hx⟩:=h2.get' hi
  exact⟨xs,x,h1,hx⟩
 stop:=λi H2 M2 S2 g st ok hi=>by
  rw[QR]at hi
  obtain⟨xs,h1,h2⟩:=h.sqB g st ok
  exact⟨xs,h1,by have:=h2.length;lia⟩
 yld:=λi H2 M2 S2 x H3 d g st ok hd hy=>by
  obtain⟨xs,h1,h2⟩:=h.sqB g st ok
  obtain⟨p,y,hp,rfl,hy,rfl⟩:=hy
  have hx:=hy xs h1
  rw[Na]at hd
  obtain⟨d0,e,hd⟩:=Mf hd
  subst hd
  obtain⟨x',h3,h4⟩:=h2.get e
  rw[hx]at h3;cases h3
  have k3:=JM (o:=.tup [.int i,y]) hp
  refine⟨k3,.tup (.of Bf) (.cons ?_ (.cons (h4.step (Gr.grow st.mo k3).st) .nil))⟩
  rw[AAa]
  exact .int _
noncomputable def Xe(f:Ev):Sr:=λE S=>(f E S).bind λr=>(sqD r.2 r.1).map λp=>((RX 0 p.1,p.2),r.2)
theorem Sw{X:Cx}{a:uu}{f:Ev}{p pos tp:Pos}{elts:Gc uu}{k:Nat}(hg:Gl X "enumerate")(hm:X.mg "enumerate"=uK)(ha:DE X a f)(hs:uo [a] X.env=[(false,eval a X.env)]:=by rfl):DI X (.Tuple elts k tp) (.Call (.Name "enumerate" p) [a] [] pos) (Xe f):=⟨
 Qy (Zx hg hm (QW ha.pe Ws (by rw[hs];rfl)) hs) λσ H R z=>by
  obtain⟨M,E,S,ds,gs,S',e,r,st,q⟩:=z
  obtain⟨⟨d,S1⟩,e1,e⟩:=BP e
  obtain⟨⟨ds',gs'⟩,e2,e⟩:=Mf e
  cases e
  refine⟨M,E,S,d,S1,e1,r,st,λv H1 M1 g1 st1 r1=>?_⟩
  obtain⟨k,a,rfl,sq⟩:=VF st1 r1 e2
  obtain⟨xs,hs,_⟩:=sq.sqB (Gr.refl st1.mo).st st1 (RL e2)
  exact⟨k,a,rfl,⟨xs,hs⟩,q _ _ M1 g1 st1 (j8 sq)⟩⟩
noncomputable def Nb(ds es:Gc D):Gc D:=(ds.zip es).map λp=>.tup [p.1,p.2]
theorem cB{ds es:Gc D}{i:Nat}{d:D}(h:(Nb ds es)[i]?=Fk d):∃x y,ds[i]?=Fk x/\es[i]?=Fk y/\d=.tup [x,y]:=by
 unfold Nb at h
 simp only[uY,Option.map_eq_some_iff]at h
 obtain⟨⟨x,y⟩,h1,h2⟩:=h
 rw[yM]at h1
 exact⟨x,y,h1.1,h1.2,h2.symm⟩
theorem Nk{ds es:Gc D}:(Nb ds es).length=min ds.length es.length:=by simp[Nb]
theorem SqF.more{K:Wp}{M:Ms}{H:Hp}{gs gs':Gd}{k:vL}{a:uN}{ds:Gc D}(h:SqF K M H gs k a ds)(s:∀g∈gs,g∈gs'):SqF K M H gs' k a ds:=⟨λH2 M2 S2 g st ok=>h.keep H2 M2 S2 g st λx hx=>ok x (s x hx)⟩
theorem ig{K:Wp}{M:Ms}{H:Hp}{gs:Gd}{k m:vL}{a b:uN}{ds es:Gc D}(h:SqF K M H gs k a ds)(h':SqF K M H gs m b es):kW K M H gs (Nb ds es) (Itz K k a m b) where
 go:=λi H2 M2 S2 g st ok hi=>by
  rw[Nk]at hi
  obtain⟨xs,h1,r⟩:=h.sqB g st ok
  obtain⟨ys,h2,r'⟩:=h'.sqB g st ok
  obtain⟨x,hx⟩:=r.get' (show i<ds.length by lia)
  obtain⟨y,hy⟩:=r'.get' (show i<es.length by lia)
  exact⟨xs,ys,x,y,h1,h2,hx,hy⟩
 stop:=λi H2 M2 S2 g st ok hi=>by
  rw[Nk]at hi
  obtain⟨xs,h1,r⟩:=h.sqB g st ok
  obtain⟨ys,h2,r'⟩:=h'.sqB g st ok
  have:=r.length
  have:=r'.length
  exact⟨xs,ys,h1,h2,by lia⟩
 yld:=λi H2 M2 S2 x H3 d g st ok hd hy=>by
  obtain⟨xs,h1,r⟩:=h.sqB g st ok
  obtain⟨ys,h2,r'⟩:=h'.sqB g st ok
  obtain⟨p,x1,y1,hp,rfl,q1,q2,rfl⟩:=hy
  obtain⟨d1,d2,e1,e2,rfl⟩:=cB hd
  have hx:=q1 xs h1
  have hy:=q2 ys h2
  obtain⟨x',h3,h4⟩:=r.get e1
  obtain⟨y',h5,h6⟩:=r'.get e2
  rw[hx]at h3;cases h3
  rw[hy]at h5;cases h5
  have k3:=JM (o:=.tup [x1,y1]) hp
  exact⟨k3,.tup (.of Bf) (.cons (h4.step (Gr.grow st.mo k3).st) (.cons (h6.step (Gr.grow st.mo k3).st) .nil))⟩
noncomputable def ZC(f g:Ev):Sr:=λE S=>(evs [f,g] E S).bind λr=>match r.1 with
 | [d,e]=>(sqD r.2 d).bind λp=>(sqD r.2 e).map λq=>((Nb p.1 q.1,p.2++q.2),r.2)
 |_=>uK
theorem P2{X:Cx}{a b:uu}{f g:Ev}{p pos tp:Pos}{elts:Gc uu}{k:Nat}(hg:Gl X "zip")(hm:X.mg "zip"=uK)(ha:DE X a f)(hb:DE X b g)(hs:uo [a,b] X.env=[(false,eval a X.env),(false,eval b X.env)]:=by rfl)(hs2:uo [b] X.env=[(false,eval b X.env)]:=by rfl):DI X (.Tuple elts k tp) (.Call (.Name "zip" p) [a,b] [] pos) (ZC f g):=⟨
 Qy (jP hg hm (AA ha (AA hb AD hs2) (by rw[hs,hs2])).pe hs hs2) λσ H R z=>by
  obtain⟨M,E,S,ds,gs,S',e,r,st,q⟩:=z
  obtain⟨⟨ws,S1⟩,e1,e⟩:=BP e
  refine Jd (fs:=[f,g]) e1 r st λvs H1 M1 g1 st1 r1=>?_
  dsimp only at e
  split at e
  .obtain⟨⟨ds1,gs1⟩,eu,e⟩:=BP e
   obtain⟨⟨ds2,gs2⟩,ee,e⟩:=Mf e
   cases e
   cases r1 with
   |cons h1 t=>
    cases t with
    |cons h2 t=>
     cases t
     obtain⟨k1,a1,rfl,s1⟩:=VF st1 h1 eu
     obtain⟨k2,a2,rfl,s2⟩:=VF st1 h2 ee
     obtain⟨xs,hxs,_⟩:=s1.sqB (Gr.refl st1.mo).st st1 (RL eu)
     obtain⟨ys,hys,_⟩:=s2.sqB (Gr.refl st1.mo).st st1 (RL ee)
     exact⟨_,_,_,_,rfl,⟨_,hxs⟩,⟨_,hys⟩,q _ _ M1 g1 st1 (ig (s1.more λx hx=>y8 _ hx) (s2.more λx hx=>vZ _ hx))⟩
  .cases e⟩
noncomputable def intD:D->uL Int
 | .int i=>Fk i
 |_=>uK
noncomputable def NZ(ds:Gc D):uL (Gc Int):=ds.mapM intD
theorem N1{K:Wp}{M:Ms}{H:Hp}:∀{vs:Gc V} {ds:Gc D} {ns:Gc Int},A5 K M H vs ds->NZ ds=Fk ns->vs=ns.map V.int
 |_,_,ns,.nil,e=>by cases e;rfl
 |_,_,ns,.cons (d:=d) (ds:=ds) h t,e=>by
  unfold NZ at e
  rw[zh]at e
  cases e1:intD d with
  |none=>rw[e1]at e;cases e
  |some b=>
   rw[e1]at e
   cases e2:ds.mapM intD with
   |none=>rw[e2]at e;cases e
   |some cs=>
    rw[e2]at e
    cases e
    have hd:d=.int b:=by
     cases d<;>first|(cases e1;done)|skip
     cases e1;rfl
    subst hd
    cases h
    rw[uv,<-N1 t e2]
theorem Wu{X:Cx}(hc:X.calm=true):Fd X (.builtin "sum") (λxs H Q=>∃(p:uN) (ns:Gc Int),xs=[.ref p]/\SqL X.K H p (ns.map V.int)/\Q (.int ns.sum) H):=by
 intro pins s σ H xs us Q I r h
 obtain⟨p,ns,rfl,hp,q⟩:=h
 obtain⟨u,rfl,ru⟩:=r.one
 cases (show u=vi p from ru)
 obtain⟨its,rv,pl,hz⟩:=I.list hp
 have hd:X.A.in1.handled=none:=I.ok.hd hc
 refine call_sum_walkG (wZ pl.isList ?_)
 have hlen:ns.length=its.length:=by have:=rv.length;simpa using this
 have hpl:=pl.isList
 have hlt:p<s.heap.objs.size:=by
  obtain⟨o,ho,_⟩:=hpl
  exact ui ho
 refine⟨s.heap.objs.size,_,_,its.length,_,_,λi=>ns.getD i 0,rfl,St.QN (vs:=its) hd (vK hlt),⟨⟨_,uq _ rfl,rfl,rfl⟩,?_⟩,?_,?_,?_⟩
 .obtain⟨o,ho,r⟩:=hpl
  exact⟨o,uJ _ ho,r⟩
 .intro b hb
  rw[wC]
  simp at hb
  rcases hb with h|h
  .rw[h];exact Nat.lt_succ_self _
  .rw[h];exact Nat.lt_succ_of_lt hlt
 .intro i v hv
  have hi:i<its.length:=(uU.mp hv).1
  have hb:(ns.map V.int)[i]?=Fk (.int (ns.getD i 0)):=by
   rw[uY,tz (by lia)]
   simp[uT,tz (show i<ns.length by lia)]
  obtain⟨u,hu,ru⟩:=rv.get hb
  rw[hv]at hu
  cases hu
  exact ru
 .intro h' tk t' hk
  have e:preSum (λi=>ns.getD i 0) its.length=ns.sum:=by
   rw[<-hlen,St.Ob (uV _),yk (uV _)]
  rw[e]
  exact⟨.int _,H,I.kept (t':=tk) λb o eb=>hk b o (by simp;exact vK (ui eb)) (uJ _ eb),⟨_,rfl⟩,q⟩
noncomputable def bh:Op1:=λw=>(asL w).bind λds=>(NZ ds).map λns=>.val (.int ns.sum)
theorem L4{X:Cx}(hc:X.calm=true):Fd X (.builtin "sum") (rN X.K (o1 bh)):=by
 intro pins s σ H xs us Q I r h
 obtain⟨M,ws,w,e,mo,sh,q⟩:=h
 obtain⟨v,w1,rfl,rfl,s1,e1⟩:=Kk sh e
 obtain⟨ds,e2,e1⟩:=BP e1
 obtain⟨ns,e3,e1⟩:=Mf e1
 cases e1
 obtain⟨a,ys,rfl,h3,h4⟩:=s1.l e2
 exact Wu hc pins s σ H _ us Q I r ⟨a,ns,rfl,by rw[<-N1 h4 e3];exact .of h3,q _ _ (.same mo (.int _))⟩
noncomputable def PU(ns:Gc Int):Gc Int:=ns.mergeSort (λa b=>decide (a<=b))
theorem QO(ns:Gc Int):(PU ns).Perm ns:=List.mergeSort_perm _ _
theorem V5(ns:Gc Int):(PU ns).Pairwise (· <= ·):=by
 have:=List.pairwise_mergeSort (le:=λ(a b:Int)=>decide (a<=b)) (λa b c h1 h2=>by simp at *; lia) (λa b=>by simp;lia) ns
 unfold PU
 exact this.imp λh=>uf h
theorem Vc{ns ms:Gc Int}(p:ms.Perm ns)(s:ms.Pairwise (· <= ·)):ms=PU ns:=PySem.W.ksm_same (p.trans (QO ns).symm) s (V5 ns)
theorem intsAre_of:∀{ns:Gc Int} {its:Gc W1},Vals (ns.map V.int) its->yR its ns
 | [],_,.nil=>.nil
 |n::ns,_,.cons h t=>by
  obtain⟨tk,rfl⟩:=h
  exact .cons n tk (intsAre_of t)
theorem NL:∀{ns:Gc Int} {its:Gc W1},yR its ns->Vals (ns.map V.int) its
 |_,_,.nil=>.nil
 |_,_,.cons n tk t=>.cons ⟨tk,rfl⟩ (NL t)
theorem S9{X:Cx}:Fd X (.builtin "sorted") (λxs H Q=>∃(p:uN) (ns:Gc Int),xs=[.ref p]/\SqL X.K H p (ns.map V.int)/\ns.length<64/\∀q,H q=uK->Q (.ref q) (upd H q (.lst ((PU ns).map V.int)))):=by
 intro pins s σ H xs us Q I r h
 obtain⟨p,ns,rfl,hp,h64,q⟩:=h
 obtain⟨u,rfl,ru⟩:=r.one
 cases (show u=vi p from ru)
 obtain⟨its,rv,pl,hz⟩:=I.list hp
 have hlen:ns.length=its.length:=by have:=rv.length;simpa using this
 refine PyProof.Rows.sorted_ints pl.isList (intsAre_of rv) (by lia) λout ns' a1 a2 a3=>?_
 obtain⟨e,he⟩:=PyProof.Rows.sortedAll_at s.heap its out
 have hn:H (s.heap.objs.size+1)=none:=I.hok.fresh (Nat.le_succ _)
 have hs:=Vc a2 a3
 subst hs
 refine⟨.ref _,_,I.laid (a:=s.heap.objs.size+1) (o:=.lst ((PU ns).map V.int)) (t':=s.toks) (λ_ _=>PyProof.Rows.sortedAll_old) (Nat.le_succ _) ?_,rfl,q _ hn⟩
 refine⟨?_,out.toList,e,NL a1,?_⟩
 .rw[vT,(QO ns).length_eq]
  have:(64:Nat)<=sizeLine:=by decide
  lia
 .rw[Array.toArray_toList];exact he
noncomputable def Qq:Op1:=λw=>(asL w).bind λds=>(NZ ds).bind λns=>if ns.length<64 then Fk (.own ((PU ns).map D.int))else uK
theorem SN{X:Cx}:Fd X (.builtin "sorted") (rN X.K (o1 Qq)):=by
 intro pins s σ H xs us Q I r h
 obtain⟨M,ws,w,e,mo,sh,q⟩:=h
 obtain⟨v,w1,rfl,rfl,s1,e1⟩:=Kk sh e
 obtain⟨ds,e2,e1⟩:=BP e1
 obtain⟨ns,e3,e1⟩:=BP e1
 split at e1
 .cases e1
  obtain⟨a,ys,rfl,h3,h4⟩:=s1.l e2
  exact S9 pins s σ H _ us Q I r ⟨a,ns,rfl,by rw[<-N1 h4 e3];exact .of h3,by assumption,λp hp=>q _ _ (.lst mo hp Nv)⟩
 .cases e1
theorem RD(l:uN)(items:vY W1)(n:Nat)(b:uN)(items2:vY W1)(n2:Nat)(dd:uL uN)(sl:vY (uL W1))(hs0:¬(!items.isEmpty && wO (items.size+items2.size))=true)(hs1:items.size<=sizeLine)(hs2:items.size+items2.size<=sizeLine+1):Meets (yA.«list.extend» ⟨[.ref l,.ref b],[]⟩) (λ_ R s=>s.heap.get? l=Fk {cls:=.type "list",dict:=uK,data:=.seq items n,slots:= #[]}/\s.heap.get? b=Fk {cls:=.type "tuple",dict:=dd,data:=.seq items2 n2,slots:=sl}/\R (.ok (.ret vz)) {s with heap:=s.heap.update l (zb λx=>x++items2),toks:=s.toks}):=
 .of_wp λprog w A R s h=>by
  obtain⟨hp,g,d,tk,os⟩:=s;obtain⟨hl,hb,h⟩:=h;have f1:=AutoSeq1.idx_int;have f2:=AutoSeq1.sub_tuple_tuple;have f3:=AutoSeq1.sub_list_list;have f4:=AutoSeq1.sub_tuple_list;have f5:=AutoSeq1.sub_list_tuple
  have hz':(items++items2).size<=sizeLine+1:=by rw[Array.size_append];exact hs2
  wp_walk using(wpAny_updateSeq hl rfl (hz:=hs1) (_hz':=hz')),uw hl,uw hb;exact⟨_,rfl,h⟩
def ZZ(K:Wp):V->Gc V->Hp->VK->Prop:=λx vs H Q=>∃l b xs zs,x=.ref l/\vs=[.ref b]/\H l=Fk (.lst xs)/\SqT K H b zs/\xs.length+zs.length<=sizeLine/\Q .non (upd H l (.lst (xs++zs)))
theorem Vf{X:Cx}:MtM X "list.extend" (ZZ X.K):=by
 intro pins s σ H x vs v us Q I rx rv h
 obtain⟨l,b,xs,zs,rfl,rfl,hH,hB,hz,q⟩:=h
 cases rx
 obtain⟨u,rfl,ru⟩:=rv.one
 cases ru
 obtain⟨z,its,n,r,hl,e⟩:=I.dS hH
 obtain⟨its2,r2,⟨⟨c,dd,dt,sl⟩,e2,hc,n2,hd⟩,z2⟩:=I.tuple hB
 simp only at hc hd
 subst hc hd
 have hl2:=r2.length
 have hsz:its.toArray.size+its2.toArray.size<=sizeLine:=by rw[ue,ue];lia
 have hlong:¬(!its.toArray.isEmpty && wO (its.toArray.size+its2.toArray.size))=true:=by
  rw[Qd hsz,AAz]
  exact va
 refine xF y9 ⟨_,e,rfl⟩ ABI (AA0 _ _)
  (RD l its.toArray n b its2.toArray n2 dd sl hlong (by rw[ue];lia) (by lia)) ⟨e,e2,?_⟩
 refine⟨.non,_,I.qA (its':=its++its2) hH e (by simp) (r.append r2) ?_,rfl,q⟩
 rw[vm]
 lia
noncomputable def mK:Mo
 |S,ds,[x]=>match dr S x with
  | .val (.tup zs)=>if ds.length+zs.length<=sizeLine then Fk (.non,ds++zs)else uK
  |w=>(asL w).bind λzs=>if ds.length+zs.length<=sizeLine then Fk (.non,ds++zs)else uK
 |_,_,_=>uK
theorem eG{X:Cx}:MtR X "list.extend" (lM X.K mK):=by
 intro pins s σ H x vs v us Q I rx rv h
 obtain⟨M,S,n,a,ds,args,d,ds',rfl,hc,hn,e,st,ra,q⟩:=h
 unfold mK at e
 split at e
 .obtain⟨xs,h1,h2⟩:=st.cell n a _ hc hn
  obtain⟨y,rfl,ry⟩:=U9 ra
  have sy:=eZ st ry
  split at e
  .rename_i ed
   rw[ed]at sy
   split at e
   .rename_i hz
    cases e
    cases sy with
    |tup hx rr=>
     obtain⟨st2,g2⟩:=st.chg hc hn (h2.append rr)
     exact Vf pins s σ H _ _ v us Q I rx rv ⟨a,_,xs,_,rfl,rfl,h1,hx,by rw[h2.length,rr.length];exact hz,q _ _ st2 g2 .non⟩
   .cases e
  .obtain⟨zs,e1,e⟩:=BP e
   split at e
   .rename_i hz
    cases e
    obtain⟨b,ys,rfl,h3,h4⟩:=sy.l e1
    obtain⟨st2,g2⟩:=st.chg hc hn (h2.append h4)
    exact Wf pins s σ H _ _ v us Q I rx rv ⟨a,b,xs,ys,rfl,rfl,h1,h3,by rw[h2.length,h4.length];exact hz,q _ _ st2 g2 .non⟩
   .cases e
 .cases e
theorem aJ{X:Cx}:OpR X (binaryOp .Mult) (λx y H Q=>∃a xs k,x=.ref a/\y=.int k/\SqT X.K H a xs/\xs≠[]/\k<=0/\ -(2^63)<=k/\∀p,H p=uK->Q (.ref p) (upd H p (.tup []))):=by
 intro pins s σ H x y v u Q I rx ry h
 obtain⟨a,xs,k,rfl,rfl,hx,hne,hk,hk2,q2⟩:=h
 cases rx
 obtain⟨t,rfl⟩:=ry
 obtain⟨its,r,⟨⟨c,dd,data,sl⟩,ho,hc,n,hd⟩,hzz⟩:=I.tuple hx
 simp only at hc hd
 subst hc hd
 have hl:=r.length
 have hpos:0<xs.length:=ABL.mpr hne
 refine yL (T:="tuple") (U:="int") (by decide) ⟨_,ho,rfl⟩ (λs'=>yD s' k t) Jb AAf xw NS AAF.lookup
  (xF xw (yD s k t) AAG (zv _ _) (K6 k t a its.toArray n dd sl) ⟨ho,rfl,⟨_,ho,rfl⟩,?_⟩)
 refine wV yz ⟨_,ho,rfl⟩ F.entry_tuple_mul ?_ (ABb _ _)
 unfold yA.«tuple.__mul__»
 wp_walk using uw ho
 rw[vP (show¬(decide (k< -2^63)||decide (k≥2^63))=true by
  rw[vo]
  rintro (z|z)
  .have:=uf z;lia
  .have:=uf z;lia)]
 wp_walk using uw ho
 have hemp:its.toArray.isEmpty=false:=by
  cases its with
  |nil=>rw[yV]at hl;lia
  |cons b bs=>rfl
 rw[vP (show¬(its.toArray.isEmpty||k==1)=true by
  rw[hemp,Bool.false_or]
  intro z
  have:=eq_of_beq z
  lia)]
 wp_walk using uw ho
 all_goals first
  |exact⟨_,rfl,.ref _,_,I.laid (o:=.tup []) (t':=s.toks) (λb ob q=>uJ _ q) (uV _) ⟨we _,[],.nil,xf _ _⟩,rfl,q2 _ (I.hok.fresh (uV _))⟩
  |(exfalso
    rename_i hh
    exact hh (by rw[vo];exact .inl (w6 hk)))
noncomputable def CG:Op2:=λa b=>match a,b with
 | .val (.tup xs),.val (.int k)=>if(!xs.isEmpty && decide (k<=0) && decide (-(2^63)<=k))=true then Fk (.val (.tup []))else lZ (.val (.tup xs)) (.val (.int k))
 |a,b=>lZ a b
theorem Ap{X:Cx}:OpR X (binaryOp .Mult) (rOp X.K CG):=by
 intro pins s σ H x y v u Q I rx ry h
 obtain⟨M,w1,w2,r,e,mo,s1,s2,q⟩:=h
 unfold CG at e
 split at e
 .split at e
  .rename_i xs k hk
   rw[ub,ub]at hk
   cases e
   cases s2
   cases s1 with
   | @tup a ys _ h1 r1=>
     have hne:ys≠[]:=λzz=>by
      subst zz
      cases r1
      exact absurd hk.1.1 (by decide)
     exact aJ pins s σ H _ _ v u Q I rx ry ⟨a,ys,k,rfl,rfl,h1,hne,uf hk.1.2,uf hk.2,λp hp=>q _ _ (.tup mo hp .nil)⟩
  .exact WO pins s σ H x y v u Q I rx ry ⟨M,_,_,r,e,mo,s1,s2,q⟩
 .exact WO pins s σ H x y v u Q I rx ry ⟨M,_,_,r,e,mo,s1,s2,q⟩
theorem LV{A:vN}{k:Nat}(hr:IB k A):A.units+100<cLine:=by have:=hr.un;lia
section
variable{P:ur}{w:vO}{K:Wp}{mg:Str->uL W1}{base:vF}
theorem ME{x:Str}{st:vJ}{k np:Nat}{ps:Gc Str}(S:St.Src K mg x st)(hbi:∀f fd,Fun K x x st f fd->Binds K fd ps []):St.Dfn P w K mg base x k ps (spD K np λ_ _=>uK):=by
 obtain⟨f,fd,Fu,hm⟩:=S.ex
 refine⟨f,fd,hm,Fu.kp,hbi f fd Fu,⟨λvs H Q E h=>?_,λA outer s H args us vs Q E hr h0 hb hv h=>?_⟩⟩
 .obtain⟨_,_,_,_,_,_,e,_⟩:=h;cases e
 .obtain⟨_,_,_,_,_,_,e,_⟩:=h;cases e
end
noncomputable def scE:Nat->uu->Gc vx
 |0,_=>[]
 |n+1,.ListComp e gs s _=>s::(gs.flatMap λg=>scE n g.iter)++scE n e++(gs.flatMap λg=>g.ifs.flatMap (scE n))
 |n+1,.BoolOp _ vs _=>vs.flatMap (scE n)
 |n+1,.Call f as _ _=>scE n f++as.flatMap (scE n)
 |n+1,.BinOp a _ b _=>scE n a++scE n b
 |n+1,.UnaryOp _ a _=>scE n a
 |n+1,.Compare a _ cs _=>scE n a++cs.flatMap (scE n)
 |n+1,.Subscript a b _=>scE n a++scE n b
 |n+1,.Tuple es _ _=>es.flatMap (scE n)
 |n+1,.List es _=>es.flatMap (scE n)
 |n+1,.IfExp c a b _=>scE n c++scE n a++scE n b
 |n+1,.Dict _ vs _=>vs.flatMap (scE n)
 |n+1,.Slice a b c _=>(a.toList++b.toList++c.toList).flatMap (scE n)
 |n+1,.Attribute v _ _=>scE n v
 |_,_=>[]
noncomputable def scS:Nat->vJ->Gc vx
 |0,_=>[]
 |n+1,.Return (Fk e) _=>scE 30 e
 |n+1,.Assign ts e _=>ts.flatMap (scE 30)++scE 30 e
 |n+1,.AugAssign t _ e _=>scE 30 t++scE 30 e
 |n+1,.Expr e _=>scE 30 e
 |n+1,.If t a b _=>scE 30 t++a.flatMap (scS n)++b.flatMap (scS n)
 |n+1,.For _ it a b _=>scE 30 it++a.flatMap (scS n)++b.flatMap (scS n)
 |n+1,.While t a b _=>scE 30 t++a.flatMap (scS n)++b.flatMap (scS n)
 |_,_=>[]
noncomputable def Lq(st:vJ)(k:Nat):vx:=((DJ st).flatMap (scS 20)).getD k (AH st)
structure uB(P:ur)(w:vO)(K:Wp)(mg:Str->uL W1)(base:vF)(x:Str)(k np:Nat)(tbl:Gc (Str×Fn)):Prop where
 ex:∃a kvs,mg x=Fk (.ref a)/\TopD K w a kvs/\∀p G,tbl.lookup p=Fk G->∃f fd ps,kvs.lookup p=Fk (.ref f)/\VN P w K mg base CX0 k f fd ps (spD K np G)/\wy K (.ref f)=true/\Binds K fd ps []
section
variable{P:ur}{w:vO}{K:Wp}{mg:Str->uL W1}{base h:vF}
theorem kN{x:Str}{st:vJ}{f:uN}{oc:W1}{od an:uL uN}{osl:vY (uL W1)}{kV doc pm cdv ct:W1}(X:K.In h)(G:h.Ns mainGlobals mg)(a:wc K mainGlobals x=Fk (Fk (.ref f)))(l:K.lookup f=Fk ⟨oc,od,.func (xq x x (MS st) (DJ st) (AH st) .none kV doc pm an cdv ct),osl⟩)(c:zV K cdv x=true)(k:wy K (.ref f)=true):St.Src K mg x st:=
 ⟨f,_,ju l c k,yT X G a⟩
def IsD(K:Wp)(u:W1)(d:D):Prop:=∃v,RelV v u/\∀M H,EI K M H v d
theorem QT{i:Int}{t:Tok}:IsD K (.int i t) (.int i):=⟨.int i,⟨t,rfl⟩,λ_ _=>.int i⟩
theorem Q1{x:Str}{t:Tok}:IsD K (.str x t) (.str x):=⟨.str x,⟨t,rfl⟩,λ_ _=>.str x⟩
theorem Ud:∀{us:Gc W1} {ds:Gc D},Paired (λd u=>IsD K u d) ds us->∃xs,Vals xs us/\∀M H,A5 K M H xs ds
 |_,_,.nil=>⟨[],.nil,λ_ _=>.nil⟩
 |_,_,.cons h t=>by
  obtain⟨v,h1,h2⟩:=h
  obtain⟨xs,h3,h4⟩:=Ud t
  exact⟨v::xs,.cons h1 h3,λM H=>.cons (h2 M H) (h4 M H)⟩
theorem T9{a:uN}{od:uL uN}{osl:vY (uL W1)}{its:Gc W1}{n:Nat}{ds:Gc D}(l:K.lookup a=Fk ⟨.type "tuple",od,.seq its.toArray n,osl⟩)(hz:its.length<=sizeLine)(r:Paired (λd u=>IsD K u d) ds its):IsD K (.ref a) (.tup ds):=by
 obtain⟨xs,h1,h2⟩:=Ud r
 exact⟨.ref a,rfl,λM H=>.tup (.inr ⟨_,its.toArray,n,l,rfl,rfl,by simpa using hz,by simpa using h1⟩) (h2 M H)⟩
theorem XZ{x:Str}{u:W1}{d:D}(X:K.In h)(G:h.Ns mainGlobals mg)(e:wc K mainGlobals x=Fk (Fk u))(r:IsD K u d):WC K mg x d:=by
 obtain⟨v,h1,h2⟩:=r
 exact⟨v,u,yT X G e,h1,h2⟩
structure uG(w:vO)(K:Wp)(mg:Str->uL W1)(x:Str)(ns:Gc (Str×Str)):Prop where
 ex:∃a kvs,mg x=Fk (.ref a)/\TopD K w a kvs/\Paired (λ(n:Str×Str) (q:Str×V)=>n.1=q.1/\∃f,q.2=.ref f/\mg n.2=Fk (.ref f)) ns kvs
end
section
variable{X:Cx}{pos:Pos}
end
theorem VG:∀{ys:Gc V} {us:Gc W1},ys.length=us.length->(∀(j:Nat) (y:V) (u:W1),ys[j]?=Fk y->us[j]?=Fk u->RelV y u)->Vals ys us
 | [],[],_,_=>.nil
 |y::ys,u::us,hl,h=>.cons (h 0 y u rfl rfl) (VG (by simpa using hl) λj y u a b=>h (j+1) y u a b)
 | [],_::_,hl,_=>by simp at hl
 |_::_,[],hl,_=>by simp at hl
noncomputable def tLR(ta:TA):TE:=λσ H Q=>ta σ H λvs H1=>∃j:Int,vs=[.int j]/\0<=j/\j<=1000/\∀l,H1 l=uK->Q (.ref l) (upd H1 l (.lst ((uc j.toNat).map λ(i:Nat)=>V.int i)))
theorem oC{X:Cx}{a:uu}{ta:TA}{p p' pos pos':Pos}(hc:X.calm=true)(hgl:Gl X "list")(hml:X.mg "list"=uK)(hg:Gl X "range")(hm:X.mg "range"=uK)(ha:PA X [a] ta)(hs:uo [a] X.env=[(false,eval a X.env)]:=by rfl)(hs2:uo [Expr.Call (.Name "range" p) [a] [] pos] X.env=[(false,eval (.Call (.Name "range" p) [a] [] pos) X.env)]:=by rfl):PE X (.Call (.Name "list" p') [.Call (.Name "range" p) [a] [] pos] [] pos') (tLR ta):=by
 intro pins s σ H Q I h
 refine wB (Mn I hgl hml xo ?_ (by decide) (by decide))
 refine wW ?_ hs2 rfl
 rw[hs2]
 show wpAny _ _ (spliced ((false,eval (.Call (.Name "range" p) [a] [] pos) X.env)::backTo pos' [])) _ _ s
 refine yf ?_
 refine wB (Mn I hg hm PyProof.Rows.boot_range ?_ (by decide) (by decide))
 refine wW (thn (ha pos pins s σ H _ I h) λus s1 ⟨vs,H1,I1,r1,q1⟩=>?_) hs rfl
 obtain⟨j,e,j0,j1,q⟩:=q1
 subst e
 cases r1 with
 |cons r rr=>
  cases rr
  obtain⟨t,rfl⟩:=r
  refine call_range_1 (yw ?_)
  have hz:j.toNat<=2^24:=by lia
  refine call_list_range (n:=j.toNat) (I1.ok.hd hc) (IsRange.new ..) (small_one (by lia) (by lia) (by lia) (by lia)) (by rw[rangeSize_one];split<;>lia) hz λh' tk acc' c' hk hS' hacc=>?_
  have kp:∀b o,s1.heap.get? b=Fk o->h'.get? b=Fk o:=λb o e=>hk b o (uJ _ e)
  have le:s1.heap.objs.size<=(s1.heap.push {cls:=.type "range",data:=.fields #[.int 0 s1.toks,.int j t,.int 1 (s1.toks+1)]}).objs.size:=by rw[wC];exact Nat.le_succ _
  have rv:Vals ((uc j.toNat).map λ(i:Nat)=>V.int i) acc'.toList:=VG (by simp[hacc.1]) λi y u hy hu=>by
   have hi:i<j.toNat:=by
    have:=(uU.mp hy).1
    simpa using this
   rw[uY,yO hi]at hy
   cases hy
   obtain⟨tk',rfl⟩:=hacc.2 i u (by simpa using hu)
   exact⟨tk',by simp⟩
  refine⟨.ref _,_,I1.laid (t':=tk) (o:=.lst ((uc j.toNat).map λ(i:Nat)=>V.int i)) kp le ⟨by rw[vT,yl];exact hz,acc'.toList,c',rv,by simpa using hS'⟩,rfl,q _ (I1.hok.fresh le)⟩
noncomputable def lrK(cf:vL)(r:D×Sto):uL (D×Sto):=match r.1 with
 | .int j=>if(decide (0<=j) && decide (j<=1000))=true then fin cf (.own (KH 0 j.toNat)) r.2 else uK
 |_=>uK
noncomputable def oD(cf:vL)(o:Ev):Ev:=λE S=>(o E S).bind (lrK cf)
abbrev eLR:=oD false
theorem pv{X:Cx}{a:uu}{o:Ev}{cf:vL}{p p' pos pos':Pos}(hc:X.calm=true)(hgl:Gl X "list")(hml:X.mg "list"=uK)(hg:Gl X "range")(hm:X.mg "range"=uK)(ha:DEs X [a] [o])(hs:uo [a] X.env=[(false,eval a X.env)]:=by rfl)(hs2:uo [Expr.Call (.Name "range" p) [a] [] pos] X.env=[(false,eval (.Call (.Name "range" p) [a] [] pos) X.env)]:=by rfl):DE X (.Call (.Name "list" p') [.Call (.Name "range" p) [a] [] pos] [] pos') (oD cf o):=⟨
 CI (oC hc hgl hml hg hm ha.pe hs hs2) λσ H Q z=>by
  obtain⟨M,E,S,d,S',e,r,st,q⟩:=z
  obtain⟨⟨w,S1⟩,e1,e⟩:=BP e
  have e1':evs [o] E S=Fk ([w],S1):=by
   show(o E S).bind (λr=>(evs [] E r.2).map λq=>(r.1::q.1,q.2))=_
   rw[e1];rfl
  refine Jd e1' r st λvs H1 M1 g1 st1 r1=>?_
  unfold lrK at e
  split at e
  .rename_i j he
   have he:w=.int j:=he
   subst he
   split at e
   .rename_i hk
    rw[ub]at hk
    refine⟨j,VC r1,uf hk.1,uf hk.2,λl hl=>?_⟩
    have rd:A5 X.K M1 H1 ((uc j.toNat).map λ(i:Nat)=>V.int i) (KH 0 j.toNat):=by
     have er:KH 0 j.toNat=(uc j.toNat).map λ(i:Nat)=>D.int i:=by simp[KH]
     rw[er]
     generalize uc j.toNat=xs
     induction xs with
     |nil=>exact .nil
     |cons x xs ih=>exact .cons (.int x) ih
    obtain⟨M2,g2,st2,d2⟩:=(Nw.lst st1.mo hl rd).fin st1 e
    exact q _ _ M2 (g1.trans g2) st2 d2
   .cases e
  .cases e⟩
noncomputable def putD(kvs:Gc (Key×D))(k:Key)(v:D):Gc (Key×D):=
 if(kvs.any λkv=>decide (kv.1=k))=true then kvs.map (λkv=>if kv.1=k then(kv.1,v)else kv)else kvs++[(k,v)]
noncomputable def PD(kvs more:Gc (Key×D)):Gc (Key×D):=more.foldl (λacc kv=>putD acc kv.1 kv.2) kvs
noncomputable def lG:D->uL Key
 | .int i=>Fk (.inl i)
 | .str x=>Fk (.inr x)
 |_=>uK
noncomputable def Zs:vL->Gc (Key×D)->Sto->D×Sto
 |false,es,S=>(.dct es,S)
 |true,es,S=>(.ref S.length,S++[.dct es])
section
variable{K:Wp}{M M':Ms}{H:Hp}{S:Sto}{E:En}{σ:Sg}
theorem DY.any(k:Key):∀{kvs:Gc (Key×V)} {es:Gc (Key×D)},DY K M H kvs es->(kvs.any λkv=>decide (kv.1=k))=es.any λkv=>decide (kv.1=k)
 |_,_,.nil=>rfl
 |_,_,.cons h t=>by rw[xH,xH,DY.any k t]
theorem DY.app:∀{kvs kvs':Gc (Key×V)} {es es':Gc (Key×D)},DY K M H kvs es->DY K M H kvs' es'->DY K M H (kvs++kvs') (es++es')
 |_,_,_,_,.nil,s=>s
 |_,_,_,_,.cons h t,s=>.cons h (DY.app t s)
theorem DY.jH{k:Key}{v:V}{d:D}(r:EI K M H v d):∀{kvs:Gc (Key×V)} {es:Gc (Key×D)},DY K M H kvs es->DY K M H (kvs.map λkv=>if kv.1=k then(kv.1,v)else kv) (es.map λkv=>if kv.1=k then(kv.1,d)else kv)
 |_,_,.nil=>.nil
 |_,_,.cons (k:=k') h t=>by
  rw[uv,uv]
  by_cases e:k'=k
  .rw[vM e,vM e];exact .cons r (DY.jH r t)
  .rw[vP e,vP e];exact .cons h (DY.jH r t)
theorem DY.put{k:Key}{v:V}{d:D}{kvs:Gc (Key×V)}{es:Gc (Key×D)}(r:EI K M H v d)(h:DY K M H kvs es):DY K M H (putK kvs k v) (putD es k d):=by
 unfold putK putD
 rw[h.any k]
 split
 .exact h.jH r
 .exact h.app (.cons r .nil)
theorem DY.merge:∀{more:Gc (Key×V)} {more':Gc (Key×D)} {kvs:Gc (Key×V)} {es:Gc (Key×D)},DY K M H more more'->DY K M H kvs es->DY K M H (Ov kvs more) (PD es more')
 |_,_,_,_,.nil,h=>h
 |_,_,kvs,es,.cons (k:=k) (v:=v) (d:=d) (vs:=vs) (ds:=ds) r t,h=>show DY K M H (Ov (putK kvs k v) vs) (PD (putD es k d) ds)from DY.merge t (h.put r)
theorem iT{v:V}{d:D}{k:Key}(r:EI K M H v d)(e:lG d=Fk k):v=kV k:=by
 cases r<;>cases e<;>rfl
theorem StR.dn(r:StR K M S H){a:uN}(e:H a=uK):StR K ⟨M.cel,a::M.tmp⟩ S (upd H a (.dK []))/\Sp1 M H ⟨M.cel,a::M.tmp⟩ (upd H a (.dK [])):=by
 have k:∀b o,H b=Fk o->upd H a (.dK []) b=Fk o:=JM e
 have na:¬M.mem a:=λz=>r.mo.some z e
 have s1:Sp1 M H ⟨M.cel,a::M.tmp⟩ (upd H a (.dK [])):=⟨r.mo,vp,λb z=>by
  rcases z with z|z
  .exact .inl (.inl z)
  .rcases uQ.mp z with z|z
   .subst z;exact .inr e
   .exact .inl (.inr z),λb o eb _=>k b o eb⟩
 refine⟨⟨λb z=>?_,r.nd,λb hb z=>?_,r.len,λn b c h1 h2=>?_⟩,s1⟩
 .by_cases h:b=a
  .subst h;exact .inr (.inl ⟨[],Bf⟩)
  .rw[An h]
   refine r.mo b ?_
   rcases z with z|z
   .exact .inl z
   .rcases uQ.mp z with z|z
    .exact absurd z h
    .exact .inr z
 .rcases uQ.mp hb with hb|hb
  .subst hb;exact na (.inl z)
  .exact r.nt b hb z
 .have q:=r.cell n b c h1 h2
  cases c with
  |lst ds=>obtain⟨xs,e,rr⟩:=q;exact⟨xs,k _ _ e,rr.step s1⟩
  |dct ds=>obtain⟨xs,e,rr⟩:=q;exact⟨xs,k _ _ e,rr.step s1⟩
  |tab ds=>obtain⟨xs,e,rr⟩:=q;exact⟨xs,k _ _ e,rr.step s1⟩
theorem StR.tP{c t:Gc uN}{a:uN}{kvs:Gc (Key×V)}{es:Gc (Key×D)}(cf:vL)(r:StR K ⟨c,a::t⟩ S H)(nt:a∉t)(rr:DY K ⟨c,a::t⟩ H kvs es):∃c',StR K ⟨c',t⟩ (Zs cf es S).2 (upd H a (.dK kvs))/\EI K ⟨c',t⟩ (upd H a (.dK kvs)) (.ref a) (Zs cf es S).1/\c <+: c'/\(∀b∈c',b∈c\/b=a):=by
 have nc:a∉c:=r.nt a uX
 have hl:c.length=S.length:=r.len
 have ne:∀b∈c,b≠a:=λb hb z=>nc (by rw[<-z];exact hb)
 have kp:∀b o,H b=Fk o->¬Ms.mem ⟨c,a::t⟩ b->upd H a (.dK kvs) b=Fk o:=λb o eb nb=>by rw[An (λz=>nb (.inr (by rw[z];exact uX)))];exact eb
 have old:∀{c':Gc uN},Sp1 ⟨c,a::t⟩ H ⟨c',t⟩ (upd H a (.dK kvs))->∀(n:Nat) (b:uN) (cl:Cl),c[n]?=Fk b->S[n]?=Fk cl->fP K ⟨c',t⟩ (upd H a (.dK kvs)) b cl:=λs1 n b cl h1 h2=>by
  have hb:=ne b (uh h1)
  have q:=r.cell n b cl h1 h2
  cases cl with
  |lst ds=>obtain⟨xs,e,rr⟩:=q;exact⟨xs,by rw[An hb];exact e,rr.step s1⟩
  |dct ds=>obtain⟨xs,e,rr⟩:=q;exact⟨xs,by rw[An hb];exact e,rr.step s1⟩
  |tab ds=>obtain⟨xs,e,rr⟩:=q;exact⟨xs,by rw[An hb];exact e,rr.step s1⟩
 have mo:∀b,Ms.mem ⟨c,t⟩ b\/b=a->(∃xs,upd H a (.dK kvs) b=Fk (.lst xs))\/(∃ks,upd H a (.dK kvs) b=Fk (.dK ks))\/∃ps,upd H a (.dK kvs) b=Fk (.tbl ps):=λb z=>by
  by_cases h:b=a
  .subst h;exact .inr (.inl ⟨kvs,Bf⟩)
  .rw[An h]
   rcases z with z|z
   .exact r.mo b (z.imp id (uR _))
   .exact absurd z h
 cases cf with
 |false=>
  have s1:Sp1 ⟨c,a::t⟩ H ⟨c,t⟩ (upd H a (.dK kvs)):=⟨r.mo,vp,λb z=>.inl (z.imp id (uR _)),kp⟩
  exact⟨c,⟨λb z=>mo b (.inl z),r.nd,λb hb=>r.nt b (uR _ hb),r.len,old s1⟩,.dct Bf (λz=>z.elim nc nt) (rr.step s1),vp,λb z=>.inl z⟩
 |true=>
  have s1:Sp1 ⟨c,a::t⟩ H ⟨c++[a],t⟩ (upd H a (.dK kvs)):=⟨r.mo,xt _ _,λb z=>by
   rcases z with z|z
   .rcases uk.mp z with z|z
    .exact .inl (.inl z)
    .exact .inl (.inr (by rw[uy.mp z];exact uX))
   .exact .inl (.inr (uR _ z)),kp⟩
  refine⟨c++[a],⟨λb z=>mo b ?_,?_,λb hb z=>?_,by simp[Zs,hl],λn b cl h1 h2=>?_⟩,.ref (by rw[<-hl];exact uj),xt _ _,λb z=>?_⟩
  .rcases z with z|z
   .rcases uk.mp z with z|z
    .exact .inl (.inl z)
    .exact .inr (uy.mp z)
   .exact .inl (.inr z)
  .rw[yn]
   refine⟨r.nd,by simp,λx hx y hy z=>?_⟩
   simp at hy;subst hy
   exact nc (by rw[<-z];exact hx)
  .rcases uk.mp z with z|z
   .exact r.nt b (uR _ hb) z
   .rw[uy.mp z]at hb;exact nt hb
  .have h2:(S++[Cl.dct es])[n]?=Fk cl:=h2
   by_cases h:n<S.length
   .rw[uP (by rw[hl];exact h)]at h1
    rw[uP h]at h2
    exact old s1 n b cl h1 h2
   .have hm:n=S.length:=by
     have:=(uU.mp h2).1
     simp at this;lia
    subst hm
    rw[vQ (by rw[hl];exact uV _)]at h1
    rw[vQ (uV _)]at h2
    rw[hl]at h1
    simp at h1 h2
    subst h1 h2
    exact⟨kvs,Bf,rr.step s1⟩
  .rcases uk.mp z with z|z
   .exact .inl z
   .exact .inr (uy.mp z)
noncomputable def evP:Gc (Ev×Ev)->En->Sto->uL (Gc (Key×D)×Sto)
 | [],_,S=>Fk ([],S)
 |(k,v)::r,E,S=>(k E S).bind λa=>(lG a.1).bind λkk=>(v E a.2).bind λb=>(evP r E b.2).map λq=>((kk,b.1)::q.1,q.2)
theorem cU:∀{fs:Gc (Ev×Ev)} {M:Ms} {S:Sto} {es:Gc (Key×D)} {S':Sto} {H:Hp} {Q:Gc (V×V)->Hp->Prop},evP fs E S=Fk (es,S')->EnR K M E σ H->StR K M S H->(∀kvs H' M',Gr M H M' H'->StR K M' S' H'->DY K M' H' kvs es->kvs.length=fs.length->Q (kvs.map λkv=>(kV kv.1,kv.2)) H')->Ux (fs.map λx=>(tD K x.1,tD K x.2)) σ H Q
 | [],M,S,es,S',H,Q,e,r,st,q=>by
   cases e
   exact q [] H M (.refl st.mo) st .nil rfl
 |(fk,fv)::fs,M,S,es,S',H,Q,e,r,st,q=>by
  obtain⟨⟨dk,S1⟩,e1,e⟩:=BP e
  obtain⟨kk,ek,e⟩:=BP e
  obtain⟨⟨dv,S2⟩,e2,e⟩:=BP e
  obtain⟨⟨es',S3⟩,e3,e⟩:=Mf e
  cases e
  refine⟨M,E,S,dk,S1,e1,r,st,λv H1 M1 g1 st1 d1=>?_⟩
  refine⟨M1,E,S1,dv,S2,e2,r.step g1.st,st1,λv2 H2 M2 g2 st2 d2=>?_⟩
  refine cU e3 ((r.step g1.st).step g2.st) st2 λkvs H3 M3 g3 st3 rk hl=>?_
  rw[iT d1 ek]
  exact q ((kk,v2)::kvs) H3 M3 ((g1.trans g2).trans g3) st3 (.cons (d2.step g3.st) rk) (by simp[hl])
end
noncomputable def Wj(cf:vL)(fs:Gc (Ev×Ev)):Ev:=λE S=>(evP fs E S).map λr=>Zs cf (PD [] r.1) r.2
abbrev fG:=Wj false
section
variable{X:Cx}{pos:Pos}
structure DPs(X:Cx)(pos:Pos)(ks:Gc (uL uu))(vs:Gc uu)(fs:Gc (Ev×Ev)):Prop where
 pe:PPs X pos ks vs (fs.map λx=>(tD X.K x.1,tD X.K x.2))
 all:ks.all (·.isSome)=true
 len:ks.length=vs.length
 num:fs.length=vs.length
theorem gg:DPs X pos [] [] []:=⟨fQ,rfl,rfl,rfl⟩
theorem Zj{k v:uu}{ks:Gc (uL uu)}{vs:Gc uu}{fk fv:Ev}{fs:Gc (Ev×Ev)}(hk:DE X k fk)(hv:DE X v fv)(h:DPs X pos ks vs fs):DPs X pos (Fk k::ks) (v::vs) ((fk,fv)::fs):=
 ⟨bM hk.pe hv.pe h.pe,by rw[xG,h.all];rfl,by rw[vR,vR,h.len],by rw[vR,vR,h.num]⟩
theorem eO{K:Wp}{M:Ms}{H:Hp}{S S':Sto}{Q:VK}{cf:vL}{p:uN}{M2:Ms}{H2:Hp}{S2:Sto}{kvs:Gc (Key×V)}{es:Gc (Key×D)}(st:StR K M S H)(hp:H p=uK)(g:Gr ⟨M.cel,p::M.tmp⟩ (upd H p (.dK [])) M2 H2)(st2:StR K M2 S2 H2)(rk:DY K M2 H2 kvs es)(q:∀v H' M',Gr M H M' H'->StR K M' (Zs cf es S2).2 H'->EI K M' H' v (Zs cf es S2).1->Q v H'):Q (.ref p) (upd H2 p (.dK kvs)):=by
 obtain⟨c2,t2⟩:=M2
 have ht:t2=p::M.tmp:=g.tmp
 subst ht
 have np:p∉M.tmp:=λz=>st.mo.some (.inr z) hp
 obtain⟨c',st',rd,pr,sub⟩:=st2.tP cf np rk
 refine q _ _ ⟨c',M.tmp⟩ ⟨st.mo,(show M.cel <+: c2 from g.pre).trans pr,rfl,λb z=>?_,λb o eb nb=>?_,λb eb=>?_⟩ st' rd
 .rcases sub b z with z|z
  .rcases g.fresh b z with z|z
   .exact .inl z
   .right
    by_cases h:b=p
    .rw[h];exact hp
    .rw[An h]at z;exact z
  .right;rw[z];exact hp
 .have h:b≠p:=λz=>by rw[z,hp]at eb;cases eb
  rw[An h]
  exact g.keep b o (by rw[An h];exact eb) nb
 .by_cases h:b=p
  .subst h;rw[Bf];intro z;cases z
  .rw[An h]
   exact g.some b (by rw[An h];exact eb)
theorem iZ{cf:vL}{ks:Gc (uL uu)}{vs:Gc uu}{fs:Gc (Ev×Ev)}(h:DPs X pos ks vs fs)(h0:ks≠[])(h15:ks.length<=15):DE X (.Dict ks vs pos) (Wj cf fs):=⟨
 CI (gk h.pe h.all h.len h0 h15) λσ H Q z=>by
  obtain⟨M,E,S,d,S',e,r,st,q⟩:=z
  obtain⟨⟨es,S2⟩,e1,e⟩:=Mf e
  intro p hp
  obtain⟨st0,s0⟩:=st.dn hp
  refine cU e1 (r.step s0) st0 λkvs H2 M2 g st2 rk hl=>⟨g.keep p _ Bf (st0.nt p uX),kvs,rfl,by rw[hl,h.num,<-h.len];exact h15,?_⟩
  refine eO (cf:=cf) (S':=S') st hp g st2 (rk.merge .nil) ?_
  have e':Zs cf (PD [] es) S2=(d,S'):=e
  rw[e']
  exact q⟩
end
section
variable{X:Cx}{pins:Gc (uN×Obj)}{σ:Sg}{H:Hp}{s:uM}{M:Ms}
end
section
variable{X:Cx}
noncomputable def unlike:St.Kd->St.Kd->vL
 | .lst,.int=>true| .tup,.int=>true| .dct,.int=>true| .dct,.lst=>true| .dct,.tup=>true| .lst,.tup=>true
 |_,_=>false
noncomputable def U5:Op2:=λa b=>if EE (fz a) (fz b)=true then Fk (.val (.bl (deq (fz a) (fz b))))else(kdW a).bind λk=>(kdW b).bind λj=>if unlike k j=true then Fk (.val (.bl false))else uK
theorem XY(hu:X.A.units+100<cLine):OpR X (compareOp .Eq) (rOp X.K U5):=by
 intro pins s σ H x y v u Q I rx ry h
 obtain⟨M,w1,w2,r,e,mo,s1,s2,q⟩:=h
 unfold U5 at e
 split at e
 .rename_i hk
  exact Bo hu pins s σ H x y v u Q I rx ry ⟨M,w1,w2,r,by unfold wEq;rw[vM hk];exact e,mo,s1,s2,q⟩
 .obtain⟨k,e1,e⟩:=BP e
  obtain⟨j,e2,e⟩:=BP e
  split at e
  .rename_i hk
   cases e
   have fin:EP X pins σ Q (.bool false) s:=⟨.bl false,H,I,rfl,q _ _ (.same mo (.bl _))⟩
   have L:∀{w:Wv} {x:V} {v:W1},Sh X.K M H x w->RelV x v->kdW w=Fk .lst->∃a items,v=.ref a/\s.heap.IsList a items:=λ{w} {x} {v} s1 rx e1=>by
    cases w with
    |own ds=>
     obtain⟨a,ys,rfl,h1,_⟩:=s1
     cases (show v=vi a from rx)
     obtain⟨its,_,o,n,h2,h3,h4⟩:=JZ I (.inl h1)
     exact⟨a,_,rfl,o,h2,h3,n,h4⟩
    |val d=>
     have s1':EI X.K M H x d:=s1
     cases s1' with
     |lst h n rr=>
      rename_i a ys ds
      cases (show v=vi a from rx)
      obtain⟨its,_,o,n,h2,h3,h4⟩:=JZ I (.inl h)
      exact⟨a,_,rfl,o,h2,h3,n,h4⟩
     |_=>cases e1
   have T:∀{w:Wv} {x:V} {v:W1},Sh X.K M H x w->RelV x v->kdW w=Fk .tup->∃a items,v=.ref a/\s.heap.IsTuple a items:=λ{w} {x} {v} s1 rx e1=>by
    cases w with
    |own ds=>cases e1
    |val d=>
     have s1':EI X.K M H x d:=s1
     cases s1' with
     |tup h rr=>
      rename_i a ys ds
      cases (show v=vi a from rx)
      obtain⟨its,_,h1,_⟩:=I.tuple h
      exact⟨a,_,rfl,h1⟩
     |_=>cases e1
   have J:∀{w:Wv} {x:V} {v:W1},Sh X.K M H x w->RelV x v->kdW w=Fk .int->∃i t,v=.int i t:=λ{w} {x} {v} s1 rx e1=>by
    cases w with
    |own ds=>cases e1
    |val d=>
     have s1':EI X.K M H x d:=s1
     cases s1' with
     |int i=>obtain⟨t,q⟩:=(show∃t,v=zP i t from rx);exact⟨i,t,q⟩
     |_=>cases e1
   have D:∀{w:Wv} {x:V} {v:W1},Sh X.K M H x w->RelV x v->kdW w=Fk .dct->∃a es ep dd sl,v=.ref a/\s.heap.get? a=Fk (Ot (.dict es ep) dd sl):=λ{w} {x} {v} s1 rx e1=>by
    cases w with
    |own ds=>cases e1
    |val d=>
     have s1':EI X.K M H x d:=s1
     cases s1' with
     |dct h n rr=>
      rename_i a kvs es
      cases (show v=vi a from rx)
      obtain⟨_,_,vs,_,p⟩:=(show ES X.prog X.w H s.heap a (.dK kvs)from I.hok a _ h)
      obtain⟨⟨oc,od,odt,osl⟩,es,ep,h1,⟨h2,_⟩,h3,_⟩:=p
      simp only at h2 h3
      subst h2 h3
      exact⟨a,es,ep,od,osl,rfl,h1⟩
     |_=>cases e1
   have hu':X.A.units<cLine:=by lia
   unfold unlike at hk
   split at hk
   .obtain⟨a,it,rfl,ha⟩:=L s1 rx e1
    obtain⟨i,t,rfl⟩:=J s2 ry e2
    exact SeqAt.RcAt.list_int i t ha hu' X.prog X.w _ _ fin
   .obtain⟨a,it,rfl,ha⟩:=T s1 rx e1
    obtain⟨i,t,rfl⟩:=J s2 ry e2
    exact SeqAt.RcAt.tuple_int i t ha hu' X.prog X.w _ _ fin
   .obtain⟨a,es,ep,dd,sl,rfl,ha⟩:=D s1 rx e1
    obtain⟨i,t,rfl⟩:=J s2 ry e2
    exact UR i t ha hu' X.prog X.w _ _ fin
   .obtain⟨a,es,ep,dd,sl,rfl,ha⟩:=D s1 rx e1
    obtain⟨b,it,rfl,hb⟩:=L s2 ry e2
    exact Rm ha hb hu' X.prog X.w _ _ fin
   .obtain⟨a,es,ep,dd,sl,rfl,ha⟩:=D s1 rx e1
    obtain⟨b,it,rfl,hb⟩:=T s2 ry e2
    exact RC ha hb hu' X.prog X.w _ _ fin
   .obtain⟨a,it,rfl,ha⟩:=L s1 rx e1
    obtain⟨b,it2,rfl,hb⟩:=T s2 ry e2
    exact SeqAt.RcAt.list_tuple ha hb hu' X.prog X.w _ _ fin
   .cases hk
  .cases e
end
noncomputable def hide(h:vF):Gc uN->vF
 | []=>h
 |a::l=>(hide h l).update a λo=>{o with data:=.freed}
theorem LN{h:vF}:∀{l:Gc uN} {b:uN},b∈l->(hide h l).get? b=uK
 |a::l,b,m=>by
  by_cases e:a=b
  .subst e
   cases q:((hide h l).update a λo=>{o with data:=.freed}).get? a with
   |none=>exact q
   |some o=>
    exfalso
    obtain⟨q1,q2⟩:=Heap.get?_some_iff.mp q
    generalize hide h l=g at q1
    obtain⟨objs,lf⟩:=g
    simp only[Heap.update,Array.getElem?_modify,yi]at q1
    cases r:objs[a]? with
    |none=>rw[r]at q1;cases q1
    |some o'=>rw[r]at q1;cases q1;cases q2
  .unfold hide
   rw[xr _ _ e]
   exact LN ((uQ.mp m).resolve_left λz=>e z.symm)
theorem Nl{h:vF}:∀{l:Gc uN} {b:uN},b∉l->(hide h l).get? b=h.get? b
 | [],_,_=>rfl
 |a::l,b,m=>by
  unfold hide
  rw[xr _ _ λz=>m (by rw[z];exact uX)]
  exact Nl λz=>m (uR _ z)
theorem RH{h:vF}{l:Gc uN}:(hide h l).StaysIn h:=λb o e=>by
 by_cases m:b∈l
 .rw[LN m]at e;cases e
 .rw[Nl m]at e;exact e
theorem Nn{h base:vF}{l:Gc uN}:∀{es:Gc wN},(∀b∈frs es,b∈l)->h.FunFrames base es->h.FunFrames (hide h l) es
 | [],_,_=>trivial
 |env::r,m,hl=>by
  obtain⟨hk,⟨L,o,hf,hn,ho,hd⟩,hr⟩:=hl
  have e:frs (env::r)=L::frs r:=by unfold frs;rw[vB,hf]
  rw[e]at m
  exact⟨hk,⟨L,o,hf,LN (m L uX),ho,hd⟩,Nn (λb z=>m b (uR _ z)) hr⟩
def Tb(old:uN->Prop)(H:Hp)(h:vF)(e:uN)(v:W1):Prop:=
 v=.none\/∃T oT ts,v=.ref T/\T≠e/\h.get? T=Fk oT/\oT.data=.fields ts/\ts[3]?=Fk .none/\H T=uK/\¬old T
structure Fly(old:uN->Prop)(H:Hp)(h:vF)(e C:uN):Prop where
 free:H e=uK
 new:¬old e
 ex:∃oe vs a0 v,h.get? e=Fk oe/\oe.cls=.ref C/\oe.data=.fields vs/\vs[0]?=Fk a0/\vs[1]?=Fk v/\Tb old H h e v
theorem Fly.imp{old old':uN->Prop}{H:Hp}{h:vF}{e C:uN}(f:Fly old H h e C)(m:∀b,old' b->old b):Fly old' H h e C:=by
 obtain⟨oe,vs,a0,v,h1,h2,h3,h4,h5,t⟩:=f.ex
 refine⟨f.free,λz=>f.new (m _ z),oe,vs,a0,v,h1,h2,h3,h4,h5,?_⟩
 rcases t with t|⟨T,oT,ts,t1,t2,t3,t4,t5,t6,t7⟩
 .exact .inl t
 .exact .inr ⟨T,oT,ts,t1,t2,t3,t4,t5,t6,λz=>t7 (m _ z)⟩
structure jd(old:uN->Prop)(H:Hp)(h:vF)(e C:uN):Prop where
 free:H e=uK
 new:¬old e
 ex:∃oe vs a0 T oT ts,h.get? e=Fk oe/\oe.cls=.ref C/\oe.data=.fields vs/\vs[0]?=Fk a0/\vs[1]?=Fk (.ref T)/\T≠e/\h.get? T=Fk oT/\oT.data=.fields ts/\ts[3]?=Fk .none/\H T=uK/\¬old T
theorem jd.fly{old:uN->Prop}{H:Hp}{h:vF}{e C:uN}(f:jd old H h e C):Fly old H h e C:=by
 obtain⟨oe,vs,a0,T,oT,ts,h1,h2,h3,h4,h5,r⟩:=f.ex
 exact⟨f.free,f.new,oe,vs,a0,.ref T,h1,h2,h3,h4,h5,.inr ⟨T,oT,ts,rfl,r⟩⟩
structure Trn(X:Cx)(old:uN->Prop)(H:Hp)(h h':vF)(e C:uN):Prop where
 keep:∀b o,h.get? b=Fk o->b∉frs X.stack->(H b≠uK\/old b\/∀vs,o.data≠.fields vs)->h'.get? b=Fk o
 slot:∀b o,h.get? b=Fk o->(∀vs,o.data≠.fields vs)->∃sl,h'.get? b=Fk {o with slots:=sl}
 fly:jd old H h' e C
theorem ES.there{P:ur}{w:vO}{H:Hp}{h:vF}{a:uN}{o:HO}(x:ES P w H h a o):∃ob,h.get? a=Fk ob:=by
 cases o with
 |lst xs=>obtain⟨_,_,_,_,e⟩:=x;exact⟨_,e⟩
 |tup xs=>obtain⟨_,_,_,ob,e,_⟩:=x;exact⟨_,e⟩
 |dK kvs=>obtain⟨_,_,_,_,o,_,_,e,_⟩:=x;exact⟨_,e⟩
 |dT kvs=>obtain⟨_,_,_,_,o,_,_,e,_⟩:=x;exact⟨_,e⟩
 |set S n=>obtain⟨o,_,_,_,e,_⟩:=x;exact⟨_,e⟩
 |ins C dx fs=>obtain⟨_,_,_,e,_⟩:=x;exact⟨_,e⟩
 |own y=>obtain⟨_,e⟩:=x;exact⟨_,e⟩
 |xd fs=>obtain⟨_,⟨_,_,_,e,_⟩,_⟩:=x;exact⟨_,e⟩
 |rng lo hi=>obtain⟨_,_,_,e⟩:=x;exact⟨_,e⟩
 |frz ob u=>obtain⟨e,_⟩:=x;exact⟨_,e⟩
 |tbl ps=>exact⟨_,(show h.get? a=Fk _ from x)⟩
 |met f y=>exact⟨_,(show h.get? a=Fk _ from x)⟩
 |ext φ=>obtain⟨_,⟨_,e⟩,_⟩:=x;exact⟨_,e⟩
section
variable{X:Cx}{pins:Gc (uN×Obj)}{σ:St}{H:Hp}{s:uM}{old:uN->Prop}{e C:uN}{Q:Unit->uM->Prop}{E:W1->uM->Prop}{A:vN}
theorem VA{M:Model}(I:Inv X pins σ H s)(f:Fly old H s.heap e C)(ho:∀b,old b->s.heap.get? b≠uK){a0 fl:W1}{h':vF}(l:Gc uN)(hl:∀b∈l,b∈frs X.stack\/(b=e\/(H b=uK/\¬old b/\∃o us,s.heap.get? b=Fk o/\o.data=.fields us)))  (hN:Heap.NotedW (hide s.heap l) X.stack e (.ref C) a0 fl s.heap h')(hQ:∀h',Trn X old H s.heap h' e C->Q () {s with heap:=h'}):wpAny M A (setFlight (.ref e) uK) Q E {s with heap:=h'}:=by
 have st:=I.stack
 obtain⟨oe,vs,_,v,h1,h2,h3,h4,h5,t⟩:=f.ex
 have frD:∀b∈frs X.stack,∃o,s.heap.get? b=Fk o/\∀vs,o.data≠.fields vs:=λb m=>(st.mem m).2
 obtain⟨n1,n2,n3,n4⟩:=hN
 refine wpAny_setFlight_noneW (base:=hide s.heap l) (l:=X.stack) (cls:=.ref C) (a0:=a0) (fl:=fl) n1 n2 n3 λh2' m1 m2 m3 m4=>?_
 have slot:∀b o,s.heap.get? b=Fk o->(∀vs,o.data≠.fields vs)->∃sl,h2'.get? b=Fk {o with slots:=sl}:=λb o e1 e2=>by
  obtain⟨sl,q⟩:=n4 b o e1 e2
  exact⟨sl,m4 b _ q e2⟩
 refine hQ h2' ⟨λb o e1 e2 e3=>?_,slot,f.free,f.new,?_⟩
 .have nl:b∉l:=λz=>by
   rcases hl b z with z|z|⟨z1,z2,o',us,z3,z4⟩
   .exact e2 z
   .subst z
    rw[h1]at e1;cases e1
    rcases e3 with e3|e3|e3
    .exact e3 f.free
    .exact f.new e3
    .exact e3 _ h3
   .rw[z3]at e1;cases e1
    rcases e3 with e3|e3|e3
    .exact e3 z1
    .exact z2 e3
    .exact e3 _ z4
  exact m1 b o (by rw[Nl nl];exact e1)
 .obtain⟨oe2,vs2,T,oT,ts,k1,⟨k2,k3⟩,k4,k5,k6,k7,k8,k9,k10⟩:=m3
  refine⟨oe2,vs2,a0,T,oT,ts,k1,k2,k4,k3,k5,k7,k8,k9,k10,?_⟩
  by_cases hT:T∈l
  .rcases hl T hT with z|z|z
   .exfalso
    obtain⟨o,e1,e2⟩:=frD T z
    obtain⟨sl,q⟩:=slot T o e1 e2
    rw[k8]at q;cases q
    exact e2 _ k9
   .exact absurd z k7
   .exact⟨z.1,z.2.1⟩
  .rw[Nl hT]at k6
   refine⟨?_,λz=>ho T z k6⟩
   cases q:H T with
   |none=>rfl
   |some o=>
    obtain⟨ob,z⟩:=ES.there (I.hok T o q)
    rw[k6]at z;cases z
theorem Q5{M:Model}(I:Inv X pins σ H s)(hA:A.frames=Fk X.stack)(hst:X.stack=X.env::X.outer)(hf:X.env.frame=Fk X.env.locals)(f:Fly old H s.heap e C)(ho:∀b,old b->s.heap.get? b≠uK)(hQ:∀h',Trn X old H s.heap h' e C->Q () {s with heap:=h'}):wpAny M A (noteFrame (.ref e) X.env) (λ_ s2=>wpAny M A (setFlight (.ref e) uK) Q E s2) E s:=by
 have st:=I.stack
 obtain⟨oe,vs,a0,v,h1,h2,h3,h4,h5,t⟩:=f.ex
 have fin:=λ(l:Gc uN) hl h' (hN:Heap.NotedW (hide s.heap l) X.stack e (.ref C) a0 (rawInt X.env.locals) s.heap h')=>VA (M:=M) (A:=A) (E:=E) (Q:=Q) I f ho l hl hN hQ
 have hfr:A.frames=Fk (X.env::X.outer):=by rw[hA,hst]
 rw[hst]at fin st
 rcases t with t|⟨T,oT,ts,t1,t2,t3,t4,t5,t6,t7⟩
 .subst t
  have hh:∀b∈frs (X.env::X.outer),b∈e::frs (X.env::X.outer):=λb m=>uR _ m
  unfold noteFrame
  simp only[hf]
  refine uI (wM h1 h3 h5 ?_)
  rw[vP (by decide)]
  refine wpAny_entryW (base:=hide s.heap (e::frs (X.env::X.outer))) hfr (Nn hh st) hf h1 RH (LN uX) h3 (Array.getElem?_eq_some_iff.mp h5).1 h4 λh' hN=>?_
  rw[h2]at hN
  exact fin _ (λb m=>(uQ.mp m).elim (λz=>.inr (.inl z)) λz=>.inl z) h' hN
 .subst t1
  have hh:∀b∈frs (X.env::X.outer),b∈e::T::frs (X.env::X.outer):=λb m=>uR _ (uR _ m)
  refine wpAny_noteFrame_onW (base:=hide s.heap (e::T::frs (X.env::X.outer))) (cls:=.ref C) (a0:=a0) hfr (Nn hh st) hf ?_ RH (LN uX) λh' hN=>?_
  .exact⟨oe,vs,T,oT,ts,h1,⟨h2,h4⟩,h3,h5,LN (uR _ uX),t2,t3,t4,t5⟩
  .refine fin _ (λb m=>?_) h' hN
   rcases uQ.mp m with z|m
   .exact .inr (.inl z)
   .rcases uQ.mp m with z|m
    .subst z
     exact .inr (.inr ⟨t6,t7,oT,ts,t3,t4⟩)
    .exact .inl m
end
def iJ(X:Cx)(pins:Gc (uN×Obj))(b:uN):Prop:=X.s₀.heap.get? b≠uK\/∃p∈X.pn++pins,p.1=b
section
variable{X:Cx}{pins:Gc (uN×Obj)}{σ:St}{H:Hp}{s:uM}{old:uN->Prop}{e C:uN}{h':vF}
theorem YF(hst:X.stack=X.env::X.outer)(hf:X.env.frame=Fk X.env.locals):frs X.stack=X.env.locals::X.fs:=by
 rw[hst];unfold frs Cx.fs frs;rw[vB,hf]
theorem Ha(I:Inv X pins σ H s)(hx:X.ex=[]):∀b,iJ X pins b->s.heap.get? b≠none:=λb z=>by
 rcases z with z|⟨p,m,rfl⟩
 .cases q:X.s₀.heap.get? b with
  |none=>exact absurd q z
  |some o=>
   obtain⟨o',e'⟩:=I.base.there b o q (by rw[hx];exact λz=>nomatch z)
   rw[e'];exact λz=>nomatch z
 .rw[(I.pin p m).1];exact λz=>nomatch z
theorem UP(I:Inv X pins σ H s)(t:Trn X old H s.heap h' e C):HOk X.prog X.w H h':=λa o q=>by
 refine(I.hok a o q).Yv (λb u hb e1=>?_) (λ_ z=>z) λ_ _ z=>z
 have hn:H b≠none:=by
  rcases hb with z|z
  .subst z;rw[q];exact λz=>nomatch z
  .rw[z];exact λz=>nomatch z
 exact t.keep b u e1 (λz=>hn (I.T7 b z)) (.inl hn)
theorem Xd(I:Inv X pins σ H s)(hst:X.stack=X.env::X.outer)(hf:X.env.frame=Fk X.env.locals)(hx:X.ex=[])(t:Trn X (iJ X pins) H s.heap h' e C):Un X.fs X.ex X.H₀ H X.s₀.heap h':=by
 have hs:=YF hst hf
 have nL:∀b o,X.s₀.heap.get? b=Fk o->b≠X.env.locals:=λb o e1=>vK (uO (ui e1) I.ok.above)
 have od:∀b o,X.s₀.heap.get? b=Fk o->iJ X pins b:=λb o e1=>.inl (by rw[e1];exact λz=>nomatch z)
 have fd:∀b o,b∈X.fs->X.s₀.heap.get? b=Fk o->∀vs,o.data≠.fields vs:=λb o hb e1 vs=>by
  obtain⟨_,o',e2,q⟩:=I.ok.VP.mem hb
  rw[e1]at e2;cases e2
  exact q vs
 refine⟨λb o e1 n hb hx'=>?_,λb o e1 n hb hx'=>?_,I.base.free,λb o e1 hx'=>?_,I.base.aL,I.base.W0,I.base.Yz⟩
 .refine t.keep b o (I.base.keep b o e1 n hb hx') (λz=>?_) (.inr (.inl (od b o e1)))
  rw[hs]at z
  exact(uQ.mp z).elim (nL b o e1) hb
 .obtain⟨sl,q⟩:=I.base.slot b o e1 n hb hx'
  obtain⟨sl',q'⟩:=t.slot b _ q (fd b o hb e1)
  exact⟨sl',q'⟩
 .obtain⟨o',q⟩:=I.base.there b o e1 hx'
  by_cases hb:b∈frs X.stack
  .obtain⟨_,o2,q2,d⟩:=I.stack.mem hb
   obtain⟨sl,z⟩:=t.slot b o2 q2 d
   exact⟨_,z⟩
  .exact⟨o',t.keep b o' q hb (.inr (.inl (od b o e1)))⟩
theorem XJ(I:Inv X pins σ H s)(hst:X.stack=X.env::X.outer)(hf:X.env.frame=Fk X.env.locals)(hx:X.ex=[])(t:Trn X (iJ X pins) H s.heap h' e C):Inv X pins σ H {s with heap:=h'}:=by
 have hs:=YF hst hf
 have cl:∀c v,s.heap.IsCell c v->h'.IsCell c v:=λc v ⟨o,ho,hd⟩=>by
  obtain⟨sl,q⟩:=t.slot c o ho λvs z=>by rw[hd]at z;cases z
  exact⟨_,q,hd⟩
 refine⟨I.ok,I.os,I.bare,Xd I hst hf hx t,?_,λx c e1=>?_,I.free,I.MN,λp m=>?_,UP I t,I.len⟩
 .obtain⟨m,hn,hl⟩:=I.loc
  refine⟨m,Heap.UpToSlots.ns (λb o e1 e2=>t.slot b o e1 e2) hn,λi x v e1 e2 e3=>?_⟩
  obtain⟨u,r,l⟩:=hl i x v e1 e2 e3
  refine⟨u,r,?_⟩
  rcases l with l|⟨k,c,e4,z⟩
  .exact .inl l
  .exact .inr ⟨k,c,e4,cl c _ z⟩
 .obtain⟨v,z⟩:=I.cell x c e1
  exact⟨v,cl c v z⟩
 .obtain⟨p1,p2,p3,p4,p5⟩:=I.pin p m
  refine⟨t.keep _ _ p1 (λz=>?_) (.inr (.inl (.inr ⟨p,m,rfl⟩))),p2,p3,p4,p5⟩
  rw[hs]at z
  exact(uQ.mp z).elim p3 p4
end
abbrev Rk:=uN->St->Hp->Prop
abbrev TR:=St->Hp->Rk->Prop
def XP(X:Cx)(pins:Gc (uN×Obj))(Z:Rk)(ev:W1)(s':uM):Prop:=∃e C σ' H',ev=.ref e/\Inv X pins σ' H' s'/\Z C σ' H'/\Fly (iJ X pins) H' s'.heap e C
def PX(X:Cx)(st:vJ)(t:TR):Prop:=∀(pins:Gc (uN×Obj)) (s:uM) (σ:St) (H:Hp) (Z:Rk),Inv X pins σ H s->t σ H Z->wpAny (model X.prog X.w) X.A (exec st X.env) (λ_ _=>xB) (XP X pins Z) s
def PXs(X:Cx)(sts:Gc vJ)(t:TR):Prop:=∀(pins:Gc (uN×Obj)) (s:uM) (σ:St) (H:Hp) (Z:Rk),Inv X pins σ H s->t σ H Z->wpAny (model X.prog X.w) X.A (execs sts X.env) (λ_ _=>xB) (XP X pins Z) s
def PXe(X:Cx)(e:uu)(t:TR):Prop:=∀(pins:Gc (uN×Obj)) (s:uM) (σ:St) (H:Hp) (Z:Rk),Inv X pins σ H s->t σ H Z->wpAny (model X.prog X.w) X.A (eval e X.env) (λ_ _=>xB) (XP X pins Z) s
noncomputable def CXr(P:ur)(w:vO):CXT:=λouter H s E ev s'=>∃e C H',ev=.ref e/\s'.os=s.os/\yZ s'.gens/\Un (frs outer) [] H H' s.heap s'.heap/\HOk P w H' s'.heap/\Fly (λb=>s.heap.get? b≠uK) H' s'.heap e C/\E (.ref C) uK H'
theorem ZV{P:ur}{w:vO}{K:Wp}{mg:Str->uL W1}{base:vF}{N:Gc Str}{qual:Str}{scope:vx}{f:uN}{cd:W1}{A:vN}{outer:Gc wN}{s:uM}{H:Hp}{E:XK}{pins:Gc (uN×Obj)}{Z:Rk}{ev:W1}{s':uM}(h:XP (M9 (CXr P w) P w K mg base N qual scope f cd A outer s H E).nox pins Z ev s')(hZ:∀C σ' H',Z C σ' H'->E (.ref C) uK H'):(M9 (CXr P w) P w K mg base N qual scope f cd A outer s H E).xe ev s':=by
 obtain⟨e,C,σ',H',rfl,I,z,fl⟩:=h
 show wpAny _ _ (leaving _ (.ref e)) _ _ s'
 unfold leaving
 refine uI (Q5 I I.ok.frames rfl rfl fl (Ha I rfl) λh' t=>?_)
 exact⟨e,C,H',rfl,I.os,I.bare,Xd I rfl rfl rfl t,UP I t,t.fly.fly.imp λb z=>.inl z,hZ _ _ _ z⟩
abbrev Rx:=En->Sto->uL (Str×En×Sto)
abbrev Rf:=Gc D->Sto->uL (Str×Sto)
noncomputable def tR(K:Wp)(mg:Str->uL W1)(r:Rx):TR:=λσ H Z=>∃M E S x E' S',r E S=Fk (x,E',S')/\EnR K M E σ H/\StR K M S H/\∀C σ' H' M',mg x=Fk (.ref C)->Gr M H M' H'->EnR K M' E' σ' H'->StR K M' S' H'->Z C σ' H'
structure RS(X:Cx)(st:vJ)(r:Rx):Prop where
 pe:PX X st (tR X.K X.mg r)
structure RSs(X:Cx)(st:Gc vJ)(r:Rx):Prop where
 pe:PXs X st (tR X.K X.mg r)
structure RE(X:Cx)(e:uu)(r:Rx):Prop where
 pe:PXe X e (tR X.K X.mg r)
noncomputable def spR(K:Wp)(mg:Str->uL W1)(np:Nat)(R:Rf):Sp:=λvs H _ E=>∃M ds S x S',ds.length=np/\R ds S=Fk (x,S')/\A5 K M H vs ds/\StR K M S H/\∀C H' M',mg x=Fk (.ref C)->Gr M H M' H'->StR K M' S' H'->E (.ref C) uK H'
noncomputable def Vi(N:Nat)(r:Rx):Rf:=λds S=>(r (ds.map Fk++um (N-ds.length) uK) S).map λq=>(q.1,q.2.2)
structure iH(P:ur)(w:vO)(K:Wp)(mg:Str->uL W1)(base:vF)(x:Str)(k:Nat)(ps:Gc Str)(sp:Sp):Prop where
 ex:∃f fd,mg x=Fk (.ref f)/\wy K (.ref f)=true/\Binds K fd ps []/\VN P w K mg base (CXr P w) k f fd ps sp
section
variable{P:ur}{w:vO}{K:Wp}{mg:Str->uL W1}{base:vF}
theorem kR{x:Str}{st:vJ}{f:uN}{fd:wY}{N ps:Gc Str}{k np:Nat}{r:Rx}(Fu:Fun K x x st f fd)(S:AQ N ps (AH st))(hp:ps.length=np)(hb:∀(cdv:W1) (A:vN) (outer:Gc wN) (s:uM) (H:Hp) (E:XK),IB k (A.deeper (ve x (AH st) s.heap.objs.size f cdv))->RSs (M9 CX0 P w K mg base N x (AH st) f cdv A outer s H E).nox (DJ st) r):VN P w K mg base (CXr P w) (k+1) f fd ps (spR K mg np (Ar (Vi N.length r))):=by
 rw[Jt]
 obtain⟨oc,od,kV,doc,pm,an,cdv,ct,osl,rfl,lk,hcd⟩:=Fu.ex
 refine gn lk hcd S (λvs H Q E h=>?_) λA outer s H vs Q E hr h=>?_
 .obtain⟨M,ds,S0,d,S',hl,_,r,_⟩:=h
  have:=r.length
  omega
 .obtain⟨M,ds,S0,y,S',hl,e,rr,st,q⟩:=h
  have hlen:=rr.length
  refine⟨λ_ σ H=>tR K mg r σ H λC _ H'=>E (.ref C) uK H',λpins s1 σ1 H1 D I h=>?_,?_⟩
  .exact wK ((hb cdv A outer s H E hr).pe pins s1 σ1 H1 _ (I.WG _) h) (λ_ _ z=>z.elim) λev s' z=>ZV z λ_ _ _ z=>z
  .obtain⟨⟨y',E',S1⟩,e1,e⟩:=Mf e
   cases e
   refine⟨M,_,S0,y',E',S1,e1,?_,st,λC σ' H' M' hm g _ st'=>q C H' M' hm g st'⟩
   rw[show L2.start N vs=vs.map Fk++um (N.length-ds.length) uK from by unfold L2.start;rw[hlen]]
   exact .args rr _
theorem Qc{x:Str}{st:vJ}{N ps:Gc Str}{k np:Nat}{r:Rx}(S:St.Src K mg x st)(sc:AQ N ps (AH st))(hp:ps.length=np)(hbi:∀f fd,Fun K x x st f fd->Binds K fd ps [])(hb:∀(f:uN) (cdv:W1) (A:vN) (outer:Gc wN) (s:uM) (H:Hp) (E:XK),IB k (A.deeper (ve x (AH st) s.heap.objs.size f cdv))->RSs (M9 CX0 P w K mg base N x (AH st) f cdv A outer s H E).nox (DJ st) r):iH P w K mg base x (k+1) ps (spR K mg np (Ar (Vi N.length r))):=by
 obtain⟨f,fd,Fu,hm⟩:=S.ex
 exact⟨f,fd,hm,Fu.kp,hbi f fd Fu,kR Fu sc hp λcdv A outer s H E hr=>hb f cdv A outer s H E hr⟩
end
theorem Jw{X:Cx}{α:Type}{M:Model}{A:vN}{t:Sem α}{Q Q':α->uM->Prop}{E:W1->uM->Prop}{s:uM}(hn:X.xe=λ_ _=>xB)(h:wpAny M A t Q X.xe s)(hQ:∀a s,Q a s->Q' a s):wpAny M A t Q' E s:=
 wK h hQ λ_ _ z=>by rw[hn]at z;exact z.elim
noncomputable def Gj(R:Rf)(fs:Gc Ev):Rx:=λE S=>(evs fs E S).bind λq=>(R q.1 q.2).map λz=>(z.1,E,z.2)
theorem MY{X:Cx}{k np:Nat}{x:Str}{ps:Gc Str}{R:Rf}{e:uu}{es:Gc uu}{fs:Gc Ev}{p pos:Pos}(d:iH X.prog X.w X.K X.mg X.base x k ps (spR X.K X.mg np R))(hr:IB k X.A)(hg:Gl X x)(ha:DEs X (e::es) fs)(hn:fs.length=np:=by rfl)(hxe:X.xe=λ_ _=>xB:=by rfl)(hx:X.ex=[]:=by rfl)(hdb:(x==("__debug__":Str))=false:=by decide)(he:uo (e::es) X.env=(false,eval e X.env)::uo es X.env:=by rfl)(hpl:(backTo pos (uo es X.env)).any (·.1)=false:=by rfl):RE X (.Call (.Name x p) (e::es) [] pos) (Gj R fs):=⟨by
 intro pins s σ H Z I h
 obtain⟨f,fd,hm,hk,hb,F⟩:=d.ex
 obtain⟨M,E,S,y,E',S',e0,r,st,q⟩:=h
 obtain⟨⟨ds,S1⟩,e1,e2⟩:=BP e0
 obtain⟨⟨y',S2⟩,e3,e4⟩:=Mf e2
 cases e4
 refine wB (Oa I hg hm ?_ hdb)
 have ha':=ha.pe pos pins s σ H (λvs H1=>∃M1,Gr M H M1 H1/\StR X.K M1 S1 H1/\A5 X.K M1 H1 vs ds) I (Jd e1 r st λvs H1 M1 g1 st1 r1=>⟨M1,g1,st1,r1⟩)
 refine zU (h₀:=X.base) I.ok.mod.kin hk (Jw hxe ha' λus s1 ⟨vs,H1,I1,rv,M1,g1,st1,r1⟩=>⟨I1.kIn,?_⟩) he hpl
 have sp:spR X.K X.mg np R vs H1 (λ_ _=>xB) (λv _ H'=>∃C,v=.ref C/\Z C σ H'):=
  ⟨M1,ds,S1,y',S2,by rw[Oy e1];exact hn,e3,r1,st1,λC H' M' hc g2 st2=>⟨C,rfl,q C σ H' M' hc (g1.trans g2) ((r.step g1.st).step g2.st) st2⟩⟩
 have hl:(us++[]).length=ps.length:=by rw[wU,<-rv.length];exact F.len _ _ _ _ sp
 have hbs:=hb s1 us I1.kIn hl
 rw[wU]at hbs
 refine AAP (AAQ (F.run X.A X.stack s1 H1 ⟨us,[]⟩ us vs _ _ hr I1.kP hbs rv sp) λrs s' hq=>?_)
 cases rs with
 |error ev=>
  obtain⟨e,C,H',rfl,os,bare,un,hok,fly,C',hC,z⟩:=hq
  cases hC
  exact⟨e,C,σ,H',rfl,I1.fE os un hok bare (λb z=>nomatch z),z,fly.imp λb z=>Ha I1 hx b z⟩
 |ok fl=>
  cases fl with
  |ret u=>
   obtain⟨v,H',_,_,_,_,_,q⟩:=hq
   exact q.elim
  |next=>exact wL hq
  |brk=>exact wL hq
  |cont=>exact wL hq⟩
section
variable{X:Cx}{st:vJ}{rest a b:Gc vJ}{f g:Ex}{r r1 r2:Rx}{c e:uu}{k:Ev}{pos:Pos}
theorem UM(h:RE X e r)(hs:swapsWith e uK pos.line X.env=pure false:=by rfl):RS X (.Expr e pos) r:=⟨λpins s σ H Z I q=>AAu (wK (h.pe pins s σ H Z I q) (λ_ _ z=>z) λ_ _ z=>z) I.quiet hs⟩
noncomputable def rNo:Rx:=λ_ _=>uK
theorem eE:RS X st rNo:=⟨λ_ _ _ _ _ _ z=>by
 obtain⟨M,E,S,x,E',S',e,_⟩:=z
 cases e⟩
theorem UY:RSs X rest rNo:=⟨λ_ _ _ _ _ _ z=>by
 obtain⟨M,E,S,x,E',S',e,_⟩:=z
 cases e⟩
noncomputable def X8(r:Rx)(f:Ex)(r2:Rx):Rx:=λE S=>match r E S with
 |some z=>Fk z
 |none=>(f E S).bind λq=>match q.1 with
  | .nx=>r2 q.2.1 q.2.2
  | .ret _=>uK
theorem Ky(h1:RS X st r)(hb:DS X st f)(h2:RSs X rest r2)(hxe:X.xe=λ_ _=>xB:=by rfl):RSs X (st::rest) (X8 r f r2):=⟨λpins s σ H Z I z=>by
 obtain⟨M,E,S,x,E',S',e,rr,ss,q⟩:=z
 unfold X8 at e
 split at e
 .rename_i z' e1
  cases e
  refine xi (wK (h1.pe pins s σ H Z I ⟨M,E,S,x,E',S',e1,rr,ss,q⟩) (λ_ _ z=>z.elim) λ_ _ z=>z)
 .obtain⟨⟨fl,E1,S1⟩,e1,e⟩:=BP e
  dsimp only at e
  split at e
  .refine xi (Jw hxe (hb.pe pins s σ H {nx:=λσ' H'=>tR X.K X.mg r2 σ' H' Z,rt:=λ_ _=>xB} I ⟨M,E,S,.nx,E1,S1,e1,rr,ss,λσ' H' M' g' r' st'=>⟨M',E1,S1,x,E',S',e,r',st',λC σ2 H2 M2 hm g2=>q C σ2 H2 M2 hm (g'.trans g2)⟩⟩) λfl s1 w=>?_)
   cases fl with
   |next=>
    obtain⟨σ',H',I',q'⟩:=w
    exact h2.pe pins s1 σ' H' Z I' q'
   |ret v=>obtain⟨_,_,_,_,_,q'⟩:=w;exact q'.elim
   |brk=>obtain⟨_,_,_,q'⟩:=w;exact q'.elim
   |cont=>obtain⟨_,_,_,q'⟩:=w;exact q'.elim
  .cases e⟩
theorem Yb(h1:RS X st r):RSs X [st] r:=⟨λpins s σ H Z I z=>xi (wK (h1.pe pins s σ H Z I z) (λ_ _ z=>z.elim) λ_ _ z=>z)⟩
noncomputable def rIf(k:Ev)(r1 r2:Rx):Rx:=λE S=>(k E S).bind λq=>match q.1 with
 | .bl true=>r1 E q.2
 | .bl false=>r2 E q.2
 |_=>uK
theorem pH(hc:DT X c k)(ha:RSs X a r1)(hb:RSs X b r2)(hxe:X.xe=λ_ _=>xB:=by rfl):RS X (.If c a b pos) (rIf k r1 r2):=⟨λpins s σ H Z I z=>by
 obtain⟨M,E,S,x,E',S',e,rr,ss,q⟩:=z
 obtain⟨⟨w1,S1⟩,e1,e⟩:=BP e
 dsimp only at e
 split at e
 .refine wpAny_If (Jw hxe (hc.pe pins s σ H (λd H1=>d=true/\tR X.K X.mg r1 σ H1 Z) I ⟨M,E,S,_,S1,e1,rr,ss,λH1 M1 g1 st1=>⟨rfl,M1,E,S1,x,E',S',e,rr.step g1.st,st1,λC σ2 H2 M2 hm g2=>q C σ2 H2 M2 hm (g1.trans g2)⟩⟩) λd s1 w=>?_)
  obtain⟨H1,I1,rfl,q1⟩:=w
  exact ha.pe pins s1 σ H1 Z I1 q1
 .refine wpAny_If (Jw hxe (hc.pe pins s σ H (λd H1=>d=false/\tR X.K X.mg r2 σ H1 Z) I ⟨M,E,S,_,S1,e1,rr,ss,λH1 M1 g1 st1=>⟨rfl,M1,E,S1,x,E',S',e,rr.step g1.st,st1,λC σ2 H2 M2 hm g2=>q C σ2 H2 M2 hm (g1.trans g2)⟩⟩) λd s1 w=>?_)
  obtain⟨H1,I1,rfl,q1⟩:=w
  exact hb.pe pins s1 σ H1 Z I1 q1
 .cases e⟩
end
abbrev VEm:Gc W1:=[.type "ValueError",.type "Exception",.type "BaseException",.type "object"]
structure XcD(K:Wp)(mg:Str->uL W1)(x:Str):Prop where
 ex:∃C,mg x=Fk (.ref C)/\z7 K C VEm "ValueError.__new__"=true
theorem oZ{K:Wp}{h:vF}{mg:Str->uL W1}{x:Str}{C:uN}(X:K.In h)(G:h.Ns mainGlobals mg)(e:wc K mainGlobals x=Fk (Fk (.ref C)))(q:z7 K C VEm "ValueError.__new__"=true):XcD K mg x:=⟨C,yT X G e,q⟩
theorem hJ{K:Wp}{h:vF}{C:uN}{bmB:Gc W1}{newId:xI}(X:K.In h)(q:z7 K C bmB newId=true):∃bm N nm q bs hdct sn sub ab col dd k0 k1 k2 k3 k5 mN,h.get? C=Fk (excClassObj nm q C N bs bm hdct sn sub ab col dd k0 k1 k2 k3 k5 newId)/\h.Ns N mN/\mN "__init__"=uK/\OwnTail h bmB bm:=by
 unfold z7 at q
 split at q
 case h_2=>cases q
 rename_i dd cd sl ho
 split at q
 case h_2=>cases q
 rename_i C' bm k0 k1 k2 k3 n k5 hm hs
 simp only[ub,ABY,Bool.not_eq_true']at q
 obtain⟨⟨⟨⟨⟨rfl,rfl⟩,hdel⟩,ht⟩,hok⟩,hni⟩:=q
 have hsl:sl= #[k0,k1,k2,k3,Fk (.builtin n),k5]:=Array.toList_inj.mp hs
 obtain⟨nm,bs,mro,ns,qn,hd,sn,sub,ab,col,del⟩:=cd
 dsimp only at hm hdel hok hni
 subst hm hdel hsl
 exact⟨bm,ns,nm,qn,bs,hd,sn,sub,ab,col,dd,k0,k1,k2,k3,k5,_,X _ _ ho,.of_isNs (PySem.W.isNs_of_in X hok),PySem.W.nsMap_none_of_in X hok hni,PySem.W.tail_of_in X ht⟩
noncomputable def VD(x:Str)(fs:Gc Ev):Rx:=λE S=>(evs fs E S).map λq=>(x,E,q.2)
theorem aR{X:Cx}{x:Str}{e:uu}{es:Gc uu}{fs:Gc Ev}{np cpos pos:Pos}(hc:X.calm=true)(xc:XcD X.K X.mg x)(hg:Gl X x)(ha:DEs X (e::es) fs)(hl:fs.length<=sizeLine:=by decide)(hxe:X.xe=λ_ _=>xB:=by rfl)(hx:X.ex=[]:=by rfl)(hdb:(x==("__debug__":Str))=false:=by decide)(he:uo (e::es) X.env=(false,eval e X.env)::uo es X.env:=by rfl)(hpl:(backTo cpos (uo es X.env)).any (·.1)=false:=by rfl):RS X (.Raise (Fk (.Call (.Name x np) (e::es) [] cpos)) uK pos) (VD x fs):=⟨by
 intro pins s σ H Z I h
 obtain⟨C,hm,hex⟩:=xc.ex
 obtain⟨M,E,S,y,E',S',e0,r,st,q⟩:=h
 obtain⟨⟨ds,S1⟩,e1,e2⟩:=Mf e0
 cases e2
 obtain⟨tl,N,nm,qn,bs,hdct,sn,sub,ab,col,dd,k0,k1,k2,k3,k5,mN,hC,hN,hni,T⟩:=hJ I.ok.mod.kin hex
 refine wpAny_Raise_call_subT (C:=C) (nm:=nm) (q:=qn) (N:=N) (bs:=bs) (bm:=tl) (hdct:=hdct) (sn:=sn) (sub:=sub) (ab:=ab) (col:=col) (dd:=dd) (k0:=k0) (k1:=k1) (k2:=k2) (k3:=k3) (k5:=k5)
  AA7 (mN:=mN) (T.hasType AA7.hasBase) (I.ok.hd hc) (by rw[he];show(false||(backTo cpos (uo es X.env)).any (·.1))=false;rw[hpl];rfl) hni (Oa I hg hm ⟨rfl,?_⟩ hdb)
 have ha':=ha.pe cpos pins s σ H (λvs H1=>∃M1,Gr M H M1 H1/\StR X.K M1 S1 H1/\A5 X.K M1 H1 vs ds) I (Jd e1 r st λvs H1 M1 g1 st1 r1=>⟨M1,g1,st1,r1⟩)
 rw[he]at ha'⊢
 refine AAy (Jw hxe ha' λus s1 ⟨vs,H1,I1,rv,M1,g1,st1,r1⟩=>?_)
 refine⟨rfl,by rw[<-rv.length,r1.length,Oy e1];exact hl,I1.bk _ _ hC,hN.keeps I1.bk,T.keeps I1.bk,λh' ea hmd=>?_⟩
 obtain⟨t,w1,w2,w3⟩:=hmd.there
 refine⟨ea,C,σ,H1,rfl,I1.kept (t':=s1.toks) hmd.keeps,q C σ H1 M1 hm g1 (r.step g1.st) st1,?_,λz=>Ha I1 hx _ z hmd.new,_,_,.ref t,.none,w1,rfl,rfl,rfl,rfl,.inl rfl⟩
 cases o:H1 ea with
 |none=>rfl
 |some ho=>
  obtain⟨ob,z⟩:=ES.there (I1.hok ea ho o)
  rw[hmd.new]at z;cases z⟩
abbrev Cx.mrk(X:Cx)(e:uN):Cx:={X with A:=X.A.mark (Fk (.ref e)),calm:=false}
section
variable{X:Cx}{pins:Gc (uN×Obj)}{σ:St}{H:Hp}{s:uM}{e:uN}
theorem kZ(ok:X.Ok):(Cx.mrk X e).Ok:=⟨ok.mod,ok.kind,ok.glob,ok.blt,ok.above,ok.inj,ok.has,ok.cab,(λz=>nomatch z),ok.frames,ok.stk,ok.exf,ok.bs,ok.bsz,ok.cQ,ok.eD,ok.VP,ok.frf⟩
theorem d9(I:Inv X pins σ H s):Inv (Cx.mrk X e) pins σ H s:=⟨kZ I.ok,I.os,I.bare,I.base,I.loc,I.cell,I.free,I.MN,I.pin,I.hok,I.len⟩
theorem L0(ok:X.Ok)(I:Inv (Cx.mrk X e) pins σ H s):Inv X pins σ H s:=⟨ok,I.os,I.bare,I.base,I.loc,I.cell,I.free,I.MN,I.pin,I.hok,I.len⟩
theorem ba{D:Ends}{f:Flow}(ok:X.Ok)(h:SP (Cx.mrk X e) pins D f s):SP X pins D f s:=by
 cases f with
 |next=>obtain⟨σ',H',I,q⟩:=h;exact⟨σ',H',L0 ok I,q⟩
 |brk=>obtain⟨σ',H',I,q⟩:=h;exact⟨σ',H',L0 ok I,q⟩
 |cont=>obtain⟨σ',H',I,q⟩:=h;exact⟨σ',H',L0 ok I,q⟩
 |ret u=>obtain⟨v,σ',H',I,r,q⟩:=h;exact⟨v,σ',H',L0 ok I,r,q⟩
end
structure HS(X:Cx)(hs:Gc wt)(g:Str->Ex):Prop where
 pe:∀(x:Str) (C:uN),X.mg x=Fk (.ref C)->∀(pins:Gc (uN×Obj)) (s:uM) (σ:St) (H:Hp) (D:Ends) (e:uN),Inv X pins σ H s->jd (iJ X pins) H s.heap e C->tX X.K (g x) D σ H->
  wpAny (model X.prog X.w) X.A (handleBy (.ref e) X.env hs) (SP X pins D) (λ_ _=>xB) s
noncomputable def gNo:Str->Ex:=λ_ _ _=>uK
theorem YG{X:Cx}:HS X [] gNo:=⟨λ_ _ _ _ _ _ _ _ _ _ _ z=>by
 obtain⟨M,E,S,fl,E',S',e,_⟩:=z
 cases e⟩
structure XmD(K:Wp)(mg:Str->uL W1)(xs:Gc Str)(y:Str):Prop where
 ex:∃C',mg y=Fk (.ref C')/\∀x∈xs,∀C,mg x=Fk (.ref C)->yG K (.ref C) (.ref C')=Fk (x==y)
noncomputable def gOr(xs:Gc Str)(y:Str)(f:Ex)(g:Str->Ex):Str->Ex:=λx=>if x∈xs then(if(x==y)=true then f else g x)else RV
theorem gq{X:Cx}{pins:Gc (uN×Obj)}{σ:St}{H:Hp}{s:uM}{old:uN->Prop}{e C:uN}{Q:Unit->uM->Prop}{E:W1->uM->Prop}{A:vN}{M:Model}(I:Inv X pins σ H s)(f:jd old H s.heap e C)(ho:∀b,old b->s.heap.get? b≠uK)(hQ:∀h',Trn X old H s.heap h' e C->Q () {s with heap:=h'}):wpAny M A (setFlight (.ref e) uK) Q E s:=by
 obtain⟨oe,vs,a0,T,oT,ts,h1,h2,h3,h4,h5,t2,t3,t4,t5,t6,t7⟩:=f.ex
 have hh:∀b∈frs X.stack,b∈e::T::frs X.stack:=λb m=>uR _ (uR _ m)
 refine VA (s:=s) (h':=s.heap) (a0:=a0) (fl:=.none) I f.fly ho (e::T::frs X.stack) (λb m=>?_) ⟨RH,Nn hh I.stack,?_,λb o e1 _=>⟨o.slots,e1⟩⟩ hQ
 .rcases uQ.mp m with z|m
  .exact .inr (.inl z)
  .rcases uQ.mp m with z|m
   .subst z
    exact .inr (.inr ⟨t6,t7,oT,ts,t3,t4⟩)
   .exact .inl m
 .exact⟨oe,vs,T,oT,ts,h1,⟨h2,h4⟩,h3,h5,LN (uR _ uX),t2,t3,t4,t5⟩
theorem TU{X:Cx}{xs:Gc Str}{y:Str}{b₀:vJ}{suite:Gc vJ}{f:Ex}{g:Str->Ex}{np pos:Pos}{rest:Gc wt}(xm:XmD X.K X.mg xs y)(hg:Gl X y)(hf:∀e,DSs (Cx.mrk X e) (b₀::suite) f)(hr:HS X rest g)(hxe:X.xe=λ_ _=>xB:=by rfl)(hx:X.ex=[]:=by rfl)(hst:X.stack=X.env::X.outer:=by rfl)(hfr:X.env.frame=Fk X.env.locals:=by rfl)(hdb:(y==("__debug__":Str))=false:=by decide):HS X (.ExceptHandler (Fk (.Name y np)) uK (b₀::suite) pos::rest) (gOr xs y f g):=⟨by
 intro x C hm pins s σ H D e I fl z
 obtain⟨C',hm',hex⟩:=xm.ex
 have hin:x∈xs:=by
  by_cases h:x∈xs
  .exact h
  .obtain⟨M,E,S,fl,E',S',e,_⟩:=z
   unfold gOr at e
   rw[vP h]at e
   cases e
 have z':tX X.K (if(x==y)=true then f else g x) D σ H:=by
  unfold gOr at z
  rw[vM hin]at z
  exact z
 have ex:=hex x hin C hm
 obtain⟨oe,vs,a0,T,oT,ts,h1,h2,_⟩:=id fl.ex
 have LT:PySem.W.Looks (model X.prog X.w) s.heap (typeOf (.ref e)) (.ref C):=by
  rw[<-h2];exact(PySem.W.Looks.ld h1).andThen .now
 refine wpAny_handleBy_cons (codeAny_handlers_test (yB I.ok.kind hg (AAB (by rw[I.ok.glob];exact I.mod.glob.keeps I.bk) hm' ?_) hdb)) (by intro q;cases q)
 refine PySem.W.exm_one I.kIn LT ex _ _ _ _ (λ_ _ q=>q) ?_
 cases hb:(x==y)with
 |true=>
  rw[vM hb]at z'
  refine codeAny_handlers_suite (wpAny_passesOwnAt PassesOwnAt.never (gq I fl (Ha I hx) λh' t=>?_))
  have I':=d9 (e:=e) (XJ I hst hfr hx t)
  exact wpAny_passesOwnAt PassesOwnAt.never (Jw (X:=Cx.mrk X e) hxe ((hf e).pe pins _ σ H D I' z') λfl s2 w=>ba I.ok w)
 |false=>
  rw[vP (by rw[hb];decide)]at z'
  exact hr.pe x C hm pins s σ H D e I fl z'⟩
section
variable{X:Cx}{pos:Pos}
end
theorem pk{K:Wp}{h:vF}{mg:Str->uL W1}{xs:Gc Str}{y:Str}{C':uN}(X:K.In h)(G:h.Ns mainGlobals mg)(e:wc K mainGlobals y=Fk (Fk (.ref C')))(t:∀x∈xs,∃C,wc K mainGlobals x=Fk (Fk (.ref C))/\yG K (.ref C) (.ref C')=Fk (x==y)):XmD K mg xs y:=⟨C',yT X G e,λx hx C hm=>by
 obtain⟨C2,e2,q⟩:=t x hx
 have:=hm.symm.trans (yT X G e2)
 cases this
 exact q⟩
theorem all_nil{p:Str->Prop}:∀x∈([]:Gc Str),p x:=λ_ z=>nomatch z
theorem all_cons{p:Str->Prop}{x:Str}{xs:Gc Str}(h:p x)(t:∀x∈xs,p x):∀y∈x::xs,p y:=λy m=>by
 rcases uQ.mp m with rfl|m
 .exact h
 .exact t y m
end Mi
end
noncomputable section
namespace Mi
open PySem PySem.Spec L2 PyProof.Rows
abbrev eIx(a b:Ev):Ev:=eOp (o2 wIx) [a,b]
abbrev eI(n:Int):Ev:=eC (.int n)
theorem scM{N P:Gc Str}{sc:vx}(a:sc.kind=.function:=by rfl)(b:sc.isCoroutine=false:=by rfl)(c:sc.isGenerator=false:=by rfl)(d:N.Nodup:=by decide+kernel)(e:N.take P.length=P:=by rfl)(f:∀x∈P,sc.names.lookup x=Fk .local\/sc.names.lookup x=Fk .cell:=by decide+kernel)(g:∀y∈sc.names,y.2≠.free:=by decide+kernel):AQ N P sc:=⟨a,b,c,d,e,f,g⟩
theorem csM{N:Gc Str}{osc:vx}{N':Gc Str}{ix:Gc (uL Nat)}{scope:vx}(a:scope.kind=.function:=by rfl)(b:∀y∈scope.names,y.2=.cell->scope.names.lookup y.1=Fk .cell:=by decide+kernel)(c:∀y∈scope.names,y.2=.local->scope.names.lookup y.1=Fk .local:=by decide+kernel)(d:∀y∈scope.names,y.2=.free->(osc.names.lookup y.1=Fk .cell\/osc.names.lookup y.1=Fk .free):=by decide+kernel)(e:VR N osc scope N' ix=true:=by decide+kernel):Af N osc N' ix scope:=⟨a,b,c,d,e⟩
theorem YZ{α:Type}{us:Gc α}(h:us.length=1):∃a,us=[a]:=by
 match us,h with
 | [a],_=>exact⟨a,rfl⟩
theorem iE{α:Type}{us:Gc α}(h:us.length=2):∃a b,us=[a,b]:=by
 match us,h with
 | [a,b],_=>exact⟨a,b,rfl⟩
theorem qU{α:Type}{us:Gc α}(h:us.length=3):∃a b c,us=[a,b,c]:=by
 match us,h with
 | [a,b,c],_=>exact⟨a,b,c,rfl⟩
theorem rL{us:Gc W1}{n:Nat}(h:us.length=n):∃f:Nat->W1,us=(uc n).map f:=by
 refine⟨λi=>us.getD i .none,?_⟩
 subst h
 apply List.ext_getElem
 .simp
 .intro i h1 h2
  rw[List.getElem_map,zk,uT,tz h1];rfl
def BnR(x:Str)(st:vJ)(ps:Gc Str):Prop:=∀(kV doc pm:W1) (an:uL uN) (cdv ct:W1) (f:Nat->W1),bindArgs (xq x x (MS st) (DJ st) (AH st) .none kV doc pm an cdv ct) ⟨(uc ps.length).map f,[]⟩=pure (ps.zip ((uc ps.length).map f))
theorem bnR{K:Wp}{x:Str}{st:vJ}{ps:Gc Str}{f:uN}{fd:wY}(F:Fun K x x st f fd)(h:BnR x st ps):Binds K fd ps []:=F.binds λa b c d e g us hl=>by
 obtain⟨k,rfl⟩:=rL hl
 exact h a b c d e g k
section
variable{P:ur}{w:vO}{K:Wp}{mg:Str->uL W1}{base:vF}
theorem dfM{x:Str}{st:vJ}{N ps:Gc Str}(k:Nat){np:Nat}{b:Ex}(S:St.Src K mg x st)(sc:AQ N ps (AH st))(hb:∀{f:uN} {cdv:W1} {A:vN} {outer:Gc wN} {s:uM} {H:Hp} {E:XK},IB k (A.deeper (ve x (AH st) s.heap.objs.size f cdv))->(A.deeper (ve x (AH st) s.heap.objs.size f cdv)).units+100<cLine->DSs (M9 CX0 P w K mg base N x (AH st) f cdv A outer s H E).nox (DJ st) b)(hp:ps.length=np:=by rfl)(hbi:BnR x st ps:=by exact λ_ _ _ _ _ _ _=>rfl):St.Dfn P w K mg base x (k+1) ps (spD K np (Ar (A1 N.length b))):=iN S sc hp (λ_ _ F=>bnR F hbi) λ_ _ _ _ _ _ _ hr=>hb hr (LV hr)
end
theorem deM{X:Cx}{k k' np:Nat}{x:Str}{ps:Gc Str}{f:Fn}{e:uu}{es:Gc uu}{fs:Gc Ev}{p pos:Pos}(d:St.Dfn X.prog X.w X.K X.mg X.base x k ps (spD X.K np f))(hr:IB k' X.A)(ha:DEs X (e::es) fs)(hk:k<=k':=by first|decide|omega)(hg:Gl X x:=by exact rfl)(hn:fs.length=np:=by rfl)(hdb:(x==("__debug__":Str))=false:=by decide)(he:uo (e::es) X.env=(false,eval e X.env)::uo es X.env:=by rfl)(hpl:(backTo pos (uo es X.env)).any (·.1)=false:=by rfl):DE X (.Call (.Name x p) (e::es) [] pos) (AJ f fs):=gZ d (hr.mono hk) hg ha hn hdb he hpl
end Mi
end
noncomputable section
namespace Mi
open PySem PySem.Spec L2 PyProof.Rows
def BmB(mg:Str->uL W1)(base:vF):Prop:=
 ∃bm o,mg "__builtins__"=Fk (.ref bm)/\bm≠builtinsNs/\bm≠mainGlobals/\base.get? bm=Fk o/\o.cls=.type "module" /\o.dict=Fk builtinsNs/\o.data=.plain
theorem MR.hd{K:Wp}{h:vF}{c P:uN}(k:MR K c P)(X:K.In h):PySem.W.CodeHd h c P:=by
 obtain⟨o,vs,file,tf,flags,tg,inF,text,tt,h0,r⟩:=k
 exact⟨o,vs,file,tf,flags,tg,inF,text,tt,X _ _ h0,r⟩
theorem VW{pos:Pos}{a b:Int}{v cv:W1}{l:Gc W1}(h:TriplesOk l)(e:codeAmong pos (l++[rawInt a,rawInt b,v])=Fk cv):codeAmong pos l=Fk cv\/cv=v:=by
 induction l using TriplesOk.induct with
 |case1=>
  rw[vH,yJ]at e
  unfold rawInt at e
  dsimp only at e
  split at e
  .cases e;exact .inr rfl
  .rw[yJ]at e;cases e
 |case2 i t1 j t2 w r ih=>
  rw[TriplesOk.eq_def]at h
  rw[vS,vS,vS,yJ]at e
  rw[yJ]
  dsimp only at e h⊢
  split at e
  .rename_i z;rw[vM z];exact .inl e
  .rename_i z;rw[vP z];exact ih h e
 |case3 l n1 n2=>
  rw[TriplesOk.eq_def]at h
  split at h
  .exact(n1 rfl).elim
  .exact(n2 _ _ _ _ _ _ rfl).elim
  .exact h.elim
structure Ts(X:Cx)(pins:Gc (uN×Obj))(σ:Sg)(H:Hp)(s:uM)(x:Str)(P:uN)(params:zQ)(body:uu)(sc:vx)(clos:Gc (Str×uN))(f:uN)(H':Hp)(s':uM):Prop where
 inv:Inv X pins σ H' s'
 fn:∃pm c' ctv o,s'.heap.get? f=Fk (AAj "<lambda>" (OI x) params body sc clos pm c' ctv)/\H' c'=Fk (.frz o (.own 0))/\WN (OI x) o
 new:s.heap.objs.size<=f
 tab:∃ps,H' P=Fk (.tbl ps)/\Vr X.K H' x P ps
 keep:∀b o,H b=Fk o->b≠P->H' b=Fk o
 none:H' f=uK
theorem aW{X:Cx}{pins:Gc (uN×Obj)}{σ:Sg}{H:Hp}{s:uM}{params:zQ}{body:uu}{sc:vx}{pos:Pos}{x:Str}{c P:uN}{ps:vY W1}{clos:Gc (Str×uN)}{Q:W1->uM->Prop}{E:W1->uM->Prop}(I:Inv X pins σ H s)(hqual:X.env.qual=x++(".<locals>.":Str))(hdf:defaultsOf params X.env=([],[]))(hcl:closureFor sc X.env=pure clos)(hcode:X.env.code=.ref c)(hcd:MR X.K c P)(bm:BmB X.mg X.base)(hP:H P=Fk (.tbl ps))(tok:Vr X.K H x P ps)(hQ:∀f H' s',Ts X pins σ H s x P params body sc clos f H' s'->Q (.ref f) s'):wpAny (model X.prog X.w) X.A (eval (.Lambda params body sc pos) X.env) Q E s:=by
 have hG:s.heap.Ns mainGlobals X.mg:=I.mod.glob.keeps I.bk
 have hCH:=hcd.hd I.kIn
 have hT:s.heap.get? P=Fk (yp ps):=I.hok P _ hP
 have hq:X.env.qual++("<lambda>":Str)=OI x:=by rw[hqual];rfl
 obtain⟨b0,ob,m1,m2,m3,m4,m5,m6,m7⟩:=bm
 have nb:b0≠P:=λz=>by
  have:=(I.bs b0 ob m4).2
  rw[z,hP]at this;cases this
 have hB:s.heap.BuiltinsAt X.mg P:=⟨b0,ob,m1,m2,m3,nb,I.bk _ _ m4,m5,m6,m7⟩
 have gP:mainGlobals≠P:=λz=>by
  obtain⟨o,es,ep,ho,_⟩:=id I.mod.glob
  have:=(I.bs _ o ho).2
  rw[z,hP]at this;cases this
 refine PySem.W.kla_eval hdf ?_
 cases hh:codeAmong pos ps.toList with
 |some cv=>
  refine PySem.W.kla_makeFunctionHit hcl I.ok.glob hG hcode hCH hT tok.tri hh hB λctv h' tk kp sz=>?_
  obtain⟨c',o,rfl,hz,vs,t,n1,n2⟩:=tok.cod pos cv hh
  have hcc:s.heap.get? c'=Fk o:=(I.hok c' _ hz).1
  have kp2:∀b u,s.heap.get? b=Fk u->(h'.push {cls:=AAN "function",data:=Data.func (yq "<lambda>" (X.env.qual++("<lambda>":Str)) params body sc clos ((X.mg "__name__").getD vz) (.ref c') ctv)}).get? b=Fk u:=λb u e=>uJ _ (kp b u e)
  refine hQ _ H _ ⟨I.kept (t':=tk) kp2,⟨_,c',ctv,o,by rw[<-hq];exact uq _ rfl,hz,vs,t,n1,n2⟩,sz,⟨ps,hP,tok⟩,λ_ _ e _=>e,I.hok.fresh sz⟩
 |none=>
  refine PySem.W.kla_makeFunction hcl I.ok.glob hG hcode hCH hT tok.tri hh gP hB λc' ctv h' tk ext l1 l2 crec ht=>?_
  rw[hq]at crec
  generalize hfo:(AAj "<lambda>" (X.env.qual++("<lambda>":Str)) params body sc clos ((X.mg "__name__").getD vz) c' ctv)=fo
  have hfo2:fo=AAj "<lambda>" (OI x) params body sc clos ((X.mg "__name__").getD vz) c' ctv:=by rw[<-hfo,hq]
  obtain⟨c1,o,vs,t,ec,ho,hd,hv⟩:=id crec
  cases ec
  have kp:∀b u,b≠P->s.heap.get? b=Fk u->(h'.push fo).get? b=Fk u:=λb u n e=>uJ _ (ext b u n e)
  have nH:H c'=none:=I.hok.fresh l1
  have cP:c'≠P:=λz=>by rw[z,hP]at nH;cases nH
  generalize hmo:ps++ #[rawInt ↑pos.line,rawInt ↑pos.col,vi c']=ps2 at ht
  let H':Hp:=upd (upd H c' (.frz o (.own 0))) P (.tbl ps2)
  have hk:∀b u,H b=Fk u->b≠P->H' b=Fk u:=λb u e n=>by
   show upd (upd H c' (.frz o (.own 0))) P (.tbl ps2) b=Fk u
   rw[An n,An (λz=>by rw[z,nH]at e;cases e)]
   exact e
  have hc1:H' c'=Fk (.frz o (.own 0)):=by
   show upd (upd H c' (.frz o (.own 0))) P (.tbl ps2) c'=_
   rw[An cP,Bf]
  have hP':H' P=Fk (.tbl ps2):=Bf
  have hn:∀b,b≠P->b≠c'->H b=uK->H' b=none:=λb n1 n2 e=>by
   show upd (upd H c' (.frz o (.own 0))) P (.tbl ps2) b=uK
   rw[An n1,An n2];exact e
  have pP:(h'.push fo).get? P=Fk (yp ps2):=uJ _ ht
  have po:(h'.push fo).get? c'=Fk o:=uJ _ ho
  have fz:fo.isFreed=false:=by rw[<-hfo];rfl
  have un:Un X.fs [] H H' s.heap (h'.push fo):=by
   refine⟨λb u e n _ _=>kp b u (λz=>?_) e,λb u e n _ _=>⟨u.slots,kp b u (λz=>?_) e⟩,λb u e n _=>hn b (λz=>?_) (λz=>?_) n,λb u e _=>?_,λb xs e=>hk b _ e (λz=>?_),λb u v e=>hk b _ e (λz=>?_),λb qs e=>?_⟩
   .rw[z,hP]at n;cases n
   .rw[z,hP]at n;cases n
   .rw[z,hP]at n;cases n
   .subst z;exact absurd (uO (ui e) l1) (wD _)
   .by_cases z:b=P
    .subst z;exact⟨_,pP⟩
    .exact⟨u,kp b u z e⟩
   .rw[z,hP]at e;cases e
   .rw[z,hP]at e;cases e
   .by_cases z:b=P
    .subst z
     rw[hP]at e;cases e
     exact⟨_,by rw[hmo];exact hP'⟩
    .exact⟨#[],by rw[Array.append_empty];exact hk b _ e z⟩
  have hok:HOk X.prog X.w H' (h'.push fo):=λa u q=>by
   by_cases z:a=P
   .subst z
    rw[hP']at q;cases q
    exact pP
   .by_cases z2:a=c'
    .subst z2
     rw[hc1]at q;cases q
     exact⟨po,o,po⟩
    .have q0:H a=Fk u:=by
      have:H' a=H a:=by
       show upd (upd H c' (.frz o (.own 0))) P (.tbl ps2) a=_
       rw[An z,An z2]
      rw[<-this];exact q
     refine(I.hok a u q0).Yv (λb v hb e=>kp b v (λzz=>?_) e) (λb e=>hk b _ e (λzz=>?_)) λb xs e=>hk b _ e (λzz=>?_)
     .rcases hb with hb|hb
      .exact z (hb.symm.trans zz)
      .rw[zz,hP]at hb;cases hb
     .rw[zz,hP]at e;cases e
     .rw[zz,hP]at e;cases e
  have sz:s.heap.objs.size<=h'.objs.size:=zI (vb l1 l2)
  have nF:H' h'.objs.size=none:=hn _ (λz=>by rw[<-z]at ht;exact absurd (ui ht) (wD _)) (λz=>by rw[<-z]at l2;exact wD _ l2) (I.hok.fresh sz)
  refine hQ _ H' _ ⟨I.un (t':=tk) un hok,⟨_,c',ctv,o,by rw[<-hfo2];exact uq _ fz,hc1,vs,t,hd,hv⟩,sz,⟨ps2,hP',?_⟩,hk,nF⟩
  refine⟨by rw[<-hmo];simpa using TriplesOk_snoc pos.line pos.col (.ref c') ps.toList tok.tri,tok.tat,λpos' cv e=>?_⟩
  rw[<-hmo]at e
  rcases VW (l:=ps.toList) tok.tri (by simpa using e)with z|z
  .obtain⟨c2,o2,z1,z2,z3⟩:=tok.cod pos' cv z
   exact⟨c2,o2,z1,hk _ _ z2 (λzz=>by rw[zz,hP]at z2;cases z2),z3⟩
  .exact⟨c',o,z,hc1,vs,t,hd,hv⟩
end Mi
end
noncomputable section
namespace Mi
open PySem PySem.Spec L2
section
open PyProof.Rows (Below)
structure PM(H:Hp)(h:vF)(x:Str)(body:uu)(sc:vx)(clos:Gc (Str×uN))(N:Gc Str)(σc:Sg)(f:uN):Prop where
 fn:∃params pm c' ctv o oc,h.get? f=Fk o/\o.data=.func (yq "<lambda>" (OI x) params body sc clos pm (.ref c') ctv)/\H c'=Fk (.frz oc (.own 0))/\WN (OI x) oc/\bindArgs (yq "<lambda>" (OI x) params body sc clos pm (.ref c') ctv) ⟨[],[]⟩=pure []
 nof:H f=uK
 cell:∀y c,clos.lookup y=Fk c->(∃v,h.IsCell c v)/\H c=uK
 inj:∀y z c,clos.lookup y=Fk c->clos.lookup z=Fk c->y=z
 has:∀y,(sc.names.lookup y=Fk .cell\/sc.names.lookup y=Fk .free)->∃c,clos.lookup y=Fk c
 val:∀(i:Nat) (y:Str) (v:V),N[i]?=Fk y->σc[i]?=Fk (Fk v)->Vis sc y->sc.names.lookup y=Fk .free/\∃c u,clos.lookup y=Fk c/\h.IsCell c (Fk u)/\RelV v u
 len:σc.length=N.length
 kind:sc.kind=.function
 co:sc.isCoroutine=false
 gen:sc.isGenerator=false
 QE:∀y∈sc.names,y.2≠.cell
theorem PM.later{H H':Hp}{h h':vF}{x:Str}{body:uu}{sc:vx}{clos:Gc (Str×uN)}{N:Gc Str}{σc:Sg}{f:uN}{fs:Gc uN}(L:PM H h x body sc clos N σc f)(u:Un fs [] H H' h h'):PM H' h' x body sc clos N σc f:=by
 have cl:∀c v,h.IsCell c v->H c=uK->h'.IsCell c v:=λc v ⟨o,ho,hd⟩ n=>by
  obtain⟨sl,q⟩:=u.any ho n (by simp)
  exact⟨_,q,hd⟩
 obtain⟨params,pm,c',ctv,o,oc,h1,h2,h3,h4,h5⟩:=L.fn
 obtain⟨sl,q⟩:=u.any h1 L.nof (by simp)
 refine⟨⟨params,pm,c',ctv,_,oc,q,h2,u.W0 _ _ _ h3,h4,h5⟩,u.free f o h1 L.nof (by simp),λy c e=>?_,L.inj,L.has,λi y v e1 e2 e3=>?_,L.len,L.kind,L.co,L.gen,L.QE⟩
 .obtain⟨⟨v,z⟩,n⟩:=L.cell y c e
  obtain⟨o',ho',_⟩:=id z
  exact⟨⟨v,cl c v z n⟩,u.free c o' ho' n (by simp)⟩
 .obtain⟨k,c,w,e,z,r⟩:=L.val i y v e1 e2 e3
  exact⟨k,c,w,e,cl c _ z (L.cell y c e).2,r⟩
noncomputable def Pm(P:ur)(w:vO)(K:Wp)(mg:Str->uL W1)(base:vF)(N:Gc Str)(x:Str)(sc:vx)(clos:Gc (Str×uN))(f c':uN)(A:vN)(outer:Gc wN)(s:uM)(H:Hp):Cx where
 prog:=P
 w:=w
 K:=K
 mg:=mg
 base:=base
 A:=A.deeper (wu (OI x) sc s.heap.objs.size f (.ref c') clos)
 N:=N
 s₀:=s
 H₀:=H
 env:=wu (OI x) sc s.heap.objs.size f (.ref c') clos
 outer:=outer
 stack:=wu (OI x) sc s.heap.objs.size f (.ref c') clos::outer
 ex:=[]
 calm:=true
 fn:=λ_=>false
 pn:=[]
 xe:=λ_ _=>xB
theorem Xf{P:ur}{w:vO}{K:Wp}{mg:Str->uL W1}{base:vF}{N:Gc Str}{x:Str}{body:uu}{sc:vx}{clos:Gc (Str×uN)}{f c':uN}{A:vN}{outer:Gc wN}{s:uM}{H:Hp}{σc:Sg}{h':vF}{tk:Nat}{m:Str->uL W1}(L:PM H s.heap x body sc clos N σc f)(hd:A.handled=uK)(e0:jS P w K mg base A outer s H)(hns:h'.Ns s.heap.objs.size m)(kp:∀b o,s.heap.get? b=Fk o->h'.get? b=Fk o):Inv (Pm P w K mg base N x sc clos f c' A outer s H) [] σc H {s with heap:=h',toks:=tk}:=by
 have noA:∀b:uN,b∉(Pm P w K mg base N x sc clos f c' A outer s H).ex:=λb z=>absurd (show b∈([]:Gc uN)from z) (by simp)
 have cl:∀c v,s.heap.IsCell c v->h'.IsCell c v:=λc v ⟨o,ho,hd⟩=>⟨o,kp _ _ ho,hd⟩
 refine⟨⟨e0.mod,L.kind,rfl,rfl,uV _,L.inj,L.has,λy c z _=>absurd z (by intro q;cases q),λ_=>hd,AAx e0.frames,.inr ⟨rfl,rfl⟩,λb z=>absurd z (noA b),e0.bs,e0.bsz,λb _ _=>noA b,λb z=>absurd z (noA b),e0.VP,e0.frf⟩,
  rfl,e0.bare,Un.kept kp,⟨m,hns,λi y v e1 e2 e3=>?_⟩,λy c e=>?_,e0.hok.fresh (uV _),λy c e=>(L.cell y c e).2,λp hp=>absurd (show p∈([]:Gc (uN×Obj))from hp) (by simp),e0.hok.kept kp,L.len⟩
 .obtain⟨k,c,u,e,z,r⟩:=L.val i y v e1 e2 e3
  exact⟨u,r,.inr ⟨.inr k,c,e,cl c _ z⟩⟩
 .obtain⟨⟨v,z⟩,_⟩:=L.cell y c e
  exact⟨v,cl c v z⟩
theorem gc{X:Cx}{pins:Gc (uN×Obj)}{σ:Sg}{H:Hp}{s:uM}{x:Str}{body:uu}{sc:vx}{clos:Gc (Str×uN)}{N:Gc Str}{σc:Sg}{f:uN}{k:Nat}{t:TE}{Q:VK}(I:Inv X pins σ H s)(hr:IB (k+1) X.A)(L:PM H s.heap x body sc clos N σc f)(hb:∀c',IB k (X.A.deeper (wu (OI x) sc s.heap.objs.size f (.ref c') clos))->PE (Pm X.prog X.w X.K X.mg X.base N x sc clos f c' X.A X.stack s H) body t)(ht:t σc H Q):wpAny (model X.prog X.w) X.A (call (.ref f) []) (EP X pins σ Q) X.xe s:=by
 obtain⟨params,pm,c',ctv,o,oc,h1,h2,h3,h4,h5⟩:=L.fn
 have cr:s.heap.CodeRec (.ref c') (OI x):=by
  obtain⟨vs,t,n1,n2⟩:=h4
  exact⟨c',oc,vs,t,rfl,(I.hok c' _ h3).1,n1,n2⟩
 refine AAP (AA8 hr.depth h1 h2 L.co L.gen rfl cr ?_)
 rw[h5]
 refine uZ (AA9 L.QE (λ_ z=>nomatch z) (λh' hns sb=>?_) L.kind)
 have kp:∀b ob,s.heap.get? b=Fk ob->h'.get? b=Fk ob:=λb ob e=>by
  rw[sb.2 b (vK (ui e))]
  exact uJ _ e
 have J:=Xf (c':=c') (tk:=s.toks+0) L hr.hd I.kP hns kp
 refine⟨I.nolimit.keeps kp,ABA (wK (hb c' (hr.deeper _) [] _ σc H Q J ht) (λu s' z=>?_) λ_ _ z=>z.elim)⟩
 obtain⟨v,H',J',rv,q⟩:=z
 exact I.after ⟨v,H',J'.os,J'.bare,J'.base,J'.hok,rv,q⟩
theorem bS{X:Cx}{pins:Gc (uN×Obj)}{σ:Sg}{H:Hp}{s:uM}{x:Str}{body:uu}{sc:vx}{clos:Gc (Str×uN)}{N:Gc Str}{σc:Sg}{f:uN}{k:Nat}{t:TR}{Z:Rk}(I:Inv X pins σ H s)(hr:IB (k+1) X.A)(L:PM H s.heap x body sc clos N σc f)(hx:X.ex=[])(hb:∀c',IB k (X.A.deeper (wu (OI x) sc s.heap.objs.size f (.ref c') clos))->PXe (Pm X.prog X.w X.K X.mg X.base N x sc clos f c' X.A X.stack s H) body t)(ht:t σc H λC _ H'=>Z C σ H'):wpAny (model X.prog X.w) X.A (call (.ref f) []) (λ_ _=>xB) (XP X pins Z) s:=by
 obtain⟨params,pm,c',ctv,o,oc,h1,h2,h3,h4,h5⟩:=L.fn
 have cr:s.heap.CodeRec (.ref c') (OI x):=by
  obtain⟨vs,t,n1,n2⟩:=h4
  exact⟨c',oc,vs,t,rfl,(I.hok c' _ h3).1,n1,n2⟩
 refine AAP (AA8 hr.depth h1 h2 L.co L.gen rfl cr ?_)
 rw[h5]
 refine uZ (AA9 L.QE (λ_ z=>nomatch z) (λh' hns sb=>?_) L.kind)
 have kp:∀b ob,s.heap.get? b=Fk ob->h'.get? b=Fk ob:=λb ob e=>by
  rw[sb.2 b (vK (ui e))]
  exact uJ _ e
 have J:=Xf (c':=c') (tk:=s.toks+0) L hr.hd I.kP hns kp
 refine⟨I.nolimit.keeps kp,ABA (wK (hb c' (hr.deeper _) [] _ σc H _ J ht) (λ_ _ z=>z.elim) λev s' z=>?_)⟩
 obtain⟨e,C,σ',H',rfl,J',z,fl⟩:=z
 unfold leaving
 refine uI (Q5 J' J'.ok.frames rfl rfl fl (Ha J' rfl) λh2 t=>?_)
 have un:=Xd J' rfl rfl rfl t
 have ok2:=UP J' t
 have fl2:=t.fly.fly
 show XP X pins Z (.ref e) _
 exact⟨e,C,σ,H',rfl,I.fE J'.os un ok2 J'.bare (λb z=>nomatch z),z,fl2.imp λb z=>.inl (Ha I hx b z)⟩
theorem bI{X:Cx}{x:Str}{body:uu}{sc:vx}{clos:Gc (Str×uN)}{N:Gc Str}{σc:Sg}{f:uN}{k i:Nat}{t:TE}{y:Str}{p pos:Pos}(hr:IB (k+1) X.A)(hx:X.ex=[])(L:PM X.H₀ X.s₀.heap x body sc clos N σc f)(hb:∀c' s H,IB k (X.A.deeper (wu (OI x) sc s.heap.objs.size f (.ref c') clos))->PE (Pm X.prog X.w X.K X.mg X.base N x sc clos f c' X.A X.stack s H) body t)(hN:X.N[i]?=Fk y)(hv:Vis X.env.scope y)(hd:(y==("__debug__":Str))=false:=by decide)(hcd:(y==("__classdict__":Str))=false:=by decide):PE X (.Call (.Name y p) [] [] pos) (λσ H Q=>σ[i]?=Fk (Fk (.ref f))/\t σc H Q):=by
 intro pins s σ H Q I h
 refine wB (thn (Xm hN hv hd hcd pins s σ H (λv H1=>v=.ref f/\H1=H) I ⟨.ref f,h.1,rfl,rfl⟩) λu s1 z=>?_)
 obtain⟨v,H1,I1,rv,rfl,rfl⟩:=z
 obtain rfl:u=.ref f:=rv
 have un:=I1.base
 rw[hx]at un
 have L1:=L.later un
 obtain⟨params,pm,c',ctv,o,oc,h1,h2,_⟩:=L1.fn
 refine ABN ⟨o.cls,o.dict,_,o.slots,by rw[h1];obtain⟨c,d,dt,sl⟩:=o;cases h2;rfl⟩ ?_
 exact gc I1 hr L1 (λc'=>hb c' s1 H1) h.2
theorem Zk{X:Cx}{x:Str}{body:uu}{sc:vx}{clos:Gc (Str×uN)}{N:Gc Str}{σc:Sg}{f:uN}{k i:Nat}{t:TR}{y:Str}{p pos:Pos}(hr:IB (k+1) X.A)(hx:X.ex=[])(L:PM X.H₀ X.s₀.heap x body sc clos N σc f)(hb:∀c' s H,IB k (X.A.deeper (wu (OI x) sc s.heap.objs.size f (.ref c') clos))->PXe (Pm X.prog X.w X.K X.mg X.base N x sc clos f c' X.A X.stack s H) body t)(hN:X.N[i]?=Fk y)(hv:Vis X.env.scope y)(hxe:X.xe=λ_ _=>xB)(hd:(y==("__debug__":Str))=false:=by decide)(hcd:(y==("__classdict__":Str))=false:=by decide):PXe X (.Call (.Name y p) [] [] pos) (λσ H Z=>σ[i]?=Fk (Fk (.ref f))/\t σc H λC _ H'=>Z C σ H'):=by
 intro pins s σ H Z I h
 refine wB (Jw hxe (Xm hN hv hd hcd pins s σ H (λv H1=>v=.ref f/\H1=H) I ⟨.ref f,h.1,rfl,rfl⟩) λu s1 z=>?_)
 obtain⟨v,H1,I1,rv,rfl,rfl⟩:=z
 obtain rfl:u=.ref f:=rv
 have un:=I1.base
 rw[hx]at un
 have L1:=L.later un
 obtain⟨params,pm,c',ctv,o,oc,h1,h2,_⟩:=L1.fn
 refine ABN ⟨o.cls,o.dict,_,o.slots,by rw[h1];obtain⟨c,d,dt,sl⟩:=o;cases h2;rfl⟩ ?_
 exact bS I1 hr L1 hx (λc'=>hb c' s1 H1) h.2
end
structure Ku(N:Gc Str)(osc:vx)(N':Gc Str)(JP:Gc Nat)(sc:vx):Prop where
 kind:sc.kind=.function
 co:sc.isCoroutine=false
 gen:sc.isGenerator=false
 QE:∀y∈sc.names,y.2≠.cell
 free:∀y∈sc.names,y.2=.free->osc.names.lookup y.1=Fk .cell
 len:JP.length=N'.length
 JP:∀z∈N'.zip JP,N[z.2]?=Fk z.1/\osc.names.lookup z.1=Fk .cell/\sc.names.lookup z.1=Fk .free
noncomputable def Td{α:Type}(JP:Gc Nat)(σ:Gc (uL α)):Gc (uL α):=JP.map λi=>(σ[i]?).join
theorem VS{α:Type}{JP:Gc Nat}{σ:Gc (uL α)}{j:Nat}{v:α}(h:(Td JP σ)[j]?=Fk (Fk v)):∃i,JP[j]?=Fk i/\σ[i]?=Fk (Fk v):=by
 unfold Td at h
 rw[uY]at h
 cases e:JP[j]? with
 |none=>rw[e]at h;cases h
 |some i=>
  rw[e]at h
  refine⟨i,rfl,?_⟩
  have h':(σ[i]?).join=Fk v:=by simpa using h
  cases e2:σ[i]? with
  |none=>rw[e2]at h';cases h'
  |some o=>rw[e2]at h';simpa using h'
theorem Zb{α:Type}{JP:Gc Nat}{σ:Gc (uL α)}{i j:Nat}{v:α}(h:JP[j]?=Fk i)(e:σ[i]?=Fk (Fk v)):(Td JP σ)[j]?=Fk (Fk v):=by
 unfold Td
 rw[uY,h]
 simp[e]
theorem EnR.PZ{K:Wp}{M:Ms}{E:En}{σ:Sg}{H:Hp}(r:EnR K M E σ H)(JP:Gc Nat):EnR K M (Td JP E) (Td JP σ) H:=⟨by simp[Td],λj d e=>by
 obtain⟨i,h1,h2⟩:=VS e
 obtain⟨v,h3,h4⟩:=r.val i d h2
 exact⟨v,Zb h1 h3,h4⟩⟩
theorem jD{X:Cx}{pins:Gc (uN×Obj)}{σ:Sg}{H H':Hp}{s s':uM}{x:Str}{P f:uN}{params:zQ}{body:uu}{sc:vx}{N':Gc Str}{JP:Gc Nat}(LS:Ku X.N X.env.scope N' JP sc)(M:Ts X pins σ H s x P params body sc (HV X.env.cells sc.names []) f H' s')(hp:∀pm c' ctv,bindArgs (yq "<lambda>" (OI x) params body sc (HV X.env.cells sc.names []) pm (.ref c') ctv) ⟨[],[]⟩=pure []):PM H' s'.heap x body sc (HV X.env.cells sc.names []) N' (Td JP σ) f:=by
 have I:=M.inv
 have hcl:∀y∈sc.names,y.2=.free->∃a,X.env.cells.lookup y.1=Fk a:=λy hy hf=>I.ok.has y.1 (.inl (LS.free y hy hf))
 have sub:∀{y:Str} {c:uN},(HV X.env.cells sc.names []).lookup y=Fk c->X.env.cells.lookup y=Fk c:=λ{y c} h=>by
  rcases MA hcl h with z|z
  .cases z
  .exact z
 obtain⟨pm,c',ctv,o,h1,h2,h3⟩:=M.fn
 refine⟨⟨params,pm,c',ctv,_,o,h1,rfl,h2,h3,hp pm c' ctv⟩,M.none,λy c e=>⟨I.cell y c (sub e),I.MN y c (sub e)⟩,λy z c e1 e2=>I.ok.inj y z c (sub e1) (sub e2),λy h=>?_,λj y v e1 e2 e3=>?_,by simp[Td,LS.len],LS.kind,LS.co,LS.gen,LS.QE⟩
 .rcases h with h|h
  .exact absurd rfl (LS.QE _ (vV h))
  .exact Il (.inl (vV h))
 .obtain⟨i,q1,q2⟩:=VS e2
  have hz:(y,i)∈N'.zip JP:=xO.mpr ⟨j,by rw[yM];exact⟨e1,q1⟩⟩
  obtain⟨p1,p2,p3⟩:=LS.JP _ hz
  refine⟨p3,?_⟩
  obtain⟨m,_,hl⟩:=I.loc
  obtain⟨u,ru,lk⟩:=hl i y v p1 q2 (.inr (.inl p2))
  rcases lk with⟨k,_⟩|⟨_,c,ec,ic⟩
  .have:X.env.scope.names.lookup y=Fk .local:=k
   rw[p2]at this;cases this
  .obtain⟨c2,ec2⟩:=Il (cells:=X.env.cells) (cs:=[]) (.inl (vV p3))
   have:=sub ec2
   rw[ec]at this;cases this
   exact⟨c,u,ec2,ic,ru⟩
theorem eB{X:Cx}{body:Gc vJ}{h₀:wt}{hs:Gc wt}{tb:TS}{tr:TR}{g:Str->Ex}{pos:Pos}(hb:PSs X body tb)(hr:PXs X body tr)(hh:HS X (h₀::hs) g)(hxe:X.xe=λ_ _=>xB)(hx:X.ex=[])(hst:X.stack=X.env::X.outer)(hfr:X.env.frame=Fk X.env.locals):PS X (.Try body (h₀::hs) [] [] pos) (λD σ H=>tb D σ H\/∃x,tr σ H λC σ' H'=>X.mg x=Fk (.ref C)/\tX X.K (g x) D σ' H'):=by
 intro pins s σ H D I z
 rcases z with z|⟨x,z⟩
 .refine wpAny_Try_except (Jw hxe (hb pins s σ H D I z) λf s1 w=>?_)
  cases f with
  |next=>exact yU w
  |ret u=>exact w
  |brk=>exact w
  |cont=>exact w
 .refine wpAny_Try_except (wK (hr pins s σ H _ I z) (λ_ _ z=>z.elim) λev s1 w=>?_)
  obtain⟨ea,C,σ',H',rfl,I',⟨hm,z'⟩,fly⟩:=w
  refine Q5 I' I'.ok.frames hst hfr fly (Ha I' hx) λh' t=>?_
  have I2:=XJ I' hst hfr hx t
  exact wK (hh.pe x C hm pins _ σ' H' D ea I2 t.fly z') (λ_ _ z=>z) λ_ _ z=>z.elim
theorem jc{X:Cx}{pins:Gc (uN×Obj)}{σ:Sg}{H:Hp}{s:uM}{k:Nat}{f:uN}{fd:wY}{x:Str}{st:vJ}{N ps:Gc Str}{us:Gc W1}{vs:Gc V}{Q:VK}(Fu:Fun X.K x x st f fd)(S:AQ N ps (AH st))(Bi:Binds X.K fd ps [])(hr:IB (k+1) X.A)(I:Inv X pins σ H s)(r:Vals vs us)(hl:vs.length=ps.length)(hbody:∀cdv,IB k (X.A.deeper (ve x (AH st) s.heap.objs.size f cdv))->∃t,PSs (M9 CX0 X.prog X.w X.K X.mg X.base N x (AH st) f cdv X.A X.stack s H E0).nox (DJ st) t/\t {nx:=λ_ H'=>Q .non H',rt:=Q} (L2.start N vs) H):wpAny (model X.prog X.w) X.A (call (.ref f) us) (EP X pins σ Q) X.xe s:=by
 obtain⟨oc,od,kV,doc,pm,an,cdv,ct,osl,rfl,lk,hcd⟩:=Fu.ex
 have hl2:(us++[]).length=ps.length:=by rw[wU,<-r.length];exact hl
 have hb:=Bi s us I.kIn hl2
 rw[wU]at hb
 have lim:=I.nolimit
 have hkind:∀y∈ps.zip us,(AH st).names.lookup y.1=Fk .local\/((AH st).names.lookup y.1=Fk .cell/\((cellsFrom (s.heap.objs.size+1) (AH st).names []).lookup y.1).isSome=true):=λ⟨n,v⟩ hy=>by
  rcases S.par n (wF hy).1 with q|q
  .exact .inl q
  .exact .inr ⟨q,yg _ _ _ (.inl q)⟩
 refine AAP (AAo hr.depth (I.kIn _ _ lk) rfl S.co S.gen rfl (ABV I.kIn hcd) (hb _ _ _ _ ?_))
 refine zW S.kind hkind λenv he s1 x1=>?_
 subst he
 refine⟨lim.keeps x1.toInCall.keep,codeAny_func ?_⟩
 obtain⟨t,ht,hq⟩:=hbody cdv (hr.deeper _)
 have J:Inv (M9 CX0 X.prog X.w X.K X.mg X.base N x (AH st) f cdv X.A X.stack s H E0) [] (L2.start N vs) H s1:=SS S hr.hd I.kP hl r x1
 have J':Inv (M9 CX0 X.prog X.w X.K X.mg X.base N x (AH st) f cdv X.A X.stack s H E0).nox [] (L2.start N vs) H s1:=J.WG _
 refine wK (ht [] s1 (L2.start N vs) H _ J' hq) (λfl s' hs=>?_) λe s' hs=>hs.elim
 have fin:∀{σ':Sg} {H':Hp} {v:V} {u:W1},Inv (M9 CX0 X.prog X.w X.K X.mg X.base N x (AH st) f cdv X.A X.stack s H E0).nox [] σ' H' s'->RelV v u->Q v H'->EP X pins σ Q u s':=
  λ{σ' H' v u} J rv q=>I.after ⟨v,H',J.os,J.bare,J.base,J.hok,rv,q⟩
 cases fl with
 |ret u=>
  obtain⟨v,σ',H',J,rv,q⟩:=hs
  exact fin J rv q
 |next=>
  obtain⟨σ',H',J,q⟩:=hs
  exact fin (v:=V.non) (u:=vz) J rfl q
 |brk=>
  obtain⟨_,_,_,q⟩:=hs
  exact wL q
 |cont=>
  obtain⟨_,_,_,q⟩:=hs
  exact wL q
noncomputable def Lu(x:Str):Cl->vL
 | .tab y=>y==x
 |_=>false
noncomputable def WB(x:Str)(JP:Gc Nat)(F:Ev)(R:Rx)(c0:D)(h:Str->Ex):Ev:=λE S=>
 if S.any (Lu x)=true then
  match F (Td JP E) S with
  |some q=>Fk (c0,q.2)
  |none=>(R (Td JP E) S).bind λq=>(h q.1 [uK] q.2.2).bind λz=>match z.1 with| .ret d=>Fk (d,z.2.2)| .nx=>uK
 else uK
theorem QX{x:Str}:∀{S:Sto},S.any (Lu x)=true->∃n:Nat,S[n]?=Fk (Cl.tab x)
 | [],h=>by cases h
 |c::S,h=>by
  rw[xH,vo]at h
  rcases h with h|h
  .cases c with
   |tab y=>have e:y=x:=eq_of_beq h;exact⟨0,by rw[e];rfl⟩
   |lst ds=>cases h
   |dct ds=>cases h
  .obtain⟨n,e⟩:=QX h
   exact⟨n+1,e⟩
noncomputable def RW(p:Str)(np cp ep tp rp:Pos)(h₀:wt)(hs:Gc wt)(ret:uu):Gc vJ:=
 [.Try [.Expr (.Call (.Name p np) [] [] cp) ep] (h₀::hs) [] [] tp,.Return (Fk ret) rp]
theorem bC{X:Cx}{pins:Gc (uN×Obj)}{σ:Sg}{H:Hp}{s:uM}{k:Nat}{fg f:uN}{fd:wY}{g p x:Str}{st:vJ}{body ret:uu}{sc:vx}{clos:Gc (Str×uN)}{N':Gc Str}{σc:Sg}{Q:VK}{np cp ep tp rp:Pos}{h₀:wt}{hs:Gc wt}{hd:Str->Ex}{F:Ev}{R:Rx}{c0:D}(I:Inv X pins σ H s)(Fu:Fun X.K g g st fg fd)(S:AQ [p] [p] (AH st))(Bi:Binds X.K fd [p] [])(hr:IB (k+3) X.A)(L:PM H s.heap x body sc clos N' σc f)(eb:DJ st=RW p np cp ep tp rp h₀ hs ret)(hv:Vis (AH st) p)(hd1:(p==("__debug__":Str))=false)(hd2:(p==("__classdict__":Str))=false)(hb:∀(c':uN) (A:vN) (outer:Gc wN) (s:uM) (H:Hp),IB k (A.deeper (wu (OI x) sc s.heap.objs.size f (.ref c') clos))->DE (Pm X.prog X.w X.K X.mg X.base N' x sc clos f c' A outer s H) body F)(hx:∀(c':uN) (A:vN) (outer:Gc wN) (s:uM) (H:Hp),IB k (A.deeper (wu (OI x) sc s.heap.objs.size f (.ref c') clos))->RE (Pm X.prog X.w X.K X.mg X.base N' x sc clos f c' A outer s H) body R)(hh:∀(cdv:W1) (A:vN) (outer:Gc wN) (s:uM) (H:Hp),HS (M9 CX0 X.prog X.w X.K X.mg X.base [p] g (AH st) fg cdv A outer s H E0).nox (h₀::hs) hd)(hret:∀(cdv:W1) (A:vN) (outer:Gc wN) (s:uM) (H:Hp),DE (M9 CX0 X.prog X.w X.K X.mg X.base [p] g (AH st) fg cdv A outer s H E0).nox ret (eC c0))(h:∃M E S,EnR X.K M E σc H/\StR X.K M S H/\((∃d S',F E S=Fk (d,S')/\∀v H' M',Gr M H M' H'->StR X.K M' S' H'->EI X.K M' H' v c0->Q v H')\/∃y E' S' d E2 S2,R E S=Fk (y,E',S')/\hd y [uK] S'=Fk (.ret d,E2,S2)/\∀v H' M',Gr M H M' H'->StR X.K M' S2 H'->EI X.K M' H' v d->Q v H')):wpAny (model X.prog X.w) X.A (call (.ref fg) [.ref f]) (EP X pins σ Q) X.xe s:=by
 refine jc (k:=k+2) (vs:=[.ref f]) Fu S Bi hr I (.cons rfl .nil) rfl λcdv hrg=>?_
 have hrl:IB (k+1) (X.A.deeper (ve g (AH st) s.heap.objs.size fg cdv)):=hrg.mono (by lia)
 let Xg:=(M9 CX0 X.prog X.w X.K X.mg X.base [p] g (AH st) fg cdv X.A X.stack s H E0).nox
 have p1:=bI (X:=Xg) (t:=tD X.K F) (i:=0) (y:=p) (p:=np) (pos:=cp) hrl rfl L (λc' s H z=>(hb c' Xg.A Xg.stack s H z).pe) rfl hv hd1 hd2
 have p2:=Zk (X:=Xg) (t:=tR X.K X.mg R) (i:=0) (y:=p) (p:=np) (pos:=cp) hrl rfl L (λc' s H z=>(hx c' Xg.A Xg.stack s H z).pe) rfl hv rfl hd1 hd2
 have q1:PSs Xg [.Expr (.Call (.Name p np) [] [] cp) ep] _:=T4 (Xr p1 rfl)
 have q0:PX Xg (.Expr (.Call (.Name p np) [] [] cp) ep) (λσ H Z=>σ[0]?=Fk (Fk (.ref f))/\tR X.K X.mg R σc H λC _ H'=>Z C σ H'):=λpins s σ H Z I q=>AAu (wK (p2 pins s σ H Z I q) (λ_ _ z=>z) λ_ _ z=>z) I.quiet rfl
 have q2:PXs Xg [.Expr (.Call (.Name p np) [] [] cp) ep] (λσ H Z=>σ[0]?=Fk (Fk (.ref f))/\tR X.K X.mg R σc H λC _ H'=>Z C σ H'):=λpins s σ H Z I q=>
  xi (wK (q0 pins s σ H Z I q) (λ_ _ z=>wL z) λ_ _ z=>z)
 have q3:=VU (eB (pos:=tp) q1 q2 (hh cdv X.A X.stack s H) rfl rfl rfl rfl) (T4 (AR (pos:=rp) (hret cdv X.A X.stack s H)).pe)
 refine⟨_,by rw[eb];exact q3,?_⟩
 obtain⟨M,E,S0,r,sr,w⟩:=h
 rcases w with⟨d,S',e,q⟩|⟨y,E',S',d,E2,S2,e,e2,q⟩
 .refine .inl ⟨rfl,M,E,S0,d,S',e,r,sr,λv H' M' gr st' rd=>?_⟩
  refine⟨M',[uK],S',.ret c0,[uK],S',rfl,⟨rfl,λi d e=>by match i,e with|0,e=>cases e⟩,st',λv2 H2 M2 g2 st2 r2=>?_⟩
  exact q v2 H2 M2 (gr.trans g2) st2 r2
 .refine .inr ⟨y,rfl,M,E,S0,y,E',S',e,r,sr,λC σ' H' M' hm gr er st'=>⟨hm,?_⟩⟩
  refine⟨M',[uK],S',.ret d,E2,S2,e2,⟨rfl,λi d e=>by match i,e with|0,e=>cases e⟩,st',λv2 H2 M2 g2 st2 r2=>?_⟩
  exact q v2 H2 M2 (gr.trans g2) st2 r2
theorem iL{X:Cx}{pins:Gc (uN×Obj)}{σ:Sg}{H H':Hp}{s s':uM}{x:Str}{P f:uN}{params:zQ}{body:uu}{sc:vx}{clos:Gc (Str×uN)}{M:Ms}{S:Sto}{n:Nat}(st:StR X.K M S H)(h1:M.cel[n]?=Fk P)(h2:S[n]?=Fk (Cl.tab x))(k:Ts X pins σ H s x P params body sc clos f H' s'):StR X.K M S H'/\Gr M H M H':=by
 have hP:P∈M.cel:=uh h1
 obtain⟨ps,t1,t2⟩:=k.tab
 have g:Gr M H M H':=⟨st.mo,vp,rfl,λ_ z=>.inl z,λa o e na=>k.keep a o e λz=>na (by rw[z];exact hP),λa e=>by
  by_cases z:a=P
  .subst z;rw[t1];intro z;cases z
  .cases q:H a with
   |none=>exact absurd q e
   |some o=>rw[k.keep a o q z];intro z;cases z⟩
 refine⟨⟨λb z=>?_,st.nd,st.nt,st.len,λm b c e1 e2=>?_⟩,g⟩
 .by_cases hb:b=P
  .subst hb;exact .inr (.inr ⟨ps,t1⟩)
  .exact(st.mo b z).imp (λ⟨xs,e⟩=>⟨xs,k.keep _ _ e hb⟩) (Or.imp (λ⟨xs,e⟩=>⟨xs,k.keep _ _ e hb⟩) λ⟨xs,e⟩=>⟨xs,k.keep _ _ e hb⟩)
 .by_cases hb:b=P
  .subst hb
   have hm:n=m:=(ym (uU.mp h1).1 st.nd).mp (h1.trans e1.symm)
   subst hm
   rw[h2]at e2;cases e2
   exact⟨ps,t1,t2⟩
  .have q:=st.cell m b c e1 e2
   cases c with
   |lst ds=>obtain⟨xs,e,rr⟩:=q;exact⟨xs,k.keep _ _ e hb,rr.step g.st⟩
   |dct ds=>obtain⟨xs,e,rr⟩:=q;exact⟨xs,k.keep _ _ e hb,rr.step g.st⟩
   |tab ds=>obtain⟨xs,e,rr⟩:=q;exact⟨xs,k.keep _ _ e hb,rr.step g.st⟩
def YX(X:Cx)(x:Str):Prop:=∀P,TabAt X.K x P->X.K.In X.base->X.base.Ns mainGlobals X.mg->∃c,X.env.code=.ref c/\MR X.K c P
theorem X9{X:Cx}{k:Nat}{g p x:Str}{st:vJ}{body ret:uu}{sc:vx}{params:zQ}{N':Gc Str}{JP:Gc Nat}{gp pl pos np cp ep tp rp:Pos}{h₀:wt}{hs:Gc wt}{hd:Str->Ex}{F:Ev}{R:Rx}{c0:D}(G:St.Src X.K X.mg g st)(S:AQ [p] [p] (AH st))(LS:Ku X.N X.env.scope N' JP sc)(ci:YX X x)(bm:BmB X.mg X.base)(hr:IB (k+3) X.A)(hg:Gl X g)(hb:∀(f c':uN) (clos:Gc (Str×uN)) (A:vN) (outer:Gc wN) (s:uM) (H:Hp),IB k (A.deeper (wu (OI x) sc s.heap.objs.size f (.ref c') clos))->DE (Pm X.prog X.w X.K X.mg X.base N' x sc clos f c' A outer s H) body F)(hx:∀(f c':uN) (clos:Gc (Str×uN)) (A:vN) (outer:Gc wN) (s:uM) (H:Hp),IB k (A.deeper (wu (OI x) sc s.heap.objs.size f (.ref c') clos))->RE (Pm X.prog X.w X.K X.mg X.base N' x sc clos f c' A outer s H) body R)(hh:∀(fg:uN) (cdv:W1) (A:vN) (outer:Gc wN) (s:uM) (H:Hp),HS (M9 CX0 X.prog X.w X.K X.mg X.base [p] g (AH st) fg cdv A outer s H E0).nox (h₀::hs) hd)(hret:∀(fg:uN) (cdv:W1) (A:vN) (outer:Gc wN) (s:uM) (H:Hp),DE (M9 CX0 X.prog X.w X.K X.mg X.base [p] g (AH st) fg cdv A outer s H E0).nox ret (eC c0))(eb:DJ st=RW p np cp ep tp rp h₀ hs ret:=by rfl)(hv:Vis (AH st) p:=by first|exact Or.inl rfl|exact Or.inr (Or.inl rfl))(hqual:X.env.qual=x++(".<locals>.":Str):=by rfl)(hdf:defaultsOf params X.env=([],[]):=by rfl)(hp:∀clos pm c' ctv,bindArgs (yq "<lambda>" (OI x) params body sc clos pm (.ref c') ctv) ⟨[],[]⟩=pure []:=by intro _ _ _ _;rfl)(hbi:BnR g st [p]:=by exact λ_ _ _ _ _ _ _=>rfl)(hdb:(g==("__debug__":Str))=false:=by decide)(hd1:(p==("__debug__":Str))=false:=by decide)(hd2:(p==("__classdict__":Str))=false:=by decide)(he:uo [Expr.Lambda params body sc pl] X.env=[(false,eval (.Lambda params body sc pl) X.env)]:=by rfl):DE X (.Call (.Name g gp) [.Lambda params body sc pl] [] pos) (WB x JP F R c0 hd):=⟨by
 intro pins s σ H Q I h
 obtain⟨M,E,S0,d,S',e,r,sr,q⟩:=h
 unfold WB at e
 split at e
 case isFalse=>cases e
 rename_i hany
 obtain⟨n,hn⟩:=QX hany
 obtain⟨P,hc,ps,hP,tok⟩:=sr.at hn
 obtain⟨c,hcode,hcd⟩:=ci P tok.tat I.ok.mod.kin I.ok.mod.glob
 obtain⟨fg,fd,Fu,hm⟩:=G.ex
 have hcl:∀y∈sc.names,y.2=.free->∃a,X.env.cells.lookup y.1=Fk a:=λy hy hf=>I.ok.has y.1 (.inl (LS.free y hy hf))
 refine wB (Oa I hg hm ?_ hdb)
 refine zU (h₀:=X.base) I.ok.mod.kin Fu.kp ?_ he rfl
 rw[he]
 show wpAny _ _ (spliced ((false,eval (.Lambda params body sc pl) X.env)::backTo pos [])) _ _ s
 refine yf (aW I hqual hdf (Ql hcl) hcode hcd bm hP tok λf H' s1 mk=>?_)
 refine yw ⟨mk.inv.kIn,?_⟩
 obtain⟨sr1,g1⟩:=iL sr hc hn mk
 have L:=jD LS mk λpm c' ctv=>hp _ pm c' ctv
 refine bC mk.inv Fu S (bnR Fu hbi) hr L eb hv hd1 hd2 (λc'=>hb f c' _) (λc'=>hx f c' _) (hh fg) (hret fg) ⟨M,Td JP E,S0,(r.step g1.st).PZ JP,sr1,?_⟩
 split at e
 .rename_i w ew
  cases e
  exact .inl ⟨w.1,w.2,ew,λv H2 M2 g2 st2 rd=>q v H2 M2 (g1.trans g2) st2 rd⟩
 .obtain⟨⟨y,E',S1⟩,e1,e⟩:=BP e
  obtain⟨⟨fl,E2,S2⟩,e2,e⟩:=BP e
  cases fl with
  |nx=>cases e
  |ret w=>
   cases e
   exact .inr ⟨y,E',S1,_,E2,S2,e1,e2,λv H2 M2 g2 st2 rd=>q v H2 M2 (g1.trans g2) st2 rd⟩⟩
section
variable{P:ur}{w:vO}{K:Wp}{mg:Str->uL W1}{base:vF}
theorem fnL{x:Str}{st:vJ}{f:uN}{fd:wY}{N ps:Gc Str}{k np:Nat}{b:Ex}(Fu:Fun K x x st f fd)(hm:mg x=Fk (.ref f))(S:AQ N ps (AH st))(hp:ps.length=np)(hb:∀{cdv:W1} {A:vN} {outer:Gc wN} {s:uM} {H:Hp} {E:XK},YX (M9 CX0 P w K mg base N x (AH st) f cdv A outer s H E).nox x->IB k (A.deeper (ve x (AH st) s.heap.objs.size f cdv))->(A.deeper (ve x (AH st) s.heap.objs.size f cdv)).units+100<cLine->DSs (M9 CX0 P w K mg base N x (AH st) f cdv A outer s H E).nox (DJ st) b):VN P w K mg base CX0 (k+1) f fd ps (spD K np (Ar (A1 N.length b))):=by
 rw[Jt]
 obtain⟨oc,od,kV,doc,pm,an,cdv,ct,osl,rfl,lk,hcd⟩:=Fu.ex
 refine gn lk hcd S (λvs H Q E h=>?_) (λA outer s H vs Q E hr h=>?_)
 .obtain⟨M,ds,S0,d,S',hl,_,r,_⟩:=h
  have:=r.length
  lia
 .obtain⟨M,ds,S0,d,S',hl,e,r,st,q⟩:=h
  have hlen:=r.length
  refine⟨_,(hb (cdv:=cdv) (A:=A) (outer:=outer) (s:=s) (H:=H) (E:=E) (λP0 ta kin glob=>?_) hr (LV hr)).pe.nox,?_⟩
  .obtain⟨f0,oc0,od0,fd0,osl0,c,t1,t2,t3,t4⟩:=ta
   have:=yT kin glob t1
   have e0:Fk (vi f0)=Fk (vi f):=this.symm.trans hm
   cases e0
   have t2':K.lookup f=_:=t2
   rw[lk]at t2'
   cases t2'
   exact⟨c,t3,t4⟩
  obtain⟨⟨fl,E',S1⟩,e1,e⟩:=Mf e
  cases e
  refine⟨M,_,S0,fl,E',S1,e1,?_,st,?_⟩
  .rw[show L2.start N vs=vs.map Fk++um (N.length-ds.length) uK from by unfold L2.start;rw[hlen]]
   exact .args r _
  .cases fl with
   |nx=>exact λσ' H' M' g _ st'=>q _ _ M' g st' .non
   |ret d=>exact λv H' M' g st' r'=>q _ _ M' g st' r'
theorem dfL{x:Str}{st:vJ}{N ps:Gc Str}(k:Nat){np:Nat}{b:Ex}(S:St.Src K mg x st)(sc:AQ N ps (AH st))(hb:∀{f:uN} {cdv:W1} {A:vN} {outer:Gc wN} {s:uM} {H:Hp} {E:XK},YX (M9 CX0 P w K mg base N x (AH st) f cdv A outer s H E).nox x->IB k (A.deeper (ve x (AH st) s.heap.objs.size f cdv))->(A.deeper (ve x (AH st) s.heap.objs.size f cdv)).units+100<cLine->DSs (M9 CX0 P w K mg base N x (AH st) f cdv A outer s H E).nox (DJ st) b)(hp:ps.length=np:=by rfl)(hbi:BnR x st ps:=by exact λ_ _ _ _ _ _ _=>rfl):St.Dfn P w K mg base x (k+1) ps (spD K np (Ar (A1 N.length b))):=by
 obtain⟨f,fd,Fu,hm⟩:=S.ex
 exact⟨f,fd,hm,Fu.kp,bnR Fu hbi,fnL Fu hm sc hp λci hr hu=>hb ci hr hu⟩
end
end Mi
end
noncomputable section
namespace Mi
open PySem PySem.Spec L2 PyProof.Rows
theorem UO{K:Wp}{h:vF}{c P:uN}(k:MR K c P)(X:K.In h):isCodeTable h P:=by
 obtain⟨o,vs,file,tf,flags,tg,inF,text,tt,h0,h1,h2,h3,_⟩:=k
 exact⟨c,o,vs,X _ _ h0,h1,h2,h3⟩
noncomputable def Vx(T:Gc (Str×uN)):Sto:=T.map λz=>Cl.tab z.1
theorem YS{P:ur}{w:vO}{K:Wp}{mg mb:Str->uL W1}{k:Nat}{fa a:uN}{fd:wY}{x:Str}{Fn0:Fn}{s₁:uM}{vs:Gc W1}{ns:Gc Int}{T:Gc (Str×uN)}(KX:K.In s₁.heap)(hns:s₁.heap.Ns mainGlobals mg)(hb:s₁.heap.Ns builtinsNs mb)(hbb:∀x:Str,x≠ "__name__"->mb x=bootBuiltins x)(hlim:s₁.heap.NoLimit)(hg:s₁.gens= #[])(ha:s₁.heap.get? a=Fk {cls:=.type "list",data:=.seq vs.toArray})(hi:yR vs ns)(hl:ns.length<=sizeLine)(hr:IB k callerA)(hT:∀z∈T,TabAt K z.1 z.2/\K.lookup z.2=uK/\s₁.heap.get? z.2=Fk (yp #[]))(nd:(T.map (·.2)).Nodup)(bmn:∃bm ob,mg "__builtins__"=Fk (.ref bm)/\bm≠builtinsNs/\s₁.heap.get? bm=Fk ob/\ob.cls=.type "module" /\ob.dict=Fk builtinsNs/\ob.data=.plain)(F:∀base:vF,K.In base->base.Ns mainGlobals mg->BmB mg base->VN P w K mg base CX0 k fa fd [x] (spD K 1 Fn0))(hbind:∀(s:uM) (u:W1),BindsTo s fd ⟨[u],[]⟩ [(x,u)])(hlaw:∃S,Fn0 [.scr ns] (Vx T)=Fk (.bl true,S)):codeAny (model P w) callerA (.call (.ref fa) ⟨[.ref a],[]⟩) (λr s'=>r=.ok (.ret (.bool true))/\OldK s₁.heap s'.heap/\s'.os=s₁.os/\yZ s'.gens) s₁:=by
 have rv:=Sx hi
 have lenV:=hi.length
 have aT:∀z∈T,z.2≠a:=λz hz e=>by
  have:=(hT z hz).2.2
  rw[e,ha]at this;cases this
 have core:∀H:Hp,SqL K H a (ns.map V.int)->HOk P w H s₁.heap->(∀b,H b≠uK->b=a\/∃z∈T,z.2=b)->(∀b,H b≠uK->K.lookup b=uK)->(∀z∈T,H z.2=Fk (.tbl #[]))->(H a=uK\/∃o xs,H a=Fk (.frz o (.lst xs)))->
   codeAny (model P w) callerA (.call (.ref fa) ⟨[.ref a],[]⟩) (λr s'=>r=.ok (.ret (.bool true))/\OldK s₁.heap s'.heap/\s'.os=s₁.os/\yZ s'.gens) s₁:=by
  intro H hS hok hA hK hTb hF
  have base_of:∀{b:uN} {o:Obj},s₁.heap.get? b=Fk o->H b=uK->(Yi s₁.heap H).get? b=Fk o:=λe n=>ZH e n
  have noA:∀{b:uN} {o:Obj},s₁.heap.get? b=Fk o->(∀x n,o.data≠.seq x n)->(∀x,o.data≠.fields x)->H b=none:=λ{b o} e d1 d2=>by
   cases q:H b with
   |none=>rfl
   |some u=>
    rcases hA b (by rw[q];simp)with z|⟨z,hz,z2⟩
    .subst z
     rw[ha]at e;cases e
     exact absurd rfl (d1 _ _)
    .subst z2
     rw[(hT z hz).2.2]at e;cases e
     exact absurd rfl (d2 _)
  have nsK:∀{b:uN} {m:Str->uL W1},s₁.heap.Ns b m->(Yi s₁.heap H).Ns b m:=λ{b m} ⟨o,es,ep,e,d,r⟩=>⟨o,es,ep,base_of e (noA e (λ_ _ z=>by rw[d]at z;cases z) λ_ z=>by rw[d]at z;cases z),d,r⟩
  have hKb:K.In (Yi s₁.heap H):=λb o e=>base_of (KX b o e) (by
   cases q:H b with
   |none=>rfl
   |some u=>rw[hK b (by rw[q];simp)]at e;cases e)
  have hM:Mod K mg (Yi s₁.heap H):=⟨hKb,nsK hns,⟨mb,nsK hb,hbb⟩,let⟨mc,h1,h2⟩:=hlim;⟨mc,nsK h1,h2⟩⟩
  have e0:jS P w K mg (Yi s₁.heap H) callerA [] s₁ H:=⟨rfl,hM,λb o e=>gh e,Nat.le_of_eq (Wh _ _),trivial,λb hb=>absurd (show b∈([]:Gc uN)from hb) (by simp),hok,.of_eq hg⟩
  have hbm:BmB mg (Yi s₁.heap H):=by
   obtain⟨bm,ob,m1,m2,m3,m4,m5,m6⟩:=bmn
   refine⟨bm,ob,m1,m2,λz=>?_,base_of m3 (noA m3 (λ_ _ z=>by rw[m6]at z;cases z) λ_ z=>by rw[m6]at z;cases z),m4,m5,m6⟩
   obtain⟨o,es,ep,e,d,_⟩:=hns
   rw[z,e]at m3;cases m3
   rw[d]at m6;cases m6
  obtain⟨S',hS'⟩:=hlaw
  have nm:¬Ms.mem ⟨T.map (·.2),[]⟩ a:=λz=>by
   rcases z with z|z
   .obtain⟨q,hq,e⟩:=ux.mp z
    exact aT q hq e
   .cases z
  have st:StR K ⟨T.map (·.2),[]⟩ (Vx T) H:=by
   refine⟨λb z=>?_,nd,λb z=>(nomatch z),by simp[Vx],λn b c e1 e2=>?_⟩
   .rcases z with z|z
    .obtain⟨q,hq,e⟩:=ux.mp z
     subst e
     exact .inr (.inr ⟨_,hTb q hq⟩)
    .cases z
   .have e1':(T.map (·.2))[n]?=Fk b:=e1
    have e2':(T.map λz=>Cl.tab z.1)[n]?=Fk c:=e2
    rw[uY]at e1' e2'
    cases q:T[n]? with
    |none=>rw[q]at e1';cases e1'
    |some z=>
     rw[q]at e1' e2'
     cases e1';cases e2'
     have hz:=uh q
     exact⟨#[],hTb z hz,trivial,(hT z hz).1,λpos cv e=>by rw[yJ]at e;cases e⟩
  refine AAQ ((F _ hKb (nsK hns) hbm).run callerA [] s₁ H ⟨[.ref a],[]⟩ [.ref a] [.ref a] (λv _=>v=.bl true) (λ_ _ _=>xB) hr e0 (hbind s₁ (.ref a)) (.cons rfl .nil) ⟨⟨T.map (·.2),[]⟩,[.scr ns],Vx T,_,S',rfl,hS',.cons (.scr ?_) .nil,st,λv H' M' g st' r'=>by cases r';rfl⟩) λr s' h=>?_
  .rcases hS with z|z
   .exact .inl ⟨z,nm⟩
   .exact .inr z
  cases r with
  |error e=>exact wL h
  |ok fl=>
   cases fl with
   |next=>exact wL h
   |brk=>exact wL h
   |cont=>exact wL h
   |ret u=>
    obtain⟨v,H',os,bare,un,hok',r',q⟩:=h
    have q':v=.bl true:=q
    subst q'
    obtain rfl:u=AAM true:=r'
    refine⟨rfl,⟨λb o e=>?_,λb o e=>un.there b o e (by simp)⟩,os,bare⟩
    cases q:H b with
    |none=>exact .inl (un.keep b o e q (by intro z;exact absurd (show b∈([]:Gc uN)from z) (by simp)) (by simp))
    |some u=>
     rcases hA b (by rw[q];simp)with z|⟨z,hz,z2⟩
     .subst z
      rcases hF with z|⟨ob,xs,z⟩
      .rw[q]at z;cases z
      .have z2:=un.W0 b ob _ z
       obtain⟨e1,_⟩:=hok b _ z
       obtain⟨e2,_⟩:=hok' b _ z2
       rw[e]at e1;cases e1
       exact .inl e2
     .subst z2
      obtain⟨t1,t2,t3⟩:=hT z hz
      rw[t3]at e;cases e
      obtain⟨more,em⟩:=un.Yz _ _ (hTb z hz)
      have e2:s'.heap.get? z.2=Fk (yp (#[]++more)):=hok' _ _ em
      obtain⟨_,_,_,_,_,c,_,_,_,hc⟩:=t1
      exact .inr (.inl ⟨UO hc KX,rfl, #[],more,rfl,e2⟩)
 cases hk:K.lookup a with
 |some o=>
  have e:=KX a o hk
  rw[ha]at e
  cases e
  refine core (λb=>if∃z∈T,z.2=b then Fk (.tbl #[])else uK) (.inr ⟨_,vs.toArray,_,hk,rfl,rfl,rfl,by rw[ue,lenV];exact hl,by simpa using rv⟩) (λb u z=>?_) (λb z=>?_) (λb z=>?_) (λz hz=>vM ⟨z,hz,rfl⟩) (.inl (vP λ⟨z,hz,e⟩=>aT z hz e))
  .by_cases hb:∃z∈T,z.2=b
   .have z':=(vM hb).symm.trans z
    cases z'
    obtain⟨y,hy,rfl⟩:=hb
    exact(hT y hy).2.2
   .have z':=(vP hb).symm.trans z
    cases z'
  .by_cases hb:∃z∈T,z.2=b
   .exact .inr hb
   .exact absurd (vP hb) z
  .by_cases hb:∃z∈T,z.2=b
   .obtain⟨y,hy,rfl⟩:=hb;exact(hT y hy).2.1
   .exact absurd (vP hb) z
 |none=>
  refine core (λb=>if b=a then Fk (.frz {cls:=.type "list",data:=.seq vs.toArray} (.lst (ns.map V.int)))else if∃z∈T,z.2=b then Fk (.tbl #[])else uK) (.inl (.inr ⟨{cls:=.type "list",data:=.seq vs.toArray},vM rfl⟩)) (λb u z=>?_) (λb z=>?_) (λb z=>?_) (λz hz=>(vP (aT z hz)).trans (vM ⟨z,hz,rfl⟩)) (.inr ⟨_,_,vM rfl⟩)
  .by_cases hb:b=a
   .have z':=(vM hb).symm.trans z
    cases z'
    subst hb
    exact⟨ha,by rw[vT];exact hl,vs,_,rv,ha⟩
   .have z':=(vP hb).symm.trans z
    by_cases hc:∃z∈T,z.2=b
    .have z'':=(vM hc).symm.trans z'
     cases z''
     obtain⟨y,hy,rfl⟩:=hc
     exact(hT y hy).2.2
    .have z'':=(vP hc).symm.trans z'
     cases z''
  .by_cases hb:b=a
   .exact .inl hb
   .by_cases hc:∃z∈T,z.2=b
    .exact .inr hc
    .exact absurd ((vP hb).trans (vP hc)) z
  .by_cases hb:b=a
   .rw[hb];exact hk
   .by_cases hc:∃z∈T,z.2=b
    .obtain⟨y,hy,rfl⟩:=hc;exact(hT y hy).2.1
    .exact absurd ((vP hb).trans (vP hc)) z
theorem og{l:AAL}{q:ur}{loose:Gc Str}{XP:(Str->uL W1)->vF->Prop}{YP:vO->vF->Prop}{d:DefRec}{K:Params->Wp}{x:Str}{k:Nat}{Fn0:Fn}(T:Gc (Str×uN))(hn:l.most=Fk 63)(hdf:d.params.defaults=[])(hr:IB k callerA)(hY:∀(w:vO) (h:vF),YP w h->(K w.params).In h/\∀z∈T,h.get? z.2=Fk (yp #[]))(nd:(T.map (·.2)).Nodup)(F:∀(w:vO) (mg:Str->uL W1) (fa:uN) (h:vF),(K w.params).In h->h.Ns mainGlobals mg->mg d.name=Fk (.ref fa)->(∀z∈T,TabAt (K w.params) z.1 z.2/\(K w.params).lookup z.2=uK)/\∃fd:wY,(∀(s:uM) (u:W1),BindsTo s fd ⟨[u],[]⟩ [(x,u)])/\∀base:vF,(K w.params).In base->base.Ns mainGlobals mg->BmB mg base->VN l.prog w (K w.params) mg base CX0 k fa fd [x] (spD (K w.params) 1 Fn0))(hlaw:∀ns:Gc Int,ns.length<=63->∃S,Fn0 [.scr ns] (Vx T)=Fk (.bl true,S)):PySem.W.WalkO q loose XP YP l.row.toRowW d [] (λf vs=>PySem.call f vs):=by
 refine Att.attach_call hn hdf λw s₀ s₁ mg mb fa o pm cd doc a vs ns G Y ho hd hcd hmg hobj hints hlen hg=>?_
 obtain⟨KX,Y2⟩:=hY w _ Y
 obtain⟨hT,fd,hb,hF⟩:=F w mg fa _ KX G.T.g hmg
 exact YS KX G.T.g G.T.b G.T.builtins G.T.nolimit hg hobj hints (uW hlen (by decide)) hr (λz hz=>⟨(hT z hz).1,(hT z hz).2,Y2 z hz⟩) nd G.T.bmain hF hb (hlaw ns hlen)
end Mi
end
noncomputable section
namespace Mi
open PySem PySem.Spec L2
noncomputable def laE:Nat->uu->Gc vx
 |0,_=>[]
 |n+1,.Lambda _ _ s _=>[s]
 |n+1,.BoolOp _ vs _=>vs.flatMap (laE n)
 |n+1,.Call f as _ _=>laE n f++as.flatMap (laE n)
 |n+1,.UnaryOp _ a _=>laE n a
 |n+1,.Compare a _ cs _=>laE n a++cs.flatMap (laE n)
 |n+1,.Tuple es _ _=>es.flatMap (laE n)
 |n+1,.List es _=>es.flatMap (laE n)
 |_,_=>[]
noncomputable def laS:Nat->vJ->Gc vx
 |0,_=>[]
 |n+1,.Return (Fk e) _=>laE 30 e
 |n+1,.Assign ts e _=>laE 30 e
 |n+1,.Expr e _=>laE 30 e
 |n+1,.If t a b _=>laE 30 t++a.flatMap (laS n)++b.flatMap (laS n)
 |n+1,.For _ it a b _=>laE 30 it++a.flatMap (laS n)++b.flatMap (laS n)
 |n+1,.While t a b _=>laE 30 t++a.flatMap (laS n)++b.flatMap (laS n)
 |_,_=>[]
noncomputable def nE(st:vJ)(k:Nat):vx:=((DJ st).flatMap (laS 20)).getD k (AH st)
theorem lsM{N:Gc Str}{osc:vx}{N':Gc Str}{JP:Gc Nat}{sc:vx}(a:sc.kind=.function:=by rfl)(b:sc.isCoroutine=false:=by rfl)(c:sc.isGenerator=false:=by rfl)(d:∀y∈sc.names,y.2≠.cell:=by decide+kernel)(e:∀y∈sc.names,y.2=.free->osc.names.lookup y.1=Fk .cell:=by decide+kernel)(f:JP.length=N'.length:=by rfl)(g:∀z∈N'.zip JP,N[z.2]?=Fk z.1/\osc.names.lookup z.1=Fk .cell/\sc.names.lookup z.1=Fk .free:=by decide+kernel):Ku N osc N' JP sc:=⟨a,b,c,d,e,f,g⟩
section
open PyProof.Rows (boot_isinstance boot_int boot_bool boot_tuple boot_str boot_list boot_abs boot_all boot_any boot_sum boot_max boot_min boot_range boot_enumerate boot_zip boot_sorted boot_set boot_divmod)
noncomputable def GX:D:=.tup [.int 0,.int 1]
noncomputable def XB:D:=.tup [.int 1,.int 1]
noncomputable def EX:D:=.tup [.str "bring",.str "pool",.str "swap",.str "trade"]
def GQ:Ex:=(BJ (Hu (eOp (o2 K4) [eV 0,eC (.ty "int")]) (UC (eOp (o2 K4) [eV 0,eC (.ty "bool")]))))
def Cd:Fn:=Ar (A1 1 GQ)
def JK:Ex:=(BJ (Hu (AJ Cd [eV 0]) (eOp (o2 wGe) [eV 0,eV 1])))
def F7:Fn:=Ar (A1 2 JK)
def FY:Ex:=(BJ (Hu (AJ F7 [eV 0,eV 1]) (eOp (o2 wLe) [eV 0,eV 2])))
def DM:Fn:=Ar (A1 3 FY)
def Gw:Ex:=(Aa (TM 0 1 (eOp (o1 iC) [eV 0]) (eOp (o1 iC) [eV 1]))
    (Aa (TH (Vm 1) (eOp (o2 wNe) [eV 1,eI 0]) (TM 0 1 (eV 1) (eOp (o2 TN) [eV 0,eV 1])))
    (BJ (eV 0))))
def Cs:Fn:=Ar (A1 2 Gw)
def Pw:Ex:=(Aa (BQ 2 (AJ Cs [eV 0,eV 1]))
    (BJ (Cm [eOp (o2 Qo) [eV 0,eV 2],eOp (o2 Qo) [eV 1,eV 2]])))
def EA:Fn:=Ar (A1 3 Pw)
def Uv:Ex:=(BJ (AJ EA [eOp (o2 CK) [eOp (o2 CG) [eIx (eV 0) (eI 0),eIx (eV 1) (eI 1)],eOp (o2 CG) [eIx (eV 1) (eI 0),eIx (eV 0) (eI 1)]],eOp (o2 CG) [eIx (eV 0) (eI 1),eIx (eV 1) (eI 1)]]))
def Gz:Fn:=Ar (A1 2 Uv)
def VT:Ex:=(BJ (AJ EA [eOp (o2 OQ) [eOp (o2 CG) [eIx (eV 0) (eI 0),eIx (eV 1) (eI 1)],eOp (o2 CG) [eIx (eV 1) (eI 0),eIx (eV 0) (eI 1)]],eOp (o2 CG) [eIx (eV 0) (eI 1),eIx (eV 1) (eI 1)]]))
def Lp:Fn:=Ar (A1 2 VT)
def Rr:Ex:=(BJ (AJ EA [eOp (o2 CG) [eIx (eV 0) (eI 0),eIx (eV 1) (eI 0)],eOp (o2 CG) [eIx (eV 0) (eI 1),eIx (eV 1) (eI 1)]]))
def EM:Fn:=Ar (A1 2 Rr)
def Rb:Ex:=(Aa (BQ 4 (eOp (o2 CK) [eOp (o2 CG) [eOp (o2 CG) [eIx (eV 0) (eI 0),eIx (eV 2) (eI 1)],eV 1],eOp (o2 CG) [eOp (o2 CG) [eIx (eV 2) (eI 0),eIx (eV 0) (eI 1)],eV 3]]))
    (BJ (AJ EA [eV 4,eOp (o2 CG) [eOp (o2 CG) [eIx (eV 0) (eI 1),eIx (eV 2) (eI 1)],eOp (o2 CK) [eV 1,eV 3]]])))
def J6:Fn:=Ar (A1 5 Rb)
def K7:Ex:=(BJ (Hu (eOp (o2 wLt) [eV 1,eOp (o1 Jo) [eV 0]]) (eOp (o2 wGe) [eIx (eIx (eV 0) (eV 1)) (eI 1),eV 2])))
def Cq:Fn:=Ar (A1 3 K7)
def NT:Ex:=(BJ (Hu (AJ Cq [eV 0,eV 1,eI 1]) (Hu (AJ Cq [eV 0,eV 2,eI 1]) (eOp (o2 wEq) [eIx (eIx (eV 0) (eV 1)) (eI 0),eIx (eIx (eV 0) (eV 2)) (eI 0)]))))
def IE:Fn:=Ar (A1 3 NT)
def NJ:Ex:=(BJ (Hu (AJ Cq [eV 0,eV 1,eV 2]) (eOp (o2 wNe) [eIx (eIx (eV 0) (eV 1)) (eI 0),eV 3])))
def GI:Fn:=Ar (A1 4 NJ)
def Ey:Ex:=(Aa (BQ 3 (eIx (eV 2) (eI 0)))
    (Aa (xIf (eOp (o2 wEq) [eV 3,eC (.str "pool")]) (BJ (AJ IE [eV 0,eIx (eV 2) (eI 1),eIx (eV 2) (eI 2)])) D5)
    (Aa (xIf (eOp (o2 wEq) [eV 3,eC (.str "swap")]) (BJ (AJ GI [eV 0,eIx (eV 2) (eI 1),eIx (eV 2) (eI 2),eIx (eV 2) (eI 3)])) D5)
    (Aa (xIf (eOp (o2 wEq) [eV 3,eC (.str "trade")]) (Aa (BQ 4 (C9 [] 1 (Js (eV 1)) (tNm 0) (eOp (o2 wEq) [eIx (eV 0) (eI 0),eC (.str "trade")]) (eIx (eV 0) (eI 1))))
    (BJ (Hu (eOp (o2 (wIn true)) [eIx (eV 2) (eI 1),eV 4]) (AJ GI [eV 0,eIx (eV 2) (eI 2),eIx (eV 2) (eI 3),eIx (eV 2) (eI 4)])))) D5)
    (Aa (xIf (eOp (o2 (wIn false)) [eV 3,Cm [eC (.str "spoil"),eC (.str "throw")]]) (BJ (AJ Cq [eV 0,eIx (eV 2) (eI 1),eIx (eV 2) (eI 2)])) D5)
    (BJ (eC (.bl true))))))))
def C4:Fn:=Ar (A1 5 Ey)
def Jj:Ex:=(Aa (Qa (tTp [tNm 3,tNm 4]) (eIx (eV 0) (eV 1)))
    (BJ (eOp (o2 CK) [eOp (o2 CK) [eOp (Kn false true) [eV 0,eV 1],Fe [Cm [eV 3,eOp (o2 OQ) [eV 4,eV 2]]]],eOp (Kn true false) [eV 0,eOp (o2 CK) [eV 1,eI 1]]])))
def B9:Fn:=Ar (A1 5 Jj)
def By:Ex:=(Aa (BQ 2 (eIx (eV 1) (eI 0)))
    (Aa (xIf (eOp (o2 wEq) [eV 2,eC (.str "bring")]) (BJ (eOp (o2 CK) [eV 0,Fe [Cm [eIx (eV 1) (eI 2),eIx (eV 1) (eI 3)]]])) D5)
    (Aa (xIf (eOp (o2 wEq) [eV 2,eC (.str "pool")]) (Aa (Qa (tTp [tNm 3,tNm 4]) (eIx (eV 0) (eIx (eV 1) (eI 1))))
    (Aa (BQ 5 (eIx (eIx (eV 0) (eIx (eV 1) (eI 2))) (eI 1)))
    (BJ (eOp (o2 CK) [AJ B9 [AJ B9 [eV 0,eIx (eV 1) (eI 1),eV 4],eIx (eV 1) (eI 2),eV 5],Fe [Cm [eV 3,eOp (o2 CK) [eV 4,eV 5]]]])))) D5)
    (Aa (xIf (eOp (o2 (wIn false)) [eV 2,Cm [eC (.str "swap"),eC (.str "trade")]]) (Aa (Qa (tTp [tNm 6,tNm 7,tNm 3,tNm 8]) (eOp (Kn true false) [eV 1,eOp (o1 Nm) [eI 4]]))
    (BJ (eOp (o2 CK) [AJ B9 [eV 0,eV 6,eV 7],Fe [Cm [eV 3,eV 8]]]))) D5)
    (Aa (xIf (eOp (o2 (wIn false)) [eV 2,Cm [eC (.str "spoil"),eC (.str "throw")]]) (BJ (AJ B9 [eV 0,eIx (eV 1) (eI 1),eIx (eV 1) (eI 2)])) D5)
    (BJ (eV 0)))))))
def Au:Fn:=Ar (A1 9 By)
def Ij:Ex:=(BJ (C9 [] 1 (Js (eIx (eV 0) (eI 1))) (tNm 0) Cr (Cm [eIx (eV 0) (eI 0),eIx (eV 0) (eI 1)])))
def CN:Fn:=Ar (A1 1 Ij)
def FW:Ex:=(Aa (BQ 1 (eIx (eV 0) (eI 0)))
    (Aa (xIf (eOp (o2 wEq) [eV 1,eC (.str "pool")]) (BJ (eOp (o1 Qq) [Fe [eIx (eV 0) (eI 1),eIx (eV 0) (eI 2)]])) D5)
    (Aa (xIf (eOp (o2 (wIn false)) [eV 1,Cm [eC (.str "swap"),eC (.str "trade")]]) (BJ (Fe [eIx (eV 0) (eOp (o1 Nm) [eI 4])])) D5)
    (BJ (Fe [])))))
def Cf:Fn:=Ar (A1 2 FW)
def Kl:Ex:=(Aa (BQ 1 (AJ CN [eV 0]))
    (Aa (BQ 2 (eIx (eV 0) (eI 2)))
    (Aa (Lj (Xe (eV 2)) (tTp [tNm 3,tNm 4]) (Aa (xIf (UC (AJ C4 [eV 1,eOp (Kn false true) [eV 2,eV 3],eV 4])) (BJ (eV 3)) D5)
    (BQ 1 (AJ Au [eV 1,eV 4]))))
    (BJ (eC .non)))))
def FF:Fn:=Ar (A1 5 Kl)
def Io:Ex:=(Aa (BQ 1 (AJ FF [eV 0]))
    (xIf (eOp (o2 (ZM true)) [eV 1,eC .non]) RV D5))
def Ay:Fn:=Ar (A1 2 Io)
def LA:Ex:=(BJ (eOp (o1 CS) [C9 [1] 1 (PJ [eV 0]) (tNm 1) Cr (eIf (eOp (o2 wEq) [eV 1,eV 0]) (eC XB) (eC GX))]))
def F8:Fn:=Ar (A1 2 LA)
def Jk:Ex:=(BJ (eOp (o1 CS) [C9 [1,3] 2 (ZC (eV 0) (eV 2)) (tTp [tNm 2,tNm 3]) Cr (AJ J6 [eV 2,eV 0,eV 3,eV 1])]))
def DX:Fn:=Ar (A1 4 Jk)
def D0:Ex:=(Aa (BQ 3 (AJ Cf [eV 2]))
    (Aa (xIf (eOp (o2 wEq) [eOp (o1 Jo) [eV 3],eI 1]) (BJ (eIx (eV 1) (eIx (eV 3) (eI 0)))) D5)
    (Aa (Qa (tTp [tNm 4,tNm 5]) (eV 3))
    (BJ (AJ DX [eIx (eV 1) (eV 4),eIx (eIx (eV 0) (eV 4)) (eI 1),eIx (eV 1) (eV 5),eIx (eIx (eV 0) (eV 5)) (eI 1)])))))
def Bj:Fn:=Ar (A1 6 D0)
def Jc:Ex:=(BJ (eOp (o2 CK) [eOp (o1 bh) [C9 [2] 2 (Js (eV 1)) (tTp [tNm 1,tNm 2]) Cr (eOp (o2 CG) [eV 2,eIx (eV 0) (eV 1)])],eOp (o2 CG) [eIx (eV 0) (eI 2),eIx (eV 2) (eOp (o1 Nm) [eI 1])]]))
def EV:Fn:=Ar (A1 3 Jc)
def J9:Ex:=(Aa (Qa (tTp [tNm 3,tNm 4,tNm 5]) (eOp (Kn true false) [eV 2,eI 1]))
    (BJ (AJ EA [eOp (o2 CG) [eV 4,eIx (eV 5) (eIx (eIx (eV 1) (eV 3)) (eI 0))],AJ EV [eV 0,eV 1,eV 5]])))
def Dp:Fn:=Ar (A1 6 J9)
def JA:Ex:=(Aa (Qa (tTp [tNm 5,tNm 6]) (AJ Dp [eV 0,eV 1,eV 3]))
    (BJ (AJ DX [eV 4,eOp (o2 OQ) [eV 6,eV 5],eIx (eV 2) (eIx (eV 3) (eI 1)),eV 5])))
def D9:Fn:=Ar (A1 7 JA)
def J0:Ex:=(Aa (Qa (tTp [tNm 2,tNm 3,tNm 4]) (eOp (Kn true false) [eV 0,eI 1]))
    (Aa (BQ 5 (AJ EM [eIx (eV 1) (eV 2),eV 4]))
    (Aa (BQ 6 (g9 (o1 Lm) [eV 1]))
    (Aa (P1 (AJ Lp [eIx (eV 1) (eV 2),eV 5]) (eV 6) (eV 2))
    (Aa (P1 (AJ Gz [eIx (eV 1) (eV 3),eV 5]) (eV 6) (eV 3))
    (BJ (eOp (o1 CS) [eV 6])))))))
def FD:Fn:=Ar (A1 7 J0)
def Bb:Ex:=(Aa (xIf (eOp (o2 wEq) [eIx (eV 3) (eI 0),eC (.str "throw")]) (BJ (AJ D9 [eV 0,eV 1,eV 2,eV 3,eV 4])) D5)
    (Aa (xIf (eOp (o2 wEq) [eIx (eV 3) (eI 0),eC (.str "sell")]) (BJ (AJ FD [eV 3,eV 4])) D5)
    (BJ (eV 4))))
def Ao:Fn:=Ar (A1 5 Bb)
def BX:Ex:=(Aa (BQ 4 (C9 [0,1,2,3] 1 (Js (eV 2)) (tNm 4) Cr (AJ Ao [eV 0,eV 1,eV 2,eV 3,eV 4])))
    (Aa (xIf (eOp (o2 wEq) [eIx (eV 3) (eI 0),eC (.str "bring")]) (BJ (eOp (o2 CK) [eV 4,Fe [AJ F8 [eIx (eV 0) (eI 0),eIx (eV 3) (eI 1)]]])) D5)
    (Aa (xIf (eOp (o2 (wIn false)) [eIx (eV 3) (eI 0),eC EX]) (BJ (eOp (o2 CK) [eV 4,Fe [AJ Bj [eV 1,eV 2,eV 3]]])) D5)
    (BJ (eV 4)))))
def A8:Fn:=Ar (A1 5 BX)
def NR:Ex:=(Aa (Qa (tTp [tNm 2,tNm 3,tNm 4]) (eV 0))
    (Aa (BQ 5 (AJ CN [eV 0]))
    (Aa (BQ 6 (C9 [] 1 (Js (eV 3)) (tNm 0) Cr (eIx (eV 0) (eI 2))))
    (Aa (BQ 7 (eIx (eV 2) (eI 3)))
    (Aa (Lj (Js (eOp (Kn false true) [eV 4,eV 1])) (tNm 8) (Aa (BQ 7 (AJ Ao [eV 2,eV 5,eV 6,eV 8,eV 7]))
    (Aa (BQ 6 (AJ A8 [eV 2,eV 5,eV 6,eV 8]))
    (BQ 5 (AJ Au [eV 5,eV 8])))))
    (BJ (Cm [eV 5,eV 6,eV 7])))))))
def GK:Fn:=Ar (A1 9 NR)
def Ja:Ex:=(Aa (xIf (eOp (o2 wLt) [eV 1,eOp (o1 Jo) [eV 0]]) (BJ (eIx (eV 0) (eV 1))) D5)
    (BJ (eI 0)))
def EG:Fn:=Ar (A1 2 Ja)
def Sn:Ex:=(BJ (Kz [eV 0,eOp (o1 Zz) [eOp (o2 wGe) [eV 0,eOp (o2 XN) [eI 10,eI 18]]],eI 0,eOp (o2 TN) [eV 0,eI 1000000007]]))
def J5:Fn:=Ar (A1 1 Sn)
def Kw:Ex:=(Aa (xIf (Hu (eOp (o2 wEq) [eIx (eV 0) (eI 1),eI 1]) (eOp (o2 wGt) [eIx (eV 0) (eI 0),eI 0])) (Aa (BQ 2 (eOp (o2 TN) [eIx (eV 0) (eI 0),eV 1]))
    (Aa (P1 (eOp (o2 Qo) [eIx (eV 0) (eI 0),eV 1]) (eV 0) (eI 0))
    (BJ (eV 2)))) D5)
    (Aa (P1 (eOp (o2 CK) [eIx (eV 0) (eI 2),eI 1]) (eV 0) (eI 2))
    (Aa (BQ 3 (eOp (o2 TN) [eOp (o2 CG) [eOp (o2 CK) [eIx (eV 0) (eI 3),eI 17],eOp (o2 CK) [eI 69621,eOp (o2 CG) [eI 2,eIx (eV 0) (eI 2)]]],eI 2147483647]))
    (Aa (BQ 3 (eOp (o2 TN) [eOp (o2 CK) [eOp (o2 CK) [eOp (o2 CG) [eV 3,eV 3],eOp (o2 CG) [eI 40503,eIx (eV 0) (eI 2)]],eI 5],eI 2147483629]))
    (BJ (eOp (o2 TN) [eOp (o2 Qo) [eOp (o2 TN) [eOp (o2 CG) [eV 3,eI 48271],eI 2147483647],eI 32],eV 1]))))))
def AI:Fn:=Ar (A1 4 Kw)
def Mx:Ex:=(Aa (TH (Vm 1) (eOp (o2 wGt) [eV 1,eI 0]) (TM 0 1 (eV 1) (eOp (o2 TN) [eV 0,eV 1])))
    (BJ (eV 0)))
def IC:Fn:=Ar (A1 2 Mx)
def P9:Ex:=(Aa (BQ 2 (AJ IC [eOp (o1 iC) [eV 0],eV 1]))
    (BJ (Cm [eOp (o2 Qo) [eV 0,eV 2],eOp (o2 Qo) [eV 1,eV 2]])))
def CP:Fn:=Ar (A1 3 P9)
def QI:Ex:=(BJ (AJ CP [eOp (o2 CK) [eOp (o2 CG) [eIx (eV 0) (eI 0),eIx (eV 1) (eI 1)],eOp (o2 CG) [eIx (eV 1) (eI 0),eIx (eV 0) (eI 1)]],eOp (o2 CG) [eIx (eV 0) (eI 1),eIx (eV 1) (eI 1)]]))
def CO:Fn:=Ar (A1 2 QI)
def Oo:Ex:=(BJ (AJ CP [eOp (o2 CG) [eIx (eV 0) (eI 0),eIx (eV 1) (eI 0)],eOp (o2 CG) [eIx (eV 0) (eI 1),eIx (eV 1) (eI 1)]]))
def Ax:Fn:=Ar (A1 2 Oo)
def QC:Ex:=(BJ (AJ CO [eV 0,Cm [eOp (o2 OQ) [eI 0,eIx (eV 1) (eI 0)],eIx (eV 1) (eI 1)]]))
def Eu:Fn:=Ar (A1 2 QC)
def LU:Ex:=(Aa (BQ 2 (dg [0] 1 (PJ [eV 1]) (tNm 1) Cr (eIx (Fe [eI 0,eI 1,AJ AI [eV 0,eI 4],AJ AI [eV 0,eI 9]]) (AJ AI [eV 0,eI 4]))))
    (Aa (xIf (eOp (o2 wEq) [eOp (o1 bh) [eV 2],eI 0]) (P1 (eI 1) (eV 2) (AJ AI [eV 0,eV 1])) D5)
    (BJ (eOp (o1 CS) [C9 [2] 1 (Js (eV 2)) (tNm 1) Cr (AJ CP [eV 1,eOp (o1 bh) [eV 0]])]))))
def Ef:Fn:=Ar (A1 3 LU)
def KI:Ex:=(Aa (BQ 1 (eOp (o2 CK) [eOp (o2 XN) [eI 10,eI 30],AJ AI [eV 0,eI 99]]))
    (BJ (eIx (Fe [eOp (o2 CK) [eI 1,AJ AI [eV 0,eI 4]],eOp (o2 CK) [eI 1,AJ AI [eV 0,eI 40]],eOp (o2 CK) [eI 1,AJ AI [eV 0,eI 999]],eV 1]) (eOp (o2 Qo) [AJ AI [eV 0,eI 7],eI 2]))))
def BF:Fn:=Ar (A1 2 KI)
def OK:Ex:=(Aa (TM 1 2 (eOp (o2 CK) [eI 1,AJ AI [eV 0,eI 4]]) (eOp (o2 CK) [eI 1,AJ AI [eV 0,eI 5]]))
    (Aa (BQ 3 (eIx (Fe [eOp (o2 CK) [eI 1,AJ AI [eV 0,eI 3]],eOp (o2 CK) [eI 1,AJ AI [eV 0,eI 20]]]) (AJ AI [eV 0,eI 2])))
    (BJ (Cm [eV 1,eV 2,eV 3,AJ Ef [eV 0,eV 1],AJ AI [eV 0,eI 10],AJ AI [eV 0,eI 10]]))))
def JT:Fn:=Ar (A1 4 OK)
def Ol:Ex:=(Aa (BQ 2 (Kz []))
    (Aa (Lj (PJ [eIx (Fe [eI 0,eI 1,AJ AI [eV 0,eI 5]]) (AJ AI [eV 0,eI 3])]) (tNm 3) (Bl (Lc Le (eV 2) [Cm [AJ AI [eV 0,eIx (eV 1) (eI 1)],AJ BF [eV 0],AJ Ef [eV 0,eIx (eV 1) (eI 0)]]])))
    (BJ (eOp (o1 CS) [eV 2]))))
def JS:Fn:=Ar (A1 4 Ol)
def PC:Ex:=(Aa (BQ 1 (eOp (o2 CK) [eI 1,AJ AI [eV 0,eI 12]]))
    (BJ (AJ CP [eOp (o2 CK) [eI 1,AJ AI [eV 0,eV 1]],eV 1])))
def HY:Fn:=Ar (A1 2 PC)
def Mu:Ex:=(BJ (eOp (o1 CS) [C9 [0] 1 (PJ [eV 1]) (tNm 1) Cr (eOp (o2 CK) [eI 1,eIx (Fe [AJ AI [eV 0,eI 3],AJ AI [eV 0,eI 99]]) (AJ AI [eV 0,eI 2])])]))
def Cb:Fn:=Ar (A1 2 Mu)
def PB:Ex:=(BJ (Kz [dg [] 1 (Js (eIx (eV 0) (eI 1))) (tNm 0) Cr (g9 (o1 Lm) [eV 0]),eOp (o1 CS) [eIx (eIx (eV 0) (eI 0)) (eI 3)],Kz []]))
def Dq:Fn:=Ar (A1 1 PB)
def Mq:Ex:=(Aa (BQ 2 (Kz []))
    (Aa (Lj (ZC (eIx (eV 0) (eI 2)) (eIx (eV 1) (eI 2))) (tTp [tNm 3,tNm 4]) (Aa (BQ 5 (AJ CO [AJ Ax [Cm [eIx (eV 0) (eI 1),eI 1],eV 3],AJ Ax [Cm [eIx (eV 1) (eI 1),eI 1],eV 4]]))
    (Bl (Lc Le (eV 2) [AJ Ax [eV 5,AJ CP [eI 1,eOp (o2 CK) [eIx (eV 0) (eI 1),eIx (eV 1) (eI 1)]]]]))))
    (BJ (eOp (o1 CS) [eV 2]))))
def IK:Fn:=Ar (A1 6 Mq)
def P4:Ex:=(Aa (BQ 3 (eIx (eV 2) (eI 3)))
    (Aa (BQ 4 (eOp (o2 CK) [eOp (o1 bh) [C9 [3] 3 (Js (eV 1)) (tTp [tNm 1,tNm 2,tNm 3]) Cr (eOp (o2 CG) [eV 2,eIx (eV 0) (eV 1)])],eOp (o2 CG) [eIx (eV 0) (eI 2),eIx (eV 3) (eOp (o1 Nm) [eI 1])]]))
    (BJ (AJ CP [eOp (o2 CG) [eIx (eV 2) (eI 2),eIx (eV 3) (eIx (eIx (eV 1) (eIx (eV 2) (eI 1))) (eI 0))],eV 4]))))
def Kp:Fn:=Ar (A1 5 P4)
def O2:Ex:=(Aa (BQ 3 (Kz []))
    (Aa (Lj (ZC (eV 0) (eV 2)) (tTp [tNm 4,tNm 5]) (Bl (Lc Le (eV 3) [AJ CO [AJ Ax [eV 4,AJ Eu [Cm [eI 1,eI 1],eV 1]],AJ Ax [eV 5,eV 1]]])))
    (BJ (eOp (o1 CS) [eV 3]))))
def Fi:Fn:=Ar (A1 6 O2)
def QD:Ex:=(Aa (BQ 2 (g9 (o1 Lm) [eV 0]))
    (Aa (BQ 3 (AJ Ax [eIx (eV 2) (eIx (eV 1) (eI 1)),eIx (eV 1) (eI 3)]))
    (Aa (P1 (AJ Eu [eIx (eV 2) (eIx (eV 1) (eI 1)),eV 3]) (eV 2) (eIx (eV 1) (eI 1)))
    (Aa (P1 (AJ CO [eIx (eV 2) (eIx (eV 1) (eI 2)),eV 3]) (eV 2) (eIx (eV 1) (eI 2)))
    (BJ (eOp (o1 CS) [eV 2]))))))
def HC:Fn:=Ar (A1 4 QD)
def MV:Ex:=(Aa (Qa (tTp [tNm 3,tNm 4,tNm 5]) (eV 1))
    (xIf (eOp (o2 wEq) [eIx (eV 2) (eI 0),eC (.str "throw")]) (Aa (TM 6 7 (AJ Kp [eV 0,eV 3,eV 2]) (eIx (eIx (eV 3) (eIx (eV 2) (eI 1))) (eI 2)))
    (Aa (P1 (eOp (o2 OQ) [eIx (eIx (eV 3) (eIx (eV 2) (eI 1))) (eI 1),eIx (eV 2) (eI 2)]) (eIx (eV 3) (eIx (eV 2) (eI 1))) (eI 1))
    (Aa (Lj (Js (eV 3)) (tNm 8) (P1 (AJ Fi [eIx (eV 8) (eI 2),eV 6,eV 7]) (eV 8) (eI 2)))
    (P1 (AJ Fi [eV 4,eV 6,eV 7]) (eV 1) (eI 1))))) (Aa (Lj (Js (eV 3)) (tNm 8) (P1 (AJ HC [eIx (eV 8) (eI 2),eV 2]) (eV 8) (eI 2)))
    (P1 (AJ HC [eV 4,eV 2]) (eV 1) (eI 1)))))
def G9:Fn:=Ar (A1 9 MV)
def IJ:Ex:=(Aa (Qa (tTp [tNm 3,tNm 4,tNm 5]) (eV 1))
    (Aa (BQ 6 (eIx (eV 2) (eI 0)))
    (xIf (eOp (o2 wEq) [eV 6,eC (.str "bring")]) (Bl (Lc Le (eV 3) [Kz [eIx (eV 2) (eI 2),eIx (eV 2) (eI 3),eOp (o1 CS) [C9 [2] 1 (PJ [eIx (eV 0) (eI 0)]) (tNm 1) Cr (Cm [eOp (o1 Zz) [eOp (o2 wEq) [eV 1,eIx (eV 0) (eI 1)]],eI 1])]]])) (xIf (eOp (o2 wEq) [eV 6,eC (.str "pool")]) (Aa (TM 7 8 (eIx (eV 3) (eIx (eV 2) (eI 1))) (eIx (eV 3) (eIx (eV 2) (eI 2))))
    (Aa (Bl (Lc Le (eV 3) [Kz [eIx (eV 7) (eI 0),eOp (o2 CK) [eIx (eV 7) (eI 1),eIx (eV 8) (eI 1)],AJ IK [eV 7,eV 8]]]))
    (Aa (P1 (eI 0) (eV 7) (eI 1))
    (P1 (eI 0) (eV 8) (eI 1))))) (xIf (eOp (o2 (wIn false)) [eV 6,Cm [eC (.str "swap"),eC (.str "trade")]]) (Aa (Qa (tTp [tNm 9,tNm 10,tNm 11,tNm 12]) (eOp (Kn true false) [eV 2,eOp (o1 Nm) [eI 4]]))
    (Aa (P1 (eOp (o2 OQ) [eIx (eIx (eV 3) (eV 9)) (eI 1),eV 10]) (eIx (eV 3) (eV 9)) (eI 1))
    (Aa (Bl (Lc Le (eV 3) [Kz [eV 11,eV 12,eIx (eIx (eV 3) (eV 9)) (eI 2)]]))
    (Bl (Lc mK (eV 5) [eOp (o2 CG) [eOp (Kn true true) [eV 2,eI 1,eI 2],eOp (o1 Zz) [eOp (o2 wEq) [eV 6,eC (.str "trade")]]]]))))) (xIf (eOp (o2 wEq) [eV 6,eC (.str "spoil")]) (P1 (eOp (o2 OQ) [eIx (eIx (eV 3) (eIx (eV 2) (eI 1))) (eI 1),eIx (eV 2) (eI 2)]) (eIx (eV 3) (eIx (eV 2) (eI 1))) (eI 1)) (Bl (AJ G9 [eV 0,eV 1,eV 2]))))))))
def BI:Fn:=Ar (A1 13 IJ)
def P6:Ex:=(Aa (Qa (tTp [tNm 3,tNm 4,tNm 5]) (eV 2))
    (Aa (BQ 6 (C9 [] 2 (Xe (eV 3)) (tTp [tNm 0,tNm 1]) (eOp (o2 wGt) [eIx (eV 1) (eI 1),eI 0]) (eV 0)))
    (Aa (BQ 7 (AJ AI [eV 0,eI 12]))
    (Aa (xIf (eOr (eOp (o2 wLt) [eV 7,eI 2]) (eOp (o2 wEq) [eV 6,Fe []])) (BJ (Cm [eC (.str "bring"),AJ AI [eV 0,eIx (eV 1) (eI 0)],AJ AI [eV 0,eIx (eV 1) (eI 1)],AJ BF [eV 0]])) D5)
    (Aa (BQ 8 (eIx (eV 6) (AJ AI [eV 0,eOp (o1 Jo) [eV 6]])))
    (Aa (BQ 9 (eOp (o2 CK) [eI 1,AJ AI [eV 0,eOp (o2 bV) [eIx (eIx (eV 3) (eV 8)) (eI 1),eI 2000]]]))
    (Aa (xIf (eOp (o2 wLt) [eV 7,eI 5]) (Aa (BQ 10 (C9 [3,8] 1 (Js (eV 6)) (tNm 2) (Hu (eOp (o2 wNe) [eV 2,eV 1]) (eOp (o2 wEq) [eIx (eIx (eV 0) (eV 2)) (eI 0),eIx (eIx (eV 0) (eV 1)) (eI 0)])) (eV 2)))
    (xIf (eOp (o2 wNe) [eV 10,Fe []]) (BJ (Cm [eC (.str "pool"),eV 8,eIx (eV 10) (AJ AI [eV 0,eOp (o1 Jo) [eV 10]])])) D5)) D5)
    (Aa (xIf (Hu (eOp (o2 wLt) [eV 7,eI 8]) (eOp (o2 wGt) [eIx (eV 1) (eI 1),eI 1])) (Aa (BQ 11 (eOp (o2 TN) [eOp (o2 CK) [eOp (o2 CK) [eIx (eIx (eV 3) (eV 8)) (eI 0),eI 1],AJ AI [eV 0,eOp (o2 OQ) [eIx (eV 1) (eI 1),eI 1]]],eIx (eV 1) (eI 1)]))
    (Aa (BQ 12 (C9 [5] 1 (PJ [eI 10]) (tNm 1) (eOp (o2 (wIn true)) [eV 1,eV 0]) (eV 1)))
    (Aa (xIf (Hu (eOp (o2 wEq) [eV 7,eI 7]) (eOp (o2 wNe) [eV 12,Fe []])) (BJ (Cm [eC (.str "trade"),eIx (eV 12) (AJ AI [eV 0,eOp (o1 Jo) [eV 12]]),eV 8,eV 9,eV 11,AJ BF [eV 0]])) D5)
    (BJ (Cm [eC (.str "swap"),eV 8,eV 9,eV 11,AJ BF [eV 0]]))))) D5)
    (Aa (xIf (eOp (o2 wEq) [eV 7,eI 8]) (BJ (Cm [eC (.str "spoil"),eV 8,eV 9])) D5)
    (Aa (xIf (Hu (eOp (o2 wEq) [eV 7,eI 9]) (eOp (o2 wGt) [eIx (eV 1) (eI 0),eI 1])) (Aa (BQ 13 (AJ AI [eV 0,eIx (eV 1) (eI 0)]))
    (BJ (Cm [eC (.str "sell"),eV 13,eOp (o2 TN) [eOp (o2 CK) [eOp (o2 CK) [eV 13,eI 1],AJ AI [eV 0,eOp (o2 OQ) [eIx (eV 1) (eI 0),eI 1]]],eIx (eV 1) (eI 0)],AJ HY [eV 0]]))) D5)
    (BJ (Cm [eC (.str "throw"),eV 8,eV 9,AJ Cb [eV 0,eOp (o2 CK) [eIx (eV 1) (eI 1),eI 1]]]))))))))))))
def Fj:Fn:=Ar (A1 14 P6)
def QL:Ex:=(Aa (BQ 2 (AJ JT [eV 0]))
    (Aa (BQ 3 (AJ JS [eV 0,eV 2]))
    (Aa (TM 4 5 (AJ Dq [Cm [eV 2,eV 3,Cm []]]) (Kz []))
    (Aa (Lj (PJ [AJ AI [eV 0,eOp (o2 CK) [eV 1,eI 1]]]) (tNm 6) (Aa (BQ 7 (AJ Fj [eV 0,eV 2,eV 4]))
    (xIf (eOr (eOp (o2 wNe) [eIx (eV 7) (eI 0),eC (.str "throw")]) (eOp (o2 wLt) [eOp (o1 Jo) [C9 [] 1 (Js (eV 5)) (tNm 0) (eOp (o2 wEq) [eIx (eV 0) (eI 0),eC (.str "throw")]) (eV 0)],eI 3])) (Aa (Bl (AJ BI [eV 2,eV 4,eV 7]))
    (Bl (Lc Le (eV 5) [eV 7]))) D5)))
    (BJ (Cm [eV 2,eV 3,eOp (o1 CS) [eV 5]]))))))
def HA:Fn:=Ar (A1 8 QL)
def NG:Ex:=(Aa (BQ 1 (AJ Dq [eV 0]))
    (Aa (BQ 2 (Kz [Cm [C9 [] 1 (Js (eIx (eV 1) (eI 0))) (tNm 0) Cr (eOp (o1 CS) [eV 0]),eOp (o1 CS) [eIx (eV 1) (eI 1)]]]))
    (Aa (Lj (Js (eIx (eV 0) (eI 2))) (tNm 3) (Aa (Bl (AJ BI [eIx (eV 0) (eI 0),eV 1,eV 3]))
    (Bl (Lc Le (eV 2) [Cm [C9 [] 1 (Js (eIx (eV 1) (eI 0))) (tNm 0) Cr (eOp (o1 CS) [eV 0]),eOp (o1 CS) [eIx (eV 1) (eI 1)]]]))))
    (BJ (eV 2)))))
def GD:Fn:=Ar (A1 4 NG)
def SA:Ex:=(Aa (BQ 1 (eC GX))
    (Aa (Lj (Js (eV 0)) (tNm 2) (BQ 1 (AJ Gz [eV 1,eV 2])))
    (BJ (eV 1))))
def Lr:Fn:=Ar (A1 3 SA)
def Je:Ex:=(Aa (Qa (tTp [tNm 4,tNm 5,tNm 6]) (eV 1))
    (Aa (BQ 7 (C9 [2,3] 3 (ZC (eV 4) (eV 5)) (tTp [tTp [tNm 3,tNm 4],tNm 2]) Cr (AJ EM [Cm [eOp (o2 CG) [eV 4,eIx (eV 0) (eV 3)],eI 1],eIx (eV 2) (eV 1)])))
    (BJ (AJ Gz [AJ Lr [eV 7],AJ EM [Cm [eOp (o2 CG) [eIx (eV 0) (eI 2),eIx (eV 2) (eOp (o1 Nm) [eI 1])],eI 1],eIx (eV 6) (eV 3)]]))))
def B8:Fn:=Ar (A1 8 Je)
def Jf:Ex:=(Aa (TM 2 3 (eIx (eV 0) (eI 0)) (eIx (eIx (eIx (eV 0) (eI 2)) (eV 1)) (eI 3)))
    (Aa (TM 4 5 (AJ GK [eV 0,eV 1]) (AJ GK [eV 0,eOp (o2 CK) [eV 1,eI 1]]))
    (Aa (BQ 6 (Kz []))
    (Aa (Lj (PJ [eIx (eV 2) (eI 0)]) (tNm 7) (Bl (Lc Le (eV 6) [Cm [AJ B8 [eV 2,eV 4,eV 3,eV 7],AJ B8 [eV 2,eV 5,eV 3,eV 7]]])))
    (BJ (eOp (o1 CS) [eV 6]))))))
def CT:Fn:=Ar (A1 8 Jf)
def IM:Ex:=(BJ (AJ DM [eV 1,eI 0,eOp (o2 OQ) [eOp (o1 Jo) [eIx (eV 0) (eI 2)],eI 1]]))
def Ez:Fn:=Ar (A1 2 IM)
def Dd:Ex:=(BJ (Hu (AJ Ez [eV 0,eV 2]) (eOp (o2 wEq) [eIx (eIx (eIx (eV 0) (eI 2)) (eV 2)) (eI 0),eV 1])))
def Bh:Fn:=Ar (A1 3 Dd)
def DH:Ex:=(xIf (UC (AJ Bh [eV 0,eC (.str "throw"),eV 1])) RV D5)
def Ag:Fn:=Ar (A1 2 DH)
def LO:Ex:=(Aa (Bl (AJ Ay [eV 0]))
    (Aa (Bl (AJ Ag [eV 0,eV 1]))
    (BJ (AJ CT [eV 0,eV 1]))))
def DK:Fn:=Ar (A1 2 LO)
def IL(rec_p_is_same:Fn):Ex:=(BJ (Hu (eOp (o2 wEq) [eOp (o1 Jo) [eV 0],eOp (o1 Jo) [eV 1]]) (eOp (o1 ja) [C9 [1] 2 (Xe (eV 0)) (tTp [tNm 1,tNm 2]) Cr (AJ rec_p_is_same [eV 2,eIx (eV 0) (eV 1)])])))
def De(rec_p_are_same:Fn):Ex:=(Aa (xIf (eOp (o2 K4) [eV 1,eC (.ty "tuple")]) (BJ (Hu (eOp (o2 K4) [eV 0,eC (.ty "tuple")]) (AJ rec_p_are_same [eV 0,eV 1]))) D5)
    (Aa (xIf (eOp (o2 K4) [eV 1,eC (.ty "list")]) (BJ (Hu (eOp (o2 K4) [eV 0,eC (.ty "list")]) (AJ rec_p_are_same [eV 0,eV 1]))) D5)
    (Aa (xIf (eOp (o2 (ZM false)) [eV 1,eC .non]) (BJ (eOp (o2 (ZM false)) [eV 0,eC .non])) D5)
    (BJ (Hu (AJ Cd [eV 0]) (eOp (o2 wEq) [eV 0,eV 1]))))))
def Zu:Nat->Fn×Fn
 |0=>(λ_ _=>uK,λ_ _=>uK)
 |n+1=>(Ar (A1 2 (IL (Zu n).2)),Ar (A1 2 (De (Zu n).1)))
def Ep(n:Nat):Fn:=(Zu n).2
def F3:Ex:=(Aa (Bl (AJ Ay [eV 0]))
    (Aa (Bl (AJ Ag [eV 0,eV 1]))
    (BJ (AJ (Ep 8) [eV 2,AJ CT [eV 0,eV 1]]))))
def BD:Fn:=Ar (A1 3 F3)
def O9:Ex:=(Aa (BQ 2 (AJ CN [eV 0]))
    (Aa (Lj (Js (eOp (Kn false true) [eIx (eV 0) (eI 2),eV 1])) (tNm 3) (BQ 2 (AJ Au [eV 2,eV 3])))
    (BJ (eV 2))))
def JN:Fn:=Ar (A1 4 O9)
def LK:Ex:=(Aa (Bl (AJ Ay [eV 0]))
    (Aa (Bl (AJ Ag [eV 0,eV 1]))
    (BJ (AJ Dp [eIx (eV 0) (eI 0),AJ JN [eV 0,eV 1],eIx (eIx (eV 0) (eI 2)) (eV 1)]))))
def DN:Fn:=Ar (A1 2 LK)
def Ec:Rx:=(rIf (UC (AJ Bh [eV 0,eC (.str "throw"),eV 1])) (VD "NoThrow" [eC (.str "the book has no throw at this place")]) rNo)
def Ak:Rf:=Ar (Vi 2 Ec)
def LI:Rx:=(X8 rNo (Bl (AJ Ay [eV 0]))
    (X8 (Gj Ak [eV 0,eV 1]) (Bl (AJ Ag [eV 0,eV 1]))
    rNo))
def Fy:Rf:=Ar (Vi 2 LI)
def Ft:Rx:=(X8 rNo (Bl (AJ Ay [eV 0]))
    (X8 (Gj Ak [eV 0,eV 1]) (Bl (AJ Ag [eV 0,eV 1]))
    rNo))
def CL:Rf:=Ar (Vi 3 Ft)
def LQ:Rx:=(X8 rNo (Bl (AJ Ay [eV 0]))
    (X8 (Gj Ak [eV 0,eV 1]) (Bl (AJ Ag [eV 0,eV 1]))
    rNo))
def Fp:Rf:=Ar (Vi 2 LQ)
def NH:Ex:=(Aa (BQ 3 (Kz [WB "_law_all_so" [0,1] (AJ DN [eV 0,eV 1]) (Gj Fp [eV 0,eV 1]) (.str "none") (gOr ["NoThrow"] "NoThrow" (BJ (eC (.str "throw"))) gNo)]))
    (Aa (Bl (Lc Le (eV 3) [WB "_law_all_so" [0,1] (AJ DK [eV 0,eV 1]) (Gj Fy [eV 0,eV 1]) (.str "none") (gOr ["NoThrow"] "NoThrow" (BJ (eC (.str "throw"))) gNo)]))
    (Aa (Bl (Lc Le (eV 3) [WB "_law_all_so" [0,1] (AJ BD [eV 0,eV 1,eC .non]) (Gj CL [eV 0,eV 1,eC .non]) (.str "none") (gOr ["NoThrow"] "NoThrow" (BJ (eC (.str "throw"))) gNo)]))
    (BJ (eOp (o2 wEq) [eV 3,eOp (o2 CG) [Fe [eV 2],eI 3]])))))
def Ge:Fn:=Ar (A1 4 NH)
def SU:Ex:=(Aa (BQ 1 (Cm [eI 0,eI 1]))
    (Aa (Lj (Js (eV 0)) (tNm 2) (BQ 1 (AJ CO [eV 1,eV 2])))
    (BJ (eV 1))))
def Lx:Fn:=Ar (A1 3 SU)
def Om:Ex:=(Aa (BQ 5 (C9 [3,4] 3 (Js (eV 1)) (tTp [tNm 2,tNm 3,tNm 4]) Cr (AJ Ax [Cm [eOp (o2 CG) [eV 3,eIx (eV 0) (eV 2)],eI 1],eIx (eV 4) (eV 1)])))
    (BJ (AJ Lx [eOp (o2 CK) [eV 5,Fe [AJ Ax [Cm [eOp (o2 CG) [eIx (eV 0) (eI 2),eIx (eV 3) (eOp (o1 Nm) [eI 1])],eI 1],eIx (eV 2) (eV 4)]]]])))
def Ek:Fn:=Ar (A1 6 Om)
def Lw:Ex:=(Aa (TM 2 3 (AJ GD [eV 0]) (eIx (eIx (eIx (eV 0) (eI 2)) (eV 1)) (eI 3)))
    (Aa (BQ 4 (Kz []))
    (Aa (Lj (PJ [eIx (eIx (eV 0) (eI 0)) (eI 0)]) (tNm 5) (Aa (BQ 6 (AJ Ek [eIx (eV 0) (eI 0),eIx (eIx (eV 2) (eV 1)) (eI 0),eIx (eIx (eV 2) (eV 1)) (eI 1),eV 3,eV 5]))
    (Bl (Lc Le (eV 4) [Cm [eV 6,AJ Ek [eIx (eV 0) (eI 0),eIx (eIx (eV 2) (eOp (o2 CK) [eV 1,eI 1])) (eI 0),eIx (eIx (eV 2) (eOp (o2 CK) [eV 1,eI 1])) (eI 1),eV 3,eV 5]]]))))
    (BJ (eOp (o1 CS) [eV 4])))))
def CH:Fn:=Ar (A1 7 Lw)
def Hk:Ex:=(Aa (TM 2 3 (AJ AI [eV 0,eOp (o1 Jo) [eV 1]]) (AJ AI [eV 0,eI 8]))
    (Aa (Qa (tTp [tNm 4,tNm 5]) (eIx (eV 1) (eV 2)))
    (Aa (BQ 6 (Fe [Cm [eV 4,Cm [eOp (o2 CK) [eIx (eV 5) (eI 0),eI 1],eIx (eV 5) (eI 1)]],Cm [Cm [eOp (o2 CG) [eI 2,eIx (eV 4) (eI 0)],eOp (o2 CG) [eI 2,eIx (eV 4) (eI 1)]],eV 5],Cm [eV 5,eV 4],Cm [eV 4],Fe [eV 4,eV 5]]))
    (Aa (BQ 6 (eOp (o2 CK) [eV 6,Fe [Cm [eV 4,eOp (o1 Lm) [eV 5]],Cm [eV 4,eV 5,eV 5]]]))
    (Aa (xIf (eOp (o2 wEq) [eV 3,eI 7]) (BJ (eIx (Fe [eOp (o2 CK) [eOp (Kn false true) [eV 1,eV 2],eOp (Kn true false) [eV 1,eOp (o2 CK) [eV 2,eI 1]]],eOp (o2 CK) [eV 1,eOp (Kn false true) [eV 1,eI 1]],eOp (o1 Lm) [eV 1],eOp (o1 iB) [eV 1]]) (AJ AI [eV 0,eI 4]))) D5)
    (BJ (eOp (o2 CK) [eOp (o2 CK) [eOp (Kn false true) [eV 1,eV 2],Cm [eIx (eV 6) (eV 3)]],eOp (Kn true false) [eV 1,eOp (o2 CK) [eV 2,eI 1]]])))))))
def B2:Fn:=Ar (A1 7 Hk)
def G8(rec:Fn):Ex:=(Aa (xIf (Hu (eOp (o2 K4) [eV 0,eC (.ty "tuple")]) (eOp (o2 K4) [eV 1,eC (.ty "tuple")])) (BJ (Hu (eOp (o2 U5) [eOp (o1 Jo) [eV 0],eOp (o1 Jo) [eV 1]]) (eOp (o1 ja) [C9 [] 2 (ZC (eV 0) (eV 1)) (tTp [tNm 0,tNm 1]) Cr (AJ rec [eV 0,eV 1])]))) D5)
    (BJ (Hu (eOp (o2 U5) [eOp (o2 K4) [eV 0,eC (.ty "bool")],eOp (o2 K4) [eV 1,eC (.ty "bool")]]) (eOp (o2 U5) [eV 0,eV 1]))))
def D8:Nat->Fn
 |0=>λ_ _=>uK
 |n+1=>Ar (A1 2 (G8 (D8 n)))
def Hl(rec:Fn):Ex:=(Aa (BQ 2 (AJ AI [eV 0,eI 12]))
    (Aa (xIf (eOr (eOp (o2 wLt) [eV 2,eI 8]) (eOp (o2 wEq) [eV 1,eI 0])) (BJ (eIx (Fe [eC .non,eC (.bl true),eC (.bl false),eI 0,eI 1,eOp (o1 Nm) [eI 1],eI 9,eOp (o2 XN) [eI 10,eI 39],eC (.str ""),eC (.str "a"),Cm [],Fe []]) (AJ AI [eV 0,eI 12]))) D5)
    (Aa (BQ 3 (C9 [0,1] 1 (PJ [AJ AI [eV 0,eI 4]]) (tNm 2) Cr (AJ rec [eV 0,eOp (o2 OQ) [eV 1,eI 1]])))
    (Aa (xIf (eOp (o2 wEq) [eV 2,eI 8]) (BJ (eV 3)) D5)
    (Aa (xIf (eOp (o2 wEq) [eV 2,eI 9]) (BJ (fG [((eC (.str "a")),(eV 3))])) D5)
    (BJ (eOp (o1 CS) [eV 3])))))))
def Al:Nat->Fn
 |0=>λ_ _=>uK
 |n+1=>Ar (A1 4 (Hl (Al n)))
def Hy(rec:Fn):Ex:=(Aa (xIf (Hu (eOp (o2 K4) [eV 1,eC (.ty "tuple")]) (Hu (eOp (o2 wNe) [eV 1,Cm []]) (eOp (o2 wGt) [AJ AI [eV 0,eI 6],eI 0]))) (Aa (BQ 2 (AJ AI [eV 0,eOp (o1 Jo) [eV 1]]))
    (BJ (eOp (o2 CK) [eOp (o2 CK) [eOp (Kn false true) [eV 1,eV 2],Cm [AJ rec [eV 0,eIx (eV 1) (eV 2)]]],eOp (Kn true false) [eV 1,eOp (o2 CK) [eV 2,eI 1]]]))) D5)
    (Aa (BQ 3 (AJ AI [eV 0,eI 8]))
    (Aa (xIf (Hu (eOp (o2 K4) [eV 1,eC (.ty "tuple")]) (eOp (o2 wLt) [eV 3,eI 4])) (BJ (eIx (Fe [eOp (o2 CK) [eV 1,eOp (Kn true false) [eV 1,eOp (o1 Nm) [eI 1]]],eOp (Kn false true) [eV 1,eOp (o1 Nm) [eI 1]],eOp (o1 Lm) [eV 1],eOp (o1 iB) [eV 1]]) (eV 3))) D5)
    (Aa (xIf (Hu (eOp (o2 K4) [eV 1,eC (.ty "int")]) (eOp (o2 wLt) [eV 3,eI 4])) (BJ (eIx (Fe [eOp (o2 CK) [eV 1,eI 1],eOp (o2 OQ) [eV 1,eI 1],eOp (o2 wGt) [eV 1,eI 0],eOp (o1 kQ) [eV 1]]) (eV 3))) D5)
    (Aa (xIf (Hu (eOp (o2 K4) [eV 1,eC (.ty "str")]) (eOp (o2 wLt) [eV 3,eI 4])) (BJ (eIx (Fe [eOp (o2 CK) [eV 1,eC (.str "a")],eOp (o1 wUp) [eV 1],eOp (Kn false true) [eV 1,eOp (o1 Nm) [eI 1]],eOp (o2 CK) [eC (.str "1"),eV 1]]) (eV 3))) D5)
    (BJ (AJ (Al 8) [eV 0,eI 2])))))))
def Cc:Nat->Fn
 |0=>λ_ _=>uK
 |n+1=>Ar (A1 4 (Hy (Cc n)))
def NN:Ex:=(Aa (Qa (tTp [tNm 2,tNm 3,tNm 4]) (AJ HA [eV 0,eV 1]))
    (Aa (BQ 5 (AJ Dq [Cm [eV 2,eV 3,eV 4]]))
    (Aa (Lj (Js (eV 4)) (tNm 6) (Bl (AJ BI [eV 2,eV 5,eV 6])))
    (Aa (BQ 4 (g9 (o1 Lm) [eV 4]))
    (Aa (Lj (PJ [eOp (o2 OQ) [eI 3,eOp (o1 Jo) [C9 [] 1 (Js (eV 4)) (tNm 0) (eOp (o2 wEq) [eIx (eV 0) (eI 0),eC (.str "throw")]) (eV 0)]]]) (tNm 7) (Aa (BQ 8 (C9 [] 2 (Xe (eIx (eV 5) (eI 0))) (tTp [tNm 0,tNm 1]) (eOp (o2 wGt) [eIx (eV 1) (eI 1),eI 0]) (eV 0)))
    (Aa (BQ 6 (Cm [eC (.str "bring"),AJ AI [eV 0,eIx (eV 2) (eI 0)],AJ AI [eV 0,eIx (eV 2) (eI 1)],AJ BF [eV 0]]))
    (Aa (xIf (eOp (o2 wNe) [eV 8,Fe []]) (Aa (BQ 9 (eIx (eV 8) (AJ AI [eV 0,eOp (o1 Jo) [eV 8]])))
    (Aa (BQ 10 (eIx (Fe [eOp (o2 CK) [eI 1,AJ AI [eV 0,eOp (o2 bV) [eIx (eIx (eIx (eV 5) (eI 0)) (eV 9)) (eI 1),eI 999]]],eIx (eIx (eIx (eV 5) (eI 0)) (eV 9)) (eI 1)]) (AJ AI [eV 0,eI 2])))
    (BQ 6 (Cm [eC (.str "throw"),eV 9,eV 10,AJ Cb [eV 0,eOp (o2 CK) [eIx (eV 2) (eI 1),eI 1]]])))) D5)
    (Aa (Bl (AJ BI [eV 2,eV 5,eV 6]))
    (Bl (Lc Le (eV 4) [eV 6])))))))
    (BJ (Cm [eV 2,eV 3,eOp (o1 CS) [eV 4]])))))))
def Gf:Fn:=Ar (A1 11 NN)
def Wl:Ex:=(Aa (Lj (PJ [eOp (o2 mQ) [eI 1,eOp (o2 bV) [eOp (o1 Jo) [eV 0],eI 2]]]) (tNm 1) (Aa (BQ 2 (AJ J5 [AJ EG [eV 0,eV 1]]))
    (Aa (BQ 3 (AJ Gf [eV 2,eI 8]))
    (Aa (BQ 4 (C9 [] 2 (Xe (eIx (eV 3) (eI 2))) (tTp [tNm 0,tNm 1]) (eOp (o2 wEq) [eIx (eV 1) (eI 0),eC (.str "throw")]) (eV 0)))
    (Aa (BQ 5 (C9 [3] 1 (Js (eV 4)) (tNm 1) Cr (AJ CH [eV 0,eV 1])))
    (Aa (Lj (ZC (eV 4) (eV 5)) (tTp [tNm 6,tNm 7]) (Aa (BQ 8 (eOp (o2 CK) [eV 5,Fe [eV 7,Cm [],eC .non,AJ (Al 8) [eV 2,eI 3],AJ (Cc 8) [eV 2,eV 7]]]))
    (Lj (Js (eOp (o2 CK) [eV 8,C9 [2,7] 1 (PJ [eI 8]) (tNm 2) Cr (AJ B2 [eV 0,eV 1])])) (tNm 9) (Aa (BQ 10 (AJ BD [eV 3,eV 6,eV 9]))
    (xIf (eOr (UC (eOp (o2 K4) [eV 10,eC (.ty "bool")])) (eOp (o2 wNe) [eV 10,AJ (D8 8) [eV 9,eV 7]])) (BJ (eC (.bl false))) D5)))))
    (Lj (Js (eOp (o2 CK) [eLR (eOp (o2 CK) [eOp (o1 Jo) [eIx (eV 3) (eI 2)],eI 1]),Fe [eOp (o1 Nm) [eI 1],eC (.bl true),eC .non,eC (.str "0"),eOp (o2 XN) [eI 10,eI 39],AJ (Al 8) [eV 2,eI 2]]])) (tNm 11) (Aa (BQ 12 (Hu (eOp (o2 K4) [eV 11,eC (.ty "int")]) (Hu (UC (eOp (o2 K4) [eV 11,eC (.ty "bool")])) (eOp (o2 (wIn false)) [eV 11,eV 4]))))
    (xIf (UC (AJ Ge [eV 3,eV 11,eIx (Fe [eC (.str "throw"),eC (.str "none")]) (eOp (o1 Zz) [eV 12])])) (BJ (eC (.bl false))) D5)))))))))
    (BJ (eC (.bl true))))
def O3:Fn:=Ar (A1 13 Wl)
def ID(n:Nat):Fn:=(Zu n).1
end
section
open PyProof.Rows (boot_isinstance boot_int boot_bool boot_tuple boot_str boot_list boot_abs boot_all boot_any boot_sum boot_max boot_min boot_range boot_enumerate boot_zip boot_sorted boot_set boot_divmod)
noncomputable def top(i:Nat):vJ:=zL.main.body.getD i (.Pass ⟨0,0,0,0⟩)
abbrev GS:vJ:=top 3
abbrev HK:vJ:=top 4
abbrev FO:vJ:=top 5
abbrev Dv:vJ:=top 6
abbrev HI:vJ:=top 7
abbrev CB:vJ:=top 8
abbrev JD:vJ:=top 9
abbrev Ll:vJ:=top 10
abbrev Ls:vJ:=top 11
abbrev Ju:vJ:=top 12
abbrev Jx:vJ:=top 13
abbrev J3:vJ:=top 14
abbrev EL:vJ:=top 21
abbrev GZ:vJ:=top 22
abbrev Gi:vJ:=top 23
abbrev Fz:vJ:=top 24
abbrev DU:vJ:=top 25
abbrev Dk:vJ:=top 26
abbrev Bu:vJ:=top 27
abbrev Hi:vJ:=top 28
abbrev FH:vJ:=top 29
abbrev Dr:vJ:=top 30
abbrev C5:vJ:=top 31
abbrev Ga:vJ:=top 32
abbrev Df:vJ:=top 33
abbrev Co:vJ:=top 35
abbrev B7:vJ:=top 36
abbrev Dy:vJ:=top 37
abbrev CA:vJ:=top 38
abbrev Dg:vJ:=top 39
abbrev Cu:vJ:=top 40
abbrev Ds:vJ:=top 41
abbrev C3:vJ:=top 42
abbrev Bw:vJ:=top 43
abbrev Dw:vJ:=top 44
abbrev BU:vJ:=top 46
abbrev B6:vJ:=top 47
abbrev DP:vJ:=top 48
abbrev Eo:vJ:=top 49
abbrev Eh:vJ:=top 50
abbrev Br:vJ:=top 51
abbrev FX:vJ:=top 53
abbrev J4:vJ:=top 54
abbrev JB:vJ:=top 55
abbrev GY:vJ:=top 56
abbrev Iz:vJ:=top 57
abbrev Ib:vJ:=top 58
abbrev HZ:vJ:=top 59
abbrev Ir:vJ:=top 60
abbrev KJ:vJ:=top 61
abbrev DC:vJ:=top 62
abbrev GJ:vJ:=top 63
abbrev HJ:vJ:=top 64
abbrev HH:vJ:=top 65
abbrev Hn:vJ:=top 66
abbrev Dt:vJ:=top 67
abbrev Er:vJ:=top 68
abbrev GU:vJ:=top 71
abbrev F5:vJ:=top 72
abbrev Hd:vJ:=top 73
abbrev Ia:vJ:=top 74
abbrev Iy:vJ:=top 75
abbrev JQ:vJ:=top 76
abbrev C1:vJ:=top 77
abbrev F0:vJ:=top 78
abbrev Ck:vJ:=top 79
abbrev Cg:vJ:=top 80
abbrev Ee:vJ:=top 81
abbrev FE:vJ:=top 82
abbrev El:vJ:=top 83
abbrev GO:vJ:=top 84
abbrev Ff:vJ:=top 85
abbrev Dm:vJ:=top 86
abbrev B1:vJ:=top 88
abbrev Gq:vJ:=top 89
abbrev Iw:vJ:=top 87
theorem LX:AQ ["_law_call"] ["_law_call"] (AH Iw):=scM
section
variable(P:ur)(w:vO)(K:Wp)(mg:Str->uL W1)(base:vF)
abbrev Kc:Prop:=St.Dfn P w K mg base "is_whole" 1 ["thing"] (spD K 1 Cd)
abbrev N8:Prop:=St.Dfn P w K mg base "is_from" 2 ["thing","low"] (spD K 2 F7)
abbrev L8:Prop:=St.Dfn P w K mg base "is_within" 3 ["thing","low","high"] (spD K 3 DM)
abbrev SJ(n:Nat):Prop:=St.Dfn P w K mg base "are_same" (1+n) ["things","told"] (spD K 2 (ID n))
abbrev LM(n:Nat):Prop:=St.Dfn P w K mg base "is_same" (1+n) ["thing","told"] (spD K 2 (Ep n))
abbrev Gv:Prop:=St.Dfn P w K mg base "greatest_divisor" 1 ["one","other"] (spD K 2 Cs)
abbrev G7:Prop:=St.Dfn P w K mg base "lowest" 2 ["top","bottom"] (spD K 2 EA)
abbrev Nh:Prop:=St.Dfn P w K mg base "plus" 3 ["one","other"] (spD K 2 Gz)
abbrev Uz:Prop:=St.Dfn P w K mg base "less" 3 ["one","other"] (spD K 2 Lp)
abbrev Nz:Prop:=St.Dfn P w K mg base "times" 3 ["one","other"] (spD K 2 EM)
abbrev R9:Prop:=St.Dfn P w K mg base "mixed" 3 ["one","weight","other","more"] (spD K 4 J6)
abbrev Rw:Prop:=St.Dfn P w K mg base "total" 4 ["amounts"] (spD K 1 Lr)
abbrev GA:Prop:=St.Dfn P w K mg base "has_pieces" 1 ["held","load","pieces"] (spD K 3 Cq)
abbrev NI:Prop:=St.Dfn P w K mg base "can_pool" 2 ["held","load","other"] (spD K 3 IE)
abbrev M8:Prop:=St.Dfn P w K mg base "can_swap" 2 ["held","load","given","kind"] (spD K 4 GI)
abbrev QB:Prop:=St.Dfn P w K mg base "can_do" 3 ["held","done","deed"] (spD K 3 C4)
abbrev Jh:Prop:=St.Dfn P w K mg base "held_without" 1 ["held","load","pieces"] (spD K 3 B9)
abbrev Fc:Prop:=St.Dfn P w K mg base "held_behind" 2 ["held","deed"] (spD K 2 Au)
abbrev EF:Prop:=St.Dfn P w K mg base "held_at_first" 1 ["book"] (spD K 1 CN)
abbrev LH:Prop:=St.Dfn P w K mg base "held_by" 3 ["book","many"] (spD K 2 JN)
abbrev MD:Prop:=St.Dfn P w K mg base "made_from" 1 ["deed"] (spD K 1 Cf)
abbrev KS:Prop:=St.Dfn P w K mg base "first_wrong" 4 ["book"] (spD K 1 FF)
abbrev Bs:Prop:=St.Dfn P w K mg base "refuse_undone" 5 ["book"] (spD K 1 Ay)
abbrev NC:Prop:=St.Dfn P w K mg base "is_place" 4 ["book","thing"] (spD K 2 Ez)
abbrev HR:Prop:=St.Dfn P w K mg base "is_place_of" 5 ["book","word","thing"] (spD K 3 Bh)
abbrev LF:Prop:=St.Dfn P w K mg base "all_to_one" 1 ["many","one"] (spD K 2 F8)
abbrev Gu:Prop:=St.Dfn P w K mg base "mixed_shares" 4 ["shares","weight","others","more"] (spD K 4 DX)
abbrev Kb:Prop:=St.Dfn P w K mg base "made_shares" 5 ["held","shares","deed"] (spD K 3 Bj)
abbrev Ji:Prop:=St.Dfn P w K mg base "worth_of_all" 1 ["train","held","worths"] (spD K 3 EV)
abbrev FK:Prop:=St.Dfn P w K mg base "part_thrown" 3 ["train","held","deed"] (spD K 3 Dp)
abbrev JE:Prop:=St.Dfn P w K mg base "thrown_shares" 5 ["train","held","owners","deed","shares"] (spD K 5 D9)
abbrev KD:Prop:=St.Dfn P w K mg base "sold_shares" 4 ["deed","shares"] (spD K 2 FD)
abbrev Fh:Prop:=St.Dfn P w K mg base "shares_behind" 6 ["train","held","owners","deed","shares"] (spD K 5 Ao)
abbrev Ik:Prop:=St.Dfn P w K mg base "owners_behind" 7 ["train","held","owners","deed"] (spD K 4 A8)
abbrev Mr:Prop:=St.Dfn P w K mg base "state_by" 8 ["book","many"] (spD K 2 GK)
abbrev BV:Prop:=St.Dfn P w K mg base "refuse_no_throw" 6 ["book","place"] (spD K 2 Ag)
abbrev Jm:Prop:=St.Dfn P w K mg base "worth_theirs" 5 ["train","state","worths","partner"] (spD K 4 B8)
abbrev DQ:Prop:=St.Dfn P w K mg base "bearing_told" 9 ["book","place"] (spD K 2 CT)
abbrev OB:Prop:=St.Dfn P w K mg base "cost_of" 7 ["book","place"] (spD K 2 DN)
abbrev O7:Prop:=St.Dfn P w K mg base "bearing" 10 ["book","place"] (spD K 2 DK)
abbrev F4:Prop:=St.Dfn P w K mg base "bearing_holds" 10 ["book","place","thing"] (spD K 3 BD)
abbrev MI:Prop:=St.Dfn P w K mg base "_law_cell_at" 1 ["_law_script","_law_k"] (spD K 2 EG)
abbrev R1:Prop:=St.Dfn P w K mg base "_law_pen" 1 ["_law_cell"] (spD K 1 J5)
abbrev CM:Prop:=St.Dfn P w K mg base "_law_draw" 1 ["_law_pen_here","_law_bound"] (spD K 2 AI)
abbrev Mz:Prop:=St.Dfn P w K mg base "_law_common" 1 ["_law_one","_law_other"] (spD K 2 IC)
abbrev F6:Prop:=St.Dfn P w K mg base "_law_made" 2 ["_law_top","_law_bottom"] (spD K 2 CP)
abbrev G6:Prop:=St.Dfn P w K mg base "_law_plus" 3 ["_law_one","_law_other"] (spD K 2 CO)
abbrev HG:Prop:=St.Dfn P w K mg base "_law_times" 3 ["_law_one","_law_other"] (spD K 2 Ax)
abbrev Mj:Prop:=St.Dfn P w K mg base "_law_less" 4 ["_law_one","_law_other"] (spD K 2 Eu)
abbrev RZ:Prop:=St.Dfn P w K mg base "_law_sum" 4 ["_law_some"] (spD K 1 Lx)
abbrev LR:Prop:=St.Dfn P w K mg base "_law_whole" 3 ["_law_pen_here","_law_many"] (spD K 2 Ef)
abbrev IA:Prop:=St.Dfn P w K mg base "_law_pieces" 2 ["_law_pen_here"] (spD K 1 BF)
abbrev OS:Prop:=St.Dfn P w K mg base "_law_train" 4 ["_law_pen_here"] (spD K 1 JT)
abbrev OW:Prop:=St.Dfn P w K mg base "_law_first" 4 ["_law_pen_here","_law_train_here"] (spD K 2 JS)
abbrev N4:Prop:=St.Dfn P w K mg base "_law_share" 3 ["_law_pen_here"] (spD K 1 HY)
abbrev KO:Prop:=St.Dfn P w K mg base "_law_worths" 2 ["_law_pen_here","_law_many"] (spD K 2 Cb)
abbrev JF:Prop:=St.Dfn P w K mg base "_law_begun" 1 ["_law_book_here"] (spD K 1 Dq)
abbrev NK:Prop:=St.Dfn P w K mg base "_law_pooled" 4 ["_law_one","_law_other"] (spD K 2 IK)
abbrev QG:Prop:=St.Dfn P w K mg base "_law_cost" 3 ["_law_train_here","_law_loads","_law_deed_here"] (spD K 3 Kp)
abbrev OV:Prop:=St.Dfn P w K mg base "_law_borne" 5 ["_law_shares","_law_part","_law_owners"] (spD K 3 Fi)
abbrev Pp:Prop:=St.Dfn P w K mg base "_law_sold" 5 ["_law_shares","_law_deed_here"] (spD K 2 HC)
abbrev QM:Prop:=St.Dfn P w K mg base "_law_turn" 6 ["_law_train_here","_law_state","_law_deed_here"] (spD K 3 G9)
abbrev Nf:Prop:=St.Dfn P w K mg base "_law_do" 7 ["_law_train_here","_law_state","_law_deed_here"] (spD K 3 BI)
abbrev QF:Prop:=St.Dfn P w K mg base "_law_deed" 4 ["_law_pen_here","_law_train_here","_law_state"] (spD K 3 Fj)
abbrev Pr:Prop:=St.Dfn P w K mg base "_law_book" 8 ["_law_pen_here","_law_most"] (spD K 2 HA)
abbrev ND:Prop:=St.Dfn P w K mg base "_law_states" 8 ["_law_book_here"] (spD K 1 GD)
abbrev NF:Prop:=St.Dfn P w K mg base "_law_thrown" 9 ["_law_pen_here","_law_most"] (spD K 2 Gf)
abbrev N7:Prop:=St.Dfn P w K mg base "_law_worth" 5 ["_law_train_here","_law_loads","_law_owners","_law_worths_here","_law_partner"] (spD K 5 Ek)
abbrev MF:Prop:=St.Dfn P w K mg base "_law_bearing" 9 ["_law_book_here","_law_at"] (spD K 2 CH)
abbrev PF(n:Nat):Prop:=St.Dfn P w K mg base "_law_thing" (2+n) ["_law_pen_here","_law_deep"] (spD K 2 (Al n))
abbrev R6(n:Nat):Prop:=St.Dfn P w K mg base "_law_spoilt" (11+n) ["_law_pen_here","_law_thing_here"] (spD K 2 (Cc n))
abbrev V3(n:Nat):Prop:=St.Dfn P w K mg base "_law_same" (1+n) ["_law_one","_law_other"] (spD K 2 (D8 n))
abbrev J8:Prop:=St.Dfn P w K mg base "_law_otherwise" 2 ["_law_pen_here","_law_due"] (spD K 2 B2)
abbrev Mp:Prop:=St.Dfn P w K mg base "_law_all_so" 14 ["_law_book_here","_law_place","_law_due"] (spD K 3 Ge)
abbrev DO:Prop:=iH P w K mg base "refuse_no_throw" 6 ["book","place"] (spR K mg 2 Ak)
abbrev OA:Prop:=iH P w K mg base "cost_of" 7 ["book","place"] (spR K mg 2 Fp)
abbrev ON:Prop:=iH P w K mg base "bearing" 10 ["book","place"] (spR K mg 2 Fy)
abbrev Ih:Prop:=iH P w K mg base "bearing_holds" 10 ["book","place","thing"] (spR K mg 3 CL)
end
structure Bts(mg:Str->uL W1):Prop where
 abs:mg "abs"=uK
 all:mg "all"=uK
 bool:mg "bool"=uK
 enumerate:mg "enumerate"=uK
 int:mg "int"=uK
 isi:mg "isinstance"=uK
 len:mg "len"=uK
 list:mg "list"=uK
 max:mg "max"=uK
 min:mg "min"=uK
 range:mg "range"=uK
 sorted:mg "sorted"=uK
 str:mg "str"=uK
 sum:mg "sum"=uK
 tuple:mg "tuple"=uK
 zip:mg "zip"=uK
end
section
open PyProof.Rows (boot_isinstance boot_int boot_bool boot_tuple boot_str boot_list boot_abs boot_all boot_any boot_sum boot_max boot_min boot_range boot_enumerate boot_zip boot_sorted boot_set boot_divmod)
variable{P:ur}{w:vO}{K:Wp}{mg:Str->uL W1}{base:vF}
theorem Qm:AQ ["thing"] ["thing"] (AH GS):=scM
theorem Ce  (S:St.Src K mg "is_whole" GS)(B:Bts mg):Kc P w K mg base:=by
 refine dfM 0 S Qm λhr hu=>?_
 exact(AK (AR (GN (Ac B0 rfl B.isi vW (AA (AB 0) (AA (KC rfl B.int AAJ) AD))) (He (cZ (Ac B0 rfl B.isi vW (AA (AB 0) (AA (KC rfl B.bool ABG) AD))))))))
theorem TF:AQ ["thing","low"] ["thing","low"] (AH HK):=scM
theorem Hq  (S:St.Src K mg "is_from" HK)(Ce:Kc P w K mg base):N8 P w K mg base:=by
 refine dfM 1 S TF λhr hu=>?_
 exact(AK (AR (GN (deM Ce hr (AA (AB 0) AD)) (He (Ew Yg (AB 0) (AB 1))))))
theorem Pf:AQ ["thing","low","high"] ["thing","low","high"] (AH FO):=scM
theorem Fb  (S:St.Src K mg "is_within" FO)(Hq:N8 P w K mg base):L8 P w K mg base:=by
 refine dfM 2 S Pf λhr hu=>?_
 exact(AK (AR (GN (deM Hq hr (AA (AB 0) (AA (AB 1) AD))) (He (Ew kF (AB 0) (AB 2))))))
theorem Qt:AQ ["things","told"] ["things","told"] (AH Dv):=scM
theorem Oj:Af ["things","told"] (AH Dv) ["told","at","thing"] (ixC [1] 2) (Lq Dv 0):=csM
theorem KW:(["told","at","thing"]:Gc Str).Nodup:=by decide+kernel
theorem SE:AQ ["thing","told"] ["thing","told"] (AH HI):=scM
theorem iP(S_p_are_same:St.Src K mg "are_same" Dv)(S_p_is_same:St.Src K mg "is_same" HI)(B:Bts mg)(Ce:Kc P w K mg base):∀n:Nat,n<=8->SJ P w K mg base n/\LM P w K mg base n
 |0,_=>⟨ME S_p_are_same (λf fd F=>F.binds λ_ _ _ _ _ _ us hl=>match us,hl with| [_,_],_=>rfl),ME S_p_is_same (λf fd F=>F.binds λ_ _ _ _ _ _ us hl=>match us,hl with| [_,_],_=>rfl)⟩
 |n+1,hn=>by
  obtain⟨d_p_are_same,d_p_is_same⟩:=iP S_p_are_same S_p_is_same B Ce n (by omega)
  refine⟨?_,?_⟩
  .refine dfM (1+n) S_p_are_same Qt λhr hu=>?_
   exact(AK (AR (GN (Ew (Bo hu) (Ac Bq rfl B.len xA (AA (AB 0) AD)) (Ac Bq rfl B.len xA (AA (AB 1) AD))) (He (Ac (SI rfl) rfl B.all boot_all (AA (Dz [1] 2 ["told","at","thing"] rfl Oj (Sw rfl B.enumerate (AB 0)) (λs H fp=>⟨FA rfl (AO (Ah 1 KW) (AO (Ah 2 KW) Bg)),Cn,deM d_p_is_same hr (AA (AB 2) (AA (AL AW (AB 0) (AB 1)) AD))⟩)) AD))))))
  .refine dfM (1+n) S_p_is_same SE λhr hu=>?_
   exact(AG (CJ (JC (Ac B0 rfl B.isi vW (AA (AB 1) (AA (KC rfl B.tuple vc) AD)))) (AK (AR (GN (Ac B0 rfl B.isi vW (AA (AB 0) (AA (KC rfl B.tuple vc) AD))) (He (deM d_p_are_same hr (AA (AB 0) (AA (AB 1) AD))))))) Az)
    (AG (CJ (JC (Ac B0 rfl B.isi vW (AA (AB 1) (AA (KC rfl B.list xo) AD)))) (AK (AR (GN (Ac B0 rfl B.isi vW (AA (AB 0) (AA (KC rfl B.list xo) AD))) (He (deM d_p_are_same hr (AA (AB 0) (AA (AB 1) AD))))))) Az)
    (AG (CJ (Av Xk (AB 1) MM) (AK (AR (Ew Xk (AB 0) MM))) Az)
    (AK (AR (GN (deM Ce hr (AA (AB 0) AD)) (He (Ew (Bo hu) (AB 0) (AB 1)))))))))
theorem Di:AQ ["one","other"] ["one","other"] (AH CB):=scM
theorem CC  (S:St.Src K mg "greatest_divisor" CB)(B:Bts mg):Gv P w K mg base:=by
 refine dfM 0 S Di λhr hu=>?_
 exact(AG (Km (i:=0) (j:=1) rfl Di.nd rfl rfl (by decide) rfl rfl (Ac N0 rfl B.abs boot_abs (AA (AB 0) AD)) (Ac N0 rfl B.abs boot_abs (AA (AB 1) AD)))
      (AG (U8 (Vm 1) vC (Av (MG hu) (AB 1) AF) (AK (Km (i:=0) (j:=1) rfl Di.nd rfl rfl (by decide) rfl rfl (AB 1) (AX IU (AB 0) (AB 1)))))
      (AK (AR (AB 0)))))
end
section
open PyProof.Rows (boot_isinstance boot_int boot_bool boot_tuple boot_str boot_list boot_abs boot_all boot_any boot_sum boot_max boot_min boot_range boot_enumerate boot_zip boot_sorted boot_set boot_divmod)
variable{P:ur}{w:vO}{K:Wp}{mg:Str->uL W1}{base:vF}
theorem OP:AQ ["top","bottom","divisor"] ["top","bottom"] (AH JD):=scM
theorem BZ  (S:St.Src K mg "lowest" JD)(CC:Gv P w K mg base):G7 P w K mg base:=by
 refine dfM 1 S OP λhr hu=>?_
 exact(AG (Ai 2 (deM CC hr (AA (AB 0) (AA (AB 1) AD))) OP.nd)
      (AK (AR (A6 (AA (AX JX (AB 0) (AB 2)) (AA (AX JX (AB 1) (AB 2)) AD))))))
theorem Wo:AQ ["one","other"] ["one","other"] (AH Ll):=scM
theorem FC  (S:St.Src K mg "plus" Ll)(BZ:G7 P w K mg base):Nh P w K mg base:=by
 refine dfM 2 S Wo λhr hu=>?_
 exact(AK (AR (deM BZ hr (AA (AX AZ (AX Ap (AL AW (AB 0) AF) (AL AW (AB 1) AF)) (AX Ap (AL AW (AB 1) AF) (AL AW (AB 0) AF))) (AA (AX Ap (AL AW (AB 0) AF) (AL AW (AB 1) AF)) AD)))))
theorem WK:AQ ["one","other"] ["one","other"] (AH Ls):=scM
theorem Lh  (S:St.Src K mg "less" Ls)(BZ:G7 P w K mg base):Uz P w K mg base:=by
 refine dfM 2 S WK λhr hu=>?_
 exact(AK (AR (deM BZ hr (AA (AX Fx (AX Ap (AL AW (AB 0) AF) (AL AW (AB 1) AF)) (AX Ap (AL AW (AB 1) AF) (AL AW (AB 0) AF))) (AA (AX Ap (AL AW (AB 0) AF) (AL AW (AB 1) AF)) AD)))))
theorem V4:AQ ["one","other"] ["one","other"] (AH Ju):=scM
theorem FI  (S:St.Src K mg "times" Ju)(BZ:G7 P w K mg base):Nz P w K mg base:=by
 refine dfM 2 S V4 λhr hu=>?_
 exact(AK (AR (deM BZ hr (AA (AX Ap (AL AW (AB 0) AF) (AL AW (AB 1) AF)) (AA (AX Ap (AL AW (AB 0) AF) (AL AW (AB 1) AF)) AD)))))
theorem P7:AQ ["one","weight","other","more","top"] ["one","weight","other","more"] (AH Jx):=scM
theorem J7  (S:St.Src K mg "mixed" Jx)(BZ:G7 P w K mg base):R9 P w K mg base:=by
 refine dfM 2 S P7 λhr hu=>?_
 exact(AG (Ai 4 (AX AZ (AX Ap (AX Ap (AL AW (AB 0) AF) (AL AW (AB 2) AF)) (AB 1)) (AX Ap (AX Ap (AL AW (AB 2) AF) (AL AW (AB 0) AF)) (AB 3))) P7.nd)
      (AK (AR (deM BZ hr (AA (AB 4) (AA (AX Ap (AX Ap (AL AW (AB 0) AF) (AL AW (AB 2) AF)) (AX AZ (AB 1) (AB 3))) AD))))))
theorem Ks:AQ ["amounts","together","amount"] ["amounts"] (AH J3):=scM
theorem Kj  (S:St.Src K mg "total" J3)(ET:WC K mg "NOTHING" GX)(FC:Nh P w K mg base):Rw P w K mg base:=by
 refine dfM 3 S Ks λhr hu=>?_
 exact(AG (Ai 1 (Qw ET rfl) Ks.nd)
      (AG (E7 vC rfl (DR (AB 0)) (Ah 2 Ks.nd) (AK (Ai 1 (deM FC hr (AA (AB 1) (AA (AB 2) AD))) Ks.nd)))
      (AK (AR (AB 1)))))
end
section
open PyProof.Rows (boot_isinstance boot_int boot_bool boot_tuple boot_str boot_list boot_abs boot_all boot_any boot_sum boot_max boot_min boot_range boot_enumerate boot_zip boot_sorted boot_set boot_divmod)
variable{P:ur}{w:vO}{K:Wp}{mg:Str->uL W1}{base:vF}
theorem Oi:AQ ["held","load","pieces"] ["held","load","pieces"] (AH EL):=scM
theorem BM  (S:St.Src K mg "has_pieces" EL)(B:Bts mg):GA P w K mg base:=by
 refine dfM 0 S Oi λhr hu=>?_
 exact(AK (AR (GN (Ew K9 (AB 1) (Ac Bq rfl B.len xA (AA (AB 0) AD))) (He (Ew Yg (AL AW (AL AW (AB 0) (AB 1)) AF) (AB 2))))))
theorem Q9:AQ ["held","load","other"] ["held","load","other"] (AH GZ):=scM
theorem GH  (S:St.Src K mg "can_pool" GZ)(BM:GA P w K mg base):NI P w K mg base:=by
 refine dfM 1 S Q9 λhr hu=>?_
 exact(AK (AR (GN (deM BM hr (AA (AB 0) (AA (AB 1) (AA AF AD)))) (GN (deM BM hr (AA (AB 0) (AA (AB 2) (AA AF AD)))) (He (Ew (Bo hu) (AL AW (AL AW (AB 0) (AB 1)) AF) (AL AW (AL AW (AB 0) (AB 2)) AF)))))))
theorem QU:AQ ["held","load","given","kind"] ["held","load","given","kind"] (AH Gi):=scM
theorem Es  (S:St.Src K mg "can_swap" Gi)(BM:GA P w K mg base):M8 P w K mg base:=by
 refine dfM 1 S QU λhr hu=>?_
 exact(AK (AR (GN (deM BM hr (AA (AB 0) (AA (AB 1) (AA (AB 2) AD)))) (He (Ew (MG hu) (AL AW (AL AW (AB 0) (AB 1)) AF) (AB 3))))))
theorem LJ:AQ ["held","done","deed","word","numbers"] ["held","done","deed"] (AH Fz):=scM
theorem RA:Af ["held","done","deed","word","numbers"] (AH Fz) ["other"] (ixC [] 1) (Lq Fz 0):=csM
theorem QY:(["other"]:Gc Str).Nodup:=by decide+kernel
theorem Ig  (S:St.Src K mg "can_do" Fz)(BM:GA P w K mg base)(GH:NI P w K mg base)(Es:M8 P w K mg base):QB P w K mg base:=by
 refine dfM 2 S LJ λhr hu=>?_
 exact(AG (Ai 3 (AL AW (AB 2) AF) LJ.nd)
      (AG (CJ (Av (Bo hu) (AB 3) BA) (AK (AR (deM GH hr (AA (AB 0) (AA (AL AW (AB 2) AF) (AA (AL AW (AB 2) AF) AD)))))) Az)
      (AG (CJ (Av (Bo hu) (AB 3) BA) (AK (AR (deM Es hr (AA (AB 0) (AA (AL AW (AB 2) AF) (AA (AL AW (AB 2) AF) (AA (AL AW (AB 2) AF) AD))))))) Az)
      (AG (CJ (Av (Bo hu) (AB 3) BA) (AG (CU [] 1 ["other"] rfl LJ.nd rfl rfl RA (DR (AB 1)) (λs H fp=>⟨Ah 0 QY,KP (Av (Bo hu) (AL AW (AB 0) AF) BA),AL AW (AB 0) AF⟩))
      (AK (AR (GN (Ew Sq (AL AW (AB 2) AF) (AB 4)) (He (deM Es hr (AA (AB 0) (AA (AL AW (AB 2) AF) (AA (AL AW (AB 2) AF) (AA (AL AW (AB 2) AF) AD)))))))))) Az)
      (AG (CJ (Av OU (AB 3) (A6 (AA BA (AA BA AD)))) (AK (AR (deM BM hr (AA (AB 0) (AA (AL AW (AB 2) AF) (AA (AL AW (AB 2) AF) AD)))))) Az)
      (AK (AR UB)))))))
theorem F2:AQ ["held","load","pieces","kind","there"] ["held","load","pieces"] (AH DU):=scM
theorem Bn  (S:St.Src K mg "held_without" DU):Jh P w K mg base:=by
 refine dfM 0 S F2 λhr hu=>?_
 exact(AG (Hf (AL AW (AB 0) (AB 1)) (FA rfl (AO (Ah 3 F2.nd) (AO (Ah 4 F2.nd) Bg))))
      (AK (AR (AX AZ (AX AZ (IY (AB 0) (AB 1)) (BK (AA (A6 (AA (AB 3) (AA (AX Fx (AB 4) (AB 2)) AD))) AD))) (JG (AB 0) (AX AZ (AB 1) AF))))))
theorem BS:AQ ["held","deed","word","kind","pieces","more","load","given","got"] ["held","deed"] (AH Dk):=scM
theorem BL  (S:St.Src K mg "held_behind" Dk)(Bn:Jh P w K mg base):Fc P w K mg base:=by
 refine dfM 1 S BS λhr hu=>?_
 exact(AG (Ai 2 (AL AW (AB 1) AF) BS.nd)
      (AG (CJ (Av (Bo hu) (AB 2) BA) (AK (AR (AX AZ (AB 0) (BK (AA (A6 (AA (AL AW (AB 1) AF) (AA (AL AW (AB 1) AF) AD))) AD))))) Az)
      (AG (CJ (Av (Bo hu) (AB 2) BA) (AG (Hf (AL AW (AB 0) (AL AW (AB 1) AF)) (FA rfl (AO (Ah 3 BS.nd) (AO (Ah 4 BS.nd) Bg))))
      (AG (Ai 5 (AL AW (AL AW (AB 0) (AL AW (AB 1) AF)) AF) BS.nd)
      (AK (AR (AX AZ (deM Bn hr (AA (deM Bn hr (AA (AB 0) (AA (AL AW (AB 1) AF) (AA (AB 4) AD)))) (AA (AL AW (AB 1) AF) (AA (AB 5) AD)))) (BK (AA (A6 (AA (AB 3) (AA (AX AZ (AB 4) (AB 5)) AD))) AD))))))) Az)
      (AG (CJ (Av OU (AB 2) (A6 (AA BA (AA BA AD)))) (AG (Hf (JG (AB 1) (NY Gp AF)) (FA rfl (AO (Ah 6 BS.nd) (AO (Ah 7 BS.nd) (AO (Ah 3 BS.nd) (AO (Ah 8 BS.nd) Bg))))))
      (AK (AR (AX AZ (deM Bn hr (AA (AB 0) (AA (AB 6) (AA (AB 7) AD)))) (BK (AA (A6 (AA (AB 3) (AA (AB 8) AD))) AD)))))) Az)
      (AG (CJ (Av OU (AB 2) (A6 (AA BA (AA BA AD)))) (AK (AR (deM Bn hr (AA (AB 0) (AA (AL AW (AB 1) AF) (AA (AL AW (AB 1) AF) AD)))))) Az)
      (AK (AR (AB 0))))))))
end
section
open PyProof.Rows (boot_isinstance boot_int boot_bool boot_tuple boot_str boot_list boot_abs boot_all boot_any boot_sum boot_max boot_min boot_range boot_enumerate boot_zip boot_sorted boot_set boot_divmod)
variable{P:ur}{w:vO}{K:Wp}{mg:Str->uL W1}{base:vF}
theorem Ly:AQ ["book"] ["book"] (AH Bu):=scM
theorem K2:Af ["book"] (AH Bu) ["load"] (ixC [] 1) (Lq Bu 0):=csM
theorem K0:(["load"]:Gc Str).Nodup:=by decide+kernel
theorem A9  (S:St.Src K mg "held_at_first" Bu):EF P w K mg base:=by
 refine dfM 0 S Ly λhr hu=>?_
 exact(AK (AR (Dz [] 1 ["load"] rfl K2 (DR (AL AW (AB 0) AF)) (λs H fp=>⟨Ah 0 K0,Cn,A6 (AA (AL AW (AB 0) AF) (AA (AL AW (AB 0) AF) AD))⟩))))
theorem IF:AQ ["book","many","held","deed"] ["book","many"] (AH Hi):=scM
theorem Ed  (S:St.Src K mg "held_by" Hi)(BL:Fc P w K mg base)(A9:EF P w K mg base):LH P w K mg base:=by
 refine dfM 2 S IF λhr hu=>?_
 exact(AG (Ai 2 (deM A9 hr (AA (AB 0) AD)) IF.nd)
      (AG (E7 vC rfl (DR (IY (AL AW (AB 0) AF) (AB 1))) (Ah 3 IF.nd) (AK (Ai 2 (deM BL hr (AA (AB 2) (AA (AB 3) AD))) IF.nd)))
      (AK (AR (AB 2)))))
theorem LB:AQ ["deed","word"] ["deed"] (AH FH):=scM
theorem FU  (S:St.Src K mg "made_from" FH)(B:Bts mg):MD P w K mg base:=by
 refine dfM 0 S LB λhr hu=>?_
 exact(AG (Ai 1 (AL AW (AB 0) AF) LB.nd)
      (AG (CJ (Av (Bo hu) (AB 1) BA) (AK (AR (Ac SN rfl B.sorted boot_sorted (AA (BK (AA (AL AW (AB 0) AF) (AA (AL AW (AB 0) AF) AD))) AD)))) Az)
      (AG (CJ (Av OU (AB 1) (A6 (AA BA (AA BA AD)))) (AK (AR (BK (AA (AL AW (AB 0) (NY Gp AF)) AD)))) Az)
      (AK (AR (BK AD))))))
theorem CY:AQ ["book","held","deeds","at","deed"] ["book"] (AH Dr):=scM
theorem Dj  (S:St.Src K mg "first_wrong" Dr)(B:Bts mg)(Ig:QB P w K mg base)(BL:Fc P w K mg base)(A9:EF P w K mg base):KS P w K mg base:=by
 refine dfM 3 S CY λhr hu=>?_
 exact(AG (Ai 1 (deM A9 hr (AA (AB 0) AD)) CY.nd)
      (AG (Ai 2 (AL AW (AB 0) AF) CY.nd)
      (AG (E7 vC rfl (Sw rfl B.enumerate (AB 2)) (FA rfl (AO (Ah 3 CY.nd) (AO (Ah 4 CY.nd) Bg))) (AG (CJ (Rq (JC (deM Ig hr (AA (AB 1) (AA (IY (AB 2) (AB 3)) (AA (AB 4) AD)))))) (AK (AR (AB 3))) Az)
      (AK (Ai 1 (deM BL hr (AA (AB 1) (AA (AB 4) AD))) CY.nd))))
      (AK (AR MM)))))
theorem II:AQ ["book","wrong"] ["book"] (AH C5):=scM
theorem AV  (S:St.Src K mg "refuse_undone" C5)(Dj:KS P w K mg base):Bs P w K mg base:=by
 refine dfM 4 S II λhr hu=>?_
 exact(AG (Ai 1 (deM Dj hr (AA (AB 0) AD)) II.nd)
      (AK (CJ (Av Zc (AB 1) MM) (AK Ug) Az)))
theorem QV:AQ ["book","thing"] ["book","thing"] (AH Ga):=scM
theorem GW  (S:St.Src K mg "is_place" Ga)(B:Bts mg)(Fb:L8 P w K mg base):NC P w K mg base:=by
 refine dfM 3 S QV λhr hu=>?_
 exact(AK (AR (deM Fb hr (AA (AB 1) (AA AF (AA (AX Fx (Ac Bq rfl B.len xA (AA (AL AW (AB 0) AF) AD)) AF) AD))))))
end
section
open PyProof.Rows (boot_isinstance boot_int boot_bool boot_tuple boot_str boot_list boot_abs boot_all boot_any boot_sum boot_max boot_min boot_range boot_enumerate boot_zip boot_sorted boot_set boot_divmod)
variable{P:ur}{w:vO}{K:Wp}{mg:Str->uL W1}{base:vF}
theorem NW:AQ ["book","word","thing"] ["book","word","thing"] (AH Df):=scM
theorem Bz  (S:St.Src K mg "is_place_of" Df)(GW:NC P w K mg base):HR P w K mg base:=by
 refine dfM 4 S NW λhr hu=>?_
 exact(AK (AR (GN (deM GW hr (AA (AB 0) (AA (AB 2) AD))) (He (Ew (Bo hu) (AL AW (AL AW (AL AW (AB 0) AF) (AB 2)) AF) (AB 1))))))
theorem O6:AQ ["many","one"] ["many","one"] (AH Co):=scM
theorem Md:Af ["many","one"] (AH Co) ["one","at"] (ixC [1] 1) (Lq Co 0):=csM
theorem MX:(["one","at"]:Gc Str).Nodup:=by decide+kernel
theorem EO  (S:St.Src K mg "all_to_one" Co)(B:Bts mg)(T8:WC K mg "ALL" XB)(ET:WC K mg "NOTHING" GX):LF P w K mg base:=by
 refine dfM 0 S O6 λhr hu=>?_
 exact(AK (AR (Am BC rfl B.tuple vc (AA (Dz [1] 1 ["one","at"] rfl Md (Fv rfl B.range (AA (AB 0) AD)) (λs H fp=>⟨Ah 1 MX,Cn,pD (Av (Bo hu) (AB 1) (AB 0)) (Qw T8 rfl) (Qw ET rfl)⟩)) AD))))
theorem MO:AQ ["shares","weight","others","more"] ["shares","weight","others","more"] (AH B7):=scM
theorem LL:Af ["shares","weight","others","more"] (AH B7) ["weight","more","share","other"] (ixC [1,3] 2) (Lq B7 0):=csM
theorem Ht:(["weight","more","share","other"]:Gc Str).Nodup:=by decide+kernel
theorem Bp  (S:St.Src K mg "mixed_shares" B7)(B:Bts mg)(J7:R9 P w K mg base):Gu P w K mg base:=by
 refine dfM 3 S MO λhr hu=>?_
 exact(AK (AR (Am BC rfl B.tuple vc (AA (Dz [1,3] 2 ["weight","more","share","other"] rfl LL (P2 rfl B.zip (AB 0) (AB 2)) (λs H fp=>⟨FA rfl (AO (Ah 2 Ht) (AO (Ah 3 Ht) Bg)),Cn,deM J7 hr (AA (AB 2) (AA (AB 0) (AA (AB 3) (AA (AB 1) AD))))⟩)) AD))))
theorem EW:AQ ["held","shares","deed","sources","load","other"] ["held","shares","deed"] (AH Dy):=scM
theorem Du  (S:St.Src K mg "made_shares" Dy)(B:Bts mg)(FU:MD P w K mg base)(Bp:Gu P w K mg base):Kb P w K mg base:=by
 refine dfM 4 S EW λhr hu=>?_
 exact(AG (Ai 3 (deM FU hr (AA (AB 2) AD)) EW.nd)
      (AG (CJ (Av (Bo hu) (Ac Bq rfl B.len xA (AA (AB 3) AD)) AF) (AK (AR (AL AW (AB 1) (AL AW (AB 3) AF)))) Az)
      (AG (Hf (AB 3) (FA rfl (AO (Ah 4 EW.nd) (AO (Ah 5 EW.nd) Bg))))
      (AK (AR (deM Bp hr (AA (AL AW (AB 1) (AB 4)) (AA (AL AW (AL AW (AB 0) (AB 4)) AF) (AA (AL AW (AB 1) (AB 5)) (AA (AL AW (AL AW (AB 0) (AB 5)) AF) AD))))))))))
theorem MW:AQ ["train","held","worths"] ["train","held","worths"] (AH CA):=scM
theorem LW:Af ["train","held","worths"] (AH CA) ["worths","kind","pieces"] (ixC [2] 2) (Lq CA 0):=csM
theorem Ho:(["worths","kind","pieces"]:Gc Str).Nodup:=by decide+kernel
theorem DV  (S:St.Src K mg "worth_of_all" CA)(B:Bts mg):Ji P w K mg base:=by
 refine dfM 0 S MW λhr hu=>?_
 exact(AK (AR (AX AZ (Ac (L4 rfl) rfl B.sum boot_sum (AA (Dz [2] 2 ["worths","kind","pieces"] rfl LW (DR (AB 1)) (λs H fp=>⟨FA rfl (AO (Ah 1 Ho) (AO (Ah 2 Ho) Bg)),Cn,AX Ap (AB 2) (AL AW (AB 0) (AB 1))⟩)) AD)) (AX Ap (AL AW (AB 0) AF) (AL AW (AB 2) (NY Gp AF))))))
theorem Eb:AQ ["train","held","deed","load","pieces","worths"] ["train","held","deed"] (AH Dg):=scM
theorem BR  (S:St.Src K mg "part_thrown" Dg)(BZ:G7 P w K mg base)(DV:Ji P w K mg base):FK P w K mg base:=by
 refine dfM 2 S Eb λhr hu=>?_
 exact(AG (Hf (JG (AB 2) AF) (FA rfl (AO (Ah 3 Eb.nd) (AO (Ah 4 Eb.nd) (AO (Ah 5 Eb.nd) Bg)))))
      (AK (AR (deM BZ hr (AA (AX Ap (AB 4) (AL AW (AB 5) (AL AW (AL AW (AB 1) (AB 3)) AF))) (AA (deM DV hr (AA (AB 0) (AA (AB 1) (AA (AB 5) AD)))) AD))))))
end
section
open PyProof.Rows (boot_isinstance boot_int boot_bool boot_tuple boot_str boot_list boot_abs boot_all boot_any boot_sum boot_max boot_min boot_range boot_enumerate boot_zip boot_sorted boot_set boot_divmod)
variable{P:ur}{w:vO}{K:Wp}{mg:Str->uL W1}{base:vF}
theorem FJ:AQ ["train","held","owners","deed","shares","top","bottom"] ["train","held","owners","deed","shares"] (AH Cu):=scM
theorem Cy  (S:St.Src K mg "thrown_shares" Cu)(Bp:Gu P w K mg base)(BR:FK P w K mg base):JE P w K mg base:=by
 refine dfM 4 S FJ λhr hu=>?_
 exact(AG (Hf (deM BR hr (AA (AB 0) (AA (AB 1) (AA (AB 3) AD)))) (FA rfl (AO (Ah 5 FJ.nd) (AO (Ah 6 FJ.nd) Bg))))
      (AK (AR (deM Bp hr (AA (AB 4) (AA (AX Fx (AB 6) (AB 5)) (AA (AL AW (AB 2) (AL AW (AB 3) AF)) (AA (AB 5) AD))))))))
theorem CW:AQ ["deed","shares","partner","other","sold","passed","changed"] ["deed","shares"] (AH Ds):=scM
theorem Dl  (S:St.Src K mg "sold_shares" Ds)(B:Bts mg)(FC:Nh P w K mg base)(Lh:Uz P w K mg base)(FI:Nz P w K mg base):KD P w K mg base:=by
 refine dfM 3 S CW λhr hu=>?_
 exact(AG (Hf (JG (AB 0) AF) (FA rfl (AO (Ah 2 CW.nd) (AO (Ah 3 CW.nd) (AO (Ah 4 CW.nd) Bg)))))
      (AG (Ai 5 (deM FI hr (AA (AL AW (AB 1) (AB 2)) (AA (AB 4) AD))) CW.nd)
      (AG (Ai 6 (Am Fg rfl B.list xo (AA (AB 1) AD)) CW.nd)
      (AG (Ct (deM Lh hr (AA (AL AW (AB 1) (AB 2)) (AA (AB 5) AD))) (AB 6) (AB 2))
      (AG (Ct (deM FC hr (AA (AL AW (AB 1) (AB 3)) (AA (AB 5) AD))) (AB 6) (AB 3))
      (AK (AR (Am BC rfl B.tuple vc (AA (AB 6) AD)))))))))
theorem MB:AQ ["train","held","owners","deed","shares"] ["train","held","owners","deed","shares"] (AH C3):=scM
theorem Bc  (S:St.Src K mg "shares_behind" C3)(Cy:JE P w K mg base)(Dl:KD P w K mg base):Fh P w K mg base:=by
 refine dfM 5 S MB λhr hu=>?_
 exact(AG (CJ (Av (Bo hu) (AL AW (AB 3) AF) BA) (AK (AR (deM Cy hr (AA (AB 0) (AA (AB 1) (AA (AB 2) (AA (AB 3) (AA (AB 4) AD)))))))) Az)
      (AG (CJ (Av (Bo hu) (AL AW (AB 3) AF) BA) (AK (AR (deM Dl hr (AA (AB 3) (AA (AB 4) AD))))) Az)
      (AK (AR (AB 4)))))
theorem IH:AQ ["train","held","owners","deed","behind"] ["train","held","owners","deed"] (AH Bw):=scM
theorem K3:Af ["train","held","owners","deed","behind"] (AH Bw) ["train","held","owners","deed","shares"] (ixC [0,1,2,3] 1) (Lq Bw 0):=csM
theorem K5:(["train","held","owners","deed","shares"]:Gc Str).Nodup:=by decide+kernel
theorem Cv  (S:St.Src K mg "owners_behind" Bw)(JU:WC K mg "MAKERS" EX)(EO:LF P w K mg base)(Du:Kb P w K mg base)(Bc:Fh P w K mg base):Ik P w K mg base:=by
 refine dfM 6 S IH λhr hu=>?_
 exact(AG (CU [0,1,2,3] 1 ["train","held","owners","deed","shares"] rfl IH.nd rfl rfl K3 (DR (AB 2)) (λs H fp=>⟨Ah 4 K5,Cn,deM Bc hr (AA (AB 0) (AA (AB 1) (AA (AB 2) (AA (AB 3) (AA (AB 4) AD)))))⟩))
      (AG (CJ (Av (Bo hu) (AL AW (AB 3) AF) BA) (AK (AR (AX AZ (AB 4) (BK (AA (deM EO hr (AA (AL AW (AB 0) AF) (AA (AL AW (AB 3) AF) AD))) AD))))) Az)
      (AG (CJ (Av OU (AL AW (AB 3) AF) (Qw JU rfl)) (AK (AR (AX AZ (AB 4) (BK (AA (deM Du hr (AA (AB 1) (AA (AB 2) (AA (AB 3) AD)))) AD))))) Az)
      (AK (AR (AB 4))))))
theorem Bk:AQ ["book","many","train","first","deeds","held","owners","holders","deed"] ["book","many"] (AH Dw):=scM
theorem Of:Af ["book","many","train","first","deeds","held","owners","holders","deed"] (AH Dw) ["load"] (ixC [] 1) (Lq Dw 0):=csM
theorem OR:(["load"]:Gc Str).Nodup:=by decide+kernel
theorem E5  (S:St.Src K mg "state_by" Dw)(BL:Fc P w K mg base)(A9:EF P w K mg base)(Bc:Fh P w K mg base)(Cv:Ik P w K mg base):Mr P w K mg base:=by
 refine dfM 7 S Bk λhr hu=>?_
 exact(AG (Hf (AB 0) (FA rfl (AO (Ah 2 Bk.nd) (AO (Ah 3 Bk.nd) (AO (Ah 4 Bk.nd) Bg)))))
      (AG (Ai 5 (deM A9 hr (AA (AB 0) AD)) Bk.nd)
      (AG (CU [] 1 ["load"] rfl Bk.nd rfl rfl Of (DR (AB 3)) (λs H fp=>⟨Ah 0 OR,Cn,AL AW (AB 0) AF⟩))
      (AG (Ai 7 (AL AW (AB 2) AF) Bk.nd)
      (AG (E7 vC rfl (DR (IY (AB 4) (AB 1))) (Ah 8 Bk.nd) (AG (Ai 7 (deM Bc hr (AA (AB 2) (AA (AB 5) (AA (AB 6) (AA (AB 8) (AA (AB 7) AD)))))) Bk.nd)
      (AG (Ai 6 (deM Cv hr (AA (AB 2) (AA (AB 5) (AA (AB 6) (AA (AB 8) AD))))) Bk.nd)
      (AK (Ai 5 (deM BL hr (AA (AB 5) (AA (AB 8) AD))) Bk.nd)))))
      (AK (AR (A6 (AA (AB 5) (AA (AB 6) (AA (AB 7) AD)))))))))))
theorem Gy:AQ ["book","place"] ["book","place"] (AH BU):=scM
theorem Aq  (S:St.Src K mg "refuse_no_throw" BU)(Bz:HR P w K mg base)(HX:XcD K mg "NoThrow"):DO P w K mg base:=by
 refine Qc (k:=5) S Gy rfl (λf fd F=>F.binds λ_ _ _ _ _ _ us hl=>match us,hl with| [_,_],_=>rfl) λf cdv A outer s H E hr=>?_
 have hu:=LV hr
 exact(Yb (pH (Rq (JC (deM Bz hr (AA (AB 0) (AA BA (AA (AB 1) AD)))))) (Yb (aR rfl HX rfl (AA BA AD))) UY))
theorem AS  (S:St.Src K mg "refuse_no_throw" BU)(Bz:HR P w K mg base):BV P w K mg base:=by
 refine dfM 5 S Gy λhr hu=>?_
 exact(AK (CJ (Rq (JC (deM Bz hr (AA (AB 0) (AA BA (AA (AB 1) AD)))))) (AK Ug) Az))
end
section
open PyProof.Rows (boot_isinstance boot_int boot_bool boot_tuple boot_str boot_list boot_abs boot_all boot_any boot_sum boot_max boot_min boot_range boot_enumerate boot_zip boot_sorted boot_set boot_divmod)
variable{P:ur}{w:vO}{K:Wp}{mg:Str->uL W1}{base:vF}
theorem C6:AQ ["train","state","worths","partner","held","owners","holders","amounts"] ["train","state","worths","partner"] (AH B6):=scM
theorem LY:Af ["train","state","worths","partner","held","owners","holders","amounts"] (AH B6) ["worths","partner","shares","kind","pieces"] (ixC [2,3] 3) (Lq B6 0):=csM
theorem Ej:(["worths","partner","shares","kind","pieces"]:Gc Str).Nodup:=by decide+kernel
theorem CV  (S:St.Src K mg "worth_theirs" B6)(B:Bts mg)(FC:Nh P w K mg base)(FI:Nz P w K mg base)(Kj:Rw P w K mg base):Jm P w K mg base:=by
 refine dfM 4 S C6 λhr hu=>?_
 exact(AG (Hf (AB 1) (FA rfl (AO (Ah 4 C6.nd) (AO (Ah 5 C6.nd) (AO (Ah 6 C6.nd) Bg)))))
      (AG (CU [2,3] 3 ["worths","partner","shares","kind","pieces"] rfl C6.nd rfl rfl LY (P2 rfl B.zip (AB 4) (AB 5)) (λs H fp=>⟨FA rfl (AO (FA rfl (AO (Ah 3 Ej) (AO (Ah 4 Ej) Bg))) (AO (Ah 2 Ej) Bg)),Cn,deM FI hr (AA (A6 (AA (AX Ap (AB 4) (AL AW (AB 0) (AB 3))) (AA AF AD))) (AA (AL AW (AB 2) (AB 1)) AD))⟩))
      (AK (AR (deM FC hr (AA (deM Kj hr (AA (AB 7) AD)) (AA (deM FI hr (AA (A6 (AA (AX Ap (AL AW (AB 0) AF) (AL AW (AB 2) (NY Gp AF))) (AA AF AD))) (AA (AL AW (AB 6) (AB 3)) AD))) AD)))))))
theorem Cw:AQ ["book","place","train","worths","ahead","behind","pairs","partner"] ["book","place"] (AH DP):=scM
theorem A7  (S:St.Src K mg "bearing_told" DP)(B:Bts mg)(E5:Mr P w K mg base)(CV:Jm P w K mg base):DQ P w K mg base:=by
 refine dfM 8 S Cw λhr hu=>?_
 exact(AG (Km (i:=2) (j:=3) rfl Cw.nd rfl rfl (by decide) rfl rfl (AL AW (AB 0) AF) (AL AW (AL AW (AL AW (AB 0) AF) (AB 1)) AF))
      (AG (Km (i:=4) (j:=5) rfl Cw.nd rfl rfl (by decide) rfl rfl (deM E5 hr (AA (AB 0) (AA (AB 1) AD))) (deM E5 hr (AA (AB 0) (AA (AX AZ (AB 1) AF) AD))))
      (AG (Ai 6 (BK AD) Cw.nd)
      (AG (E7 vC rfl (Fv rfl B.range (AA (AL AW (AB 2) AF) AD)) (Ah 7 Cw.nd) (AK (BW (IP vA vD F1 (AB 6) (AA (A6 (AA (deM CV hr (AA (AB 2) (AA (AB 4) (AA (AB 3) (AA (AB 7) AD))))) (AA (deM CV hr (AA (AB 2) (AA (AB 5) (AA (AB 3) (AA (AB 7) AD))))) AD))) AD)))))
      (AK (AR (Am BC rfl B.tuple vc (AA (AB 6) AD))))))))
theorem Mv:AQ ["book","place"] ["book","place"] (AH Eo):=scM
theorem Hb  (S:St.Src K mg "cost_of" Eo)(Ed:LH P w K mg base)(AV:Bs P w K mg base)(BR:FK P w K mg base)(AS:BV P w K mg base)(Aq:DO P w K mg base):OA P w K mg base:=by
 refine Qc (k:=6) S Mv rfl (λf fd F=>F.binds λ_ _ _ _ _ _ us hl=>match us,hl with| [_,_],_=>rfl) λf cdv A outer s H E hr=>?_
 have hu:=LV hr
 exact(Ky eE (BW (deM AV hr (AA (AB 0) AD)))
      (Ky (UM (MY Aq (hr.mono (by decide)) rfl (AA (AB 0) (AA (AB 1) AD)))) (BW (deM AS hr (AA (AB 0) (AA (AB 1) AD))))
      UY))
theorem HQ  (S:St.Src K mg "cost_of" Eo)(Ed:LH P w K mg base)(AV:Bs P w K mg base)(BR:FK P w K mg base)(AS:BV P w K mg base):OB P w K mg base:=by
 refine dfM 6 S Mv λhr hu=>?_
 exact(AG (BW (deM AV hr (AA (AB 0) AD)))
      (AG (BW (deM AS hr (AA (AB 0) (AA (AB 1) AD))))
      (AK (AR (deM BR hr (AA (AL AW (AB 0) AF) (AA (deM Ed hr (AA (AB 0) (AA (AB 1) AD))) (AA (AL AW (AL AW (AB 0) AF) (AB 1)) AD))))))))
theorem Mt:AQ ["book","place"] ["book","place"] (AH Eh):=scM
theorem Hg  (S:St.Src K mg "bearing" Eh)(AV:Bs P w K mg base)(AS:BV P w K mg base)(A7:DQ P w K mg base)(Aq:DO P w K mg base):ON P w K mg base:=by
 refine Qc (k:=9) S Mt rfl (λf fd F=>F.binds λ_ _ _ _ _ _ us hl=>match us,hl with| [_,_],_=>rfl) λf cdv A outer s H E hr=>?_
 have hu:=LV hr
 exact(Ky eE (BW (deM AV hr (AA (AB 0) AD)))
      (Ky (UM (MY Aq (hr.mono (by decide)) rfl (AA (AB 0) (AA (AB 1) AD)))) (BW (deM AS hr (AA (AB 0) (AA (AB 1) AD))))
      UY))
theorem HP  (S:St.Src K mg "bearing" Eh)(AV:Bs P w K mg base)(AS:BV P w K mg base)(A7:DQ P w K mg base):O7 P w K mg base:=by
 refine dfM 9 S Mt λhr hu=>?_
 exact(AG (BW (deM AV hr (AA (AB 0) AD)))
      (AG (BW (deM AS hr (AA (AB 0) (AA (AB 1) AD))))
      (AK (AR (deM A7 hr (AA (AB 0) (AA (AB 1) AD)))))))
theorem Hx:AQ ["book","place","thing"] ["book","place","thing"] (AH Br):=scM
theorem C7  (S:St.Src K mg "bearing_holds" Br)(d_p_is_same:LM P w K mg base 8)(AV:Bs P w K mg base)(AS:BV P w K mg base)(A7:DQ P w K mg base)(Aq:DO P w K mg base):Ih P w K mg base:=by
 refine Qc (k:=9) S Hx rfl (λf fd F=>F.binds λ_ _ _ _ _ _ us hl=>match us,hl with| [_,_,_],_=>rfl) λf cdv A outer s H E hr=>?_
 have hu:=LV hr
 exact(Ky eE (BW (deM AV hr (AA (AB 0) AD)))
      (Ky (UM (MY Aq (hr.mono (by decide)) rfl (AA (AB 0) (AA (AB 1) AD)))) (BW (deM AS hr (AA (AB 0) (AA (AB 1) AD))))
      UY))
theorem Ba  (S:St.Src K mg "bearing_holds" Br)(d_p_is_same:LM P w K mg base 8)(AV:Bs P w K mg base)(AS:BV P w K mg base)(A7:DQ P w K mg base):F4 P w K mg base:=by
 refine dfM 9 S Hx λhr hu=>?_
 exact(AG (BW (deM AV hr (AA (AB 0) AD)))
      (AG (BW (deM AS hr (AA (AB 0) (AA (AB 1) AD))))
      (AK (AR (deM d_p_is_same hr (AA (AB 2) (AA (deM A7 hr (AA (AB 0) (AA (AB 1) AD))) AD)))))))
theorem Pa:AQ ["_law_script","_law_k"] ["_law_script","_law_k"] (AH FX):=scM
theorem FQ  (S:St.Src K mg "_law_cell_at" FX)(B:Bts mg):MI P w K mg base:=by
 refine dfM 0 S Pa λhr hu=>?_
 exact(AG (CJ (Av K9 (AB 1) (Ac Bq rfl B.len xA (AA (AB 0) AD))) (AK (AR (AL AW (AB 0) (AB 1)))) Az)
      (AK (AR AF)))
end
section
open PyProof.Rows (boot_isinstance boot_int boot_bool boot_tuple boot_str boot_list boot_abs boot_all boot_any boot_sum boot_max boot_min boot_range boot_enumerate boot_zip boot_sorted boot_set boot_divmod)
variable{P:ur}{w:vO}{K:Wp}{mg:Str->uL W1}{base:vF}
theorem Vv:AQ ["_law_cell"] ["_law_cell"] (AH J4):=scM
theorem KR  (S:St.Src K mg "_law_pen" J4)(B:Bts mg):R1 P w K mg base:=by
 refine dfM 0 S Vv λhr hu=>?_
 exact(AK (AR (BK (AA (AB 0) (AA (Am L6 rfl B.int AAJ (AA (Ew Yg (AB 0) (AX Qk AF AF)) AD)) (AA AF (AA (AX IU (AB 0) AF) AD)))))))
theorem JW:AQ ["_law_pen_here","_law_bound","_law_found","_law_stir"] ["_law_pen_here","_law_bound"] (AH JB):=scM
theorem AM  (S:St.Src K mg "_law_draw" JB):CM P w K mg base:=by
 refine dfM 0 S JW λhr hu=>?_
 exact(AG (CJ (DW.dt (KA (Av (Bo hu) (AL AW (AB 0) AF) AF) (IX (Av NQ (AL AW (AB 0) AF) AF)))) (AG (Ai 2 (AX IU (AL AW (AB 0) AF) (AB 1)) JW.nd)
      (AG (Ct (AX JX (AL AW (AB 0) AF) (AB 1)) (AB 0) AF)
      (AK (AR (AB 2))))) Az)
      (AG (Ct (AX AZ (AL AW (AB 0) AF) AF) (AB 0) AF)
      (AG (Ai 3 (AX IU (AX Ap (AX AZ (AL AW (AB 0) AF) AF) (AX AZ AF (AX Ap AF (AL AW (AB 0) AF)))) AF) JW.nd)
      (AG (Ai 3 (AX IU (AX AZ (AX AZ (AX Ap (AB 3) (AB 3)) (AX Ap AF (AL AW (AB 0) AF))) AF) AF) JW.nd)
      (AK (AR (AX IU (AX JX (AX IU (AX Ap (AB 3) AF) AF) AF) (AB 1))))))))
theorem MJ:AQ ["_law_one","_law_other"] ["_law_one","_law_other"] (AH GY):=scM
theorem GP  (S:St.Src K mg "_law_common" GY):Mz P w K mg base:=by
 refine dfM 0 S MJ λhr hu=>?_
 exact(AG (U8 (Vm 1) vC (Av NQ (AB 1) AF) (AK (Km (i:=0) (j:=1) rfl MJ.nd rfl rfl (by decide) rfl rfl (AB 1) (AX IU (AB 0) (AB 1)))))
      (AK (AR (AB 0))))
theorem Ox:AQ ["_law_top","_law_bottom","_law_by"] ["_law_top","_law_bottom"] (AH Iz):=scM
theorem BH  (S:St.Src K mg "_law_made" Iz)(B:Bts mg)(GP:Mz P w K mg base):F6 P w K mg base:=by
 refine dfM 1 S Ox λhr hu=>?_
 exact(AG (Ai 2 (deM GP hr (AA (Ac N0 rfl B.abs boot_abs (AA (AB 0) AD)) (AA (AB 1) AD))) Ox.nd)
      (AK (AR (A6 (AA (AX JX (AB 0) (AB 2)) (AA (AX JX (AB 1) (AB 2)) AD))))))
theorem TV:AQ ["_law_one","_law_other"] ["_law_one","_law_other"] (AH Ib):=scM
theorem Be  (S:St.Src K mg "_law_plus" Ib)(BH:F6 P w K mg base):G6 P w K mg base:=by
 refine dfM 2 S TV λhr hu=>?_
 exact(AK (AR (deM BH hr (AA (AX AZ (AX Ap (AL AW (AB 0) AF) (AL AW (AB 1) AF)) (AX Ap (AL AW (AB 1) AF) (AL AW (AB 0) AF))) (AA (AX Ap (AL AW (AB 0) AF) (AL AW (AB 1) AF)) AD)))))
theorem Rh:AQ ["_law_one","_law_other"] ["_law_one","_law_other"] (AH HZ):=scM
theorem BG  (S:St.Src K mg "_law_times" HZ)(BH:F6 P w K mg base):HG P w K mg base:=by
 refine dfM 2 S Rh λhr hu=>?_
 exact(AK (AR (deM BH hr (AA (AX Ap (AL AW (AB 0) AF) (AL AW (AB 1) AF)) (AA (AX Ap (AL AW (AB 0) AF) (AL AW (AB 1) AF)) AD)))))
end
section
open PyProof.Rows (boot_isinstance boot_int boot_bool boot_tuple boot_str boot_list boot_abs boot_all boot_any boot_sum boot_max boot_min boot_range boot_enumerate boot_zip boot_sorted boot_set boot_divmod)
variable{P:ur}{w:vO}{K:Wp}{mg:Str->uL W1}{base:vF}
theorem UH:AQ ["_law_one","_law_other"] ["_law_one","_law_other"] (AH Ir):=scM
theorem E9  (S:St.Src K mg "_law_less" Ir)(Be:G6 P w K mg base):Mj P w K mg base:=by
 refine dfM 3 S UH λhr hu=>?_
 exact(AK (AR (deM Be hr (AA (AB 0) (AA (A6 (AA (AX Fx AF (AL AW (AB 1) AF)) (AA (AL AW (AB 1) AF) AD))) AD)))))
theorem Ko:AQ ["_law_some","_law_found","_law_one"] ["_law_some"] (AH KJ):=scM
theorem J2  (S:St.Src K mg "_law_sum" KJ)(Be:G6 P w K mg base):RZ P w K mg base:=by
 refine dfM 3 S Ko λhr hu=>?_
 exact(AG (Ai 1 (A6 (AA AF (AA AF AD))) Ko.nd)
      (AG (E7 vC rfl (DR (AB 0)) (Ah 2 Ko.nd) (AK (Ai 1 (deM Be hr (AA (AB 1) (AA (AB 2) AD))) Ko.nd)))
      (AK (AR (AB 1)))))
theorem NB:AQ ["_law_pen_here","_law_many","_law_weights"] ["_law_pen_here","_law_many"] (AH DC):=scM
theorem PQ:Af ["_law_pen_here","_law_many","_law_weights"] (AH DC) ["_law_pen_here","_law_one"] (ixC [0] 1) (Lq DC 0):=csM
theorem Po:(["_law_pen_here","_law_one"]:Gc Str).Nodup:=by decide+kernel
theorem PV:Af ["_law_pen_here","_law_many","_law_weights"] (AH DC) ["_law_weights","_law_weight"] (ixC [2] 1) (Lq DC 1):=csM
theorem PY:(["_law_weights","_law_weight"]:Gc Str).Nodup:=by decide+kernel
theorem Dx  (S:St.Src K mg "_law_whole" DC)(B:Bts mg)(AM:CM P w K mg base)(BH:F6 P w K mg base):LR P w K mg base:=by
 refine dfM 2 S NB λhr hu=>?_
 exact(AG (Ai 2 (Dz [0] 1 ["_law_pen_here","_law_one"] rfl PQ (Fv rfl B.range (AA (AB 1) AD)) (λs H fp=>⟨Ah 1 Po,Cn,AL AW (BK (AA AF (AA AF (AA (deM AM hr (AA (AB 0) (AA AF AD))) (AA (deM AM hr (AA (AB 0) (AA AF AD))) AD))))) (deM AM hr (AA (AB 0) (AA AF AD)))⟩)) NB.nd)
      (AG (CJ (Av (Bo hu) (Ac (L4 rfl) rfl B.sum boot_sum (AA (AB 2) AD)) AF) (AK (Ct AF (AB 2) (deM AM hr (AA (AB 0) (AA (AB 1) AD))))) Az)
      (AK (AR (Am BC rfl B.tuple vc (AA (Dz [2] 1 ["_law_weights","_law_weight"] rfl PV (DR (AB 2)) (λs H fp=>⟨Ah 1 PY,Cn,deM BH hr (AA (AB 1) (AA (Ac (L4 rfl) rfl B.sum boot_sum (AA (AB 0) AD)) AD))⟩)) AD))))))
theorem MH:AQ ["_law_pen_here","_law_great"] ["_law_pen_here"] (AH GJ):=scM
theorem BY  (S:St.Src K mg "_law_pieces" GJ)(AM:CM P w K mg base):IA P w K mg base:=by
 refine dfM 1 S MH λhr hu=>?_
 exact(AG (Ai 1 (AX AZ (AX Qk AF AF) (deM AM hr (AA (AB 0) (AA AF AD)))) MH.nd)
      (AK (AR (AL AW (BK (AA (AX AZ AF (deM AM hr (AA (AB 0) (AA AF AD)))) (AA (AX AZ AF (deM AM hr (AA (AB 0) (AA AF AD)))) (AA (AX AZ AF (deM AM hr (AA (AB 0) (AA AF AD)))) (AA (AB 1) AD))))) (AX JX (deM AM hr (AA (AB 0) (AA AF AD))) AF)))))
theorem Ka:AQ ["_law_pen_here","_law_partners","_law_kinds","_law_beasts"] ["_law_pen_here"] (AH HJ):=scM
theorem Hs  (S:St.Src K mg "_law_train" HJ)(AM:CM P w K mg base)(Dx:LR P w K mg base):OS P w K mg base:=by
 refine dfM 3 S Ka λhr hu=>?_
 exact(AG (Km (i:=1) (j:=2) rfl Ka.nd rfl rfl (by decide) rfl rfl (AX AZ AF (deM AM hr (AA (AB 0) (AA AF AD)))) (AX AZ AF (deM AM hr (AA (AB 0) (AA AF AD)))))
      (AG (Ai 3 (AL AW (BK (AA (AX AZ AF (deM AM hr (AA (AB 0) (AA AF AD)))) (AA (AX AZ AF (deM AM hr (AA (AB 0) (AA AF AD)))) AD))) (deM AM hr (AA (AB 0) (AA AF AD)))) Ka.nd)
      (AK (AR (A6 (AA (AB 1) (AA (AB 2) (AA (AB 3) (AA (deM Dx hr (AA (AB 0) (AA (AB 1) AD))) (AA (deM AM hr (AA (AB 0) (AA AF AD))) (AA (deM AM hr (AA (AB 0) (AA AF AD))) AD)))))))))))
theorem KY:AQ ["_law_pen_here","_law_train_here","_law_found","_law_k"] ["_law_pen_here","_law_train_here"] (AH HH):=scM
theorem Hj  (S:St.Src K mg "_law_first" HH)(B:Bts mg)(AM:CM P w K mg base)(Dx:LR P w K mg base)(BY:IA P w K mg base):OW P w K mg base:=by
 refine dfM 3 S KY λhr hu=>?_
 exact(AG (Ai 2 (BK AD) KY.nd)
      (AG (E7 vC rfl (Fv rfl B.range (AA (AL AW (BK (AA AF (AA AF (AA (deM AM hr (AA (AB 0) (AA AF AD))) AD)))) (deM AM hr (AA (AB 0) (AA AF AD)))) AD)) (Ah 3 KY.nd) (AK (BW (IP vA vD F1 (AB 2) (AA (A6 (AA (deM AM hr (AA (AB 0) (AA (AL AW (AB 1) AF) AD))) (AA (deM BY hr (AA (AB 0) AD)) (AA (deM Dx hr (AA (AB 0) (AA (AL AW (AB 1) AF) AD))) AD)))) AD)))))
      (AK (AR (Am BC rfl B.tuple vc (AA (AB 2) AD))))))
end
section
open PyProof.Rows (boot_isinstance boot_int boot_bool boot_tuple boot_str boot_list boot_abs boot_all boot_any boot_sum boot_max boot_min boot_range boot_enumerate boot_zip boot_sorted boot_set boot_divmod)
variable{P:ur}{w:vO}{K:Wp}{mg:Str->uL W1}{base:vF}
theorem My:AQ ["_law_pen_here","_law_bottom"] ["_law_pen_here"] (AH Hn):=scM
theorem HU  (S:St.Src K mg "_law_share" Hn)(AM:CM P w K mg base)(BH:F6 P w K mg base):N4 P w K mg base:=by
 refine dfM 2 S My λhr hu=>?_
 exact(AG (Ai 1 (AX AZ AF (deM AM hr (AA (AB 0) (AA AF AD)))) My.nd)
      (AK (AR (deM BH hr (AA (AX AZ AF (deM AM hr (AA (AB 0) (AA (AB 1) AD)))) (AA (AB 1) AD))))))
theorem RM:AQ ["_law_pen_here","_law_many"] ["_law_pen_here","_law_many"] (AH Dt):=scM
theorem Ny:Af ["_law_pen_here","_law_many"] (AH Dt) ["_law_pen_here","_law_one"] (ixC [0] 1) (Lq Dt 0):=csM
theorem O0:(["_law_pen_here","_law_one"]:Gc Str).Nodup:=by decide+kernel
theorem DB  (S:St.Src K mg "_law_worths" Dt)(B:Bts mg)(AM:CM P w K mg base):KO P w K mg base:=by
 refine dfM 1 S RM λhr hu=>?_
 exact(AK (AR (Am BC rfl B.tuple vc (AA (Dz [0] 1 ["_law_pen_here","_law_one"] rfl Ny (Fv rfl B.range (AA (AB 1) AD)) (λs H fp=>⟨Ah 1 O0,Cn,AX AZ AF (AL AW (BK (AA (deM AM hr (AA (AB 0) (AA AF AD))) (AA (deM AM hr (AA (AB 0) (AA AF AD))) AD))) (deM AM hr (AA (AB 0) (AA AF AD))))⟩)) AD))))
theorem Rl:AQ ["_law_book_here"] ["_law_book_here"] (AH Er):=scM
theorem Pj:Af ["_law_book_here"] (AH Er) ["_law_load"] (ixC [] 1) (Lq Er 0):=csM
theorem Pb:(["_law_load"]:Gc Str).Nodup:=by decide+kernel
theorem CQ  (S:St.Src K mg "_law_begun" Er)(B:Bts mg):JF P w K mg base:=by
 refine dfM 0 S Rl λhr hu=>?_
 exact(AK (AR (BK (AA (Dz [] 1 ["_law_load"] rfl Pj (DR (AL AW (AB 0) AF)) (λs H fp=>⟨Ah 0 Pb,Cn,Am Fg rfl B.list xo (AA (AB 0) AD)⟩)) (AA (Am BC rfl B.tuple vc (AA (AL AW (AL AW (AB 0) AF) AF) AD)) (AA (BK AD) AD))))))
theorem FN:AQ ["_law_one","_law_other","_law_found","_law_mine","_law_its","_law_both"] ["_law_one","_law_other"] (AH GU):=scM
theorem Gh  (S:St.Src K mg "_law_pooled" GU)(B:Bts mg)(BH:F6 P w K mg base)(Be:G6 P w K mg base)(BG:HG P w K mg base):NK P w K mg base:=by
 refine dfM 3 S FN λhr hu=>?_
 exact(AG (Ai 2 (BK AD) FN.nd)
      (AG (E7 vC rfl (P2 rfl B.zip (AL AW (AB 0) AF) (AL AW (AB 1) AF)) (FA rfl (AO (Ah 3 FN.nd) (AO (Ah 4 FN.nd) Bg))) (AG (Ai 5 (deM Be hr (AA (deM BG hr (AA (A6 (AA (AL AW (AB 0) AF) (AA AF AD))) (AA (AB 3) AD))) (AA (deM BG hr (AA (A6 (AA (AL AW (AB 1) AF) (AA AF AD))) (AA (AB 4) AD))) AD))) FN.nd)
      (AK (BW (IP vA vD F1 (AB 2) (AA (deM BG hr (AA (AB 5) (AA (deM BH hr (AA AF (AA (AX AZ (AL AW (AB 0) AF) (AL AW (AB 1) AF)) AD))) AD))) AD))))))
      (AK (AR (Am BC rfl B.tuple vc (AA (AB 2) AD))))))
theorem LZ:AQ ["_law_train_here","_law_loads","_law_deed_here","_law_worths_here","_law_whole_here"] ["_law_train_here","_law_loads","_law_deed_here"] (AH F5):=scM
theorem RJ:Af ["_law_train_here","_law_loads","_law_deed_here","_law_worths_here","_law_whole_here"] (AH F5) ["_law_worths_here","_law_kind","_law_pieces_here","_law_owners"] (ixC [3] 3) (Lq F5 0):=csM
theorem JO:(["_law_worths_here","_law_kind","_law_pieces_here","_law_owners"]:Gc Str).Nodup:=by decide+kernel
theorem Im  (S:St.Src K mg "_law_cost" F5)(B:Bts mg)(BH:F6 P w K mg base):QG P w K mg base:=by
 refine dfM 2 S LZ λhr hu=>?_
 exact(AG (Ai 3 (AL AW (AB 2) AF) LZ.nd)
      (AG (Ai 4 (AX AZ (Ac (L4 rfl) rfl B.sum boot_sum (AA (Dz [3] 3 ["_law_worths_here","_law_kind","_law_pieces_here","_law_owners"] rfl RJ (DR (AB 1)) (λs H fp=>⟨FA rfl (AO (Ah 1 JO) (AO (Ah 2 JO) (AO (Ah 3 JO) Bg))),Cn,AX Ap (AB 2) (AL AW (AB 0) (AB 1))⟩)) AD)) (AX Ap (AL AW (AB 0) AF) (AL AW (AB 3) (NY Gp AF)))) LZ.nd)
      (AK (AR (deM BH hr (AA (AX Ap (AL AW (AB 2) AF) (AL AW (AB 3) (AL AW (AL AW (AB 1) (AL AW (AB 2) AF)) AF))) (AA (AB 4) AD)))))))
theorem H0:AQ ["_law_shares","_law_part","_law_owners","_law_found","_law_mine","_law_its"] ["_law_shares","_law_part","_law_owners"] (AH Hd):=scM
theorem Fw  (S:St.Src K mg "_law_borne" Hd)(B:Bts mg)(Be:G6 P w K mg base)(BG:HG P w K mg base)(E9:Mj P w K mg base):OV P w K mg base:=by
 refine dfM 4 S H0 λhr hu=>?_
 exact(AG (Ai 3 (BK AD) H0.nd)
      (AG (E7 vC rfl (P2 rfl B.zip (AB 0) (AB 2)) (FA rfl (AO (Ah 4 H0.nd) (AO (Ah 5 H0.nd) Bg))) (AK (BW (IP vA vD F1 (AB 3) (AA (deM Be hr (AA (deM BG hr (AA (AB 4) (AA (deM E9 hr (AA (A6 (AA AF (AA AF AD))) (AA (AB 1) AD))) AD))) (AA (deM BG hr (AA (AB 5) (AA (AB 1) AD))) AD))) AD)))))
      (AK (AR (Am BC rfl B.tuple vc (AA (AB 3) AD))))))
end
section
open PyProof.Rows (boot_isinstance boot_int boot_bool boot_tuple boot_str boot_list boot_abs boot_all boot_any boot_sum boot_max boot_min boot_range boot_enumerate boot_zip boot_sorted boot_set boot_divmod)
variable{P:ur}{w:vO}{K:Wp}{mg:Str->uL W1}{base:vF}
theorem La:AQ ["_law_shares","_law_deed_here","_law_found","_law_passes"] ["_law_shares","_law_deed_here"] (AH Ia):=scM
theorem HB  (S:St.Src K mg "_law_sold" Ia)(B:Bts mg)(Be:G6 P w K mg base)(BG:HG P w K mg base)(E9:Mj P w K mg base):Pp P w K mg base:=by
 refine dfM 4 S La λhr hu=>?_
 exact(AG (Ai 2 (Am Fg rfl B.list xo (AA (AB 0) AD)) La.nd)
      (AG (Ai 3 (deM BG hr (AA (AL AW (AB 2) (AL AW (AB 1) AF)) (AA (AL AW (AB 1) AF) AD))) La.nd)
      (AG (Ct (deM E9 hr (AA (AL AW (AB 2) (AL AW (AB 1) AF)) (AA (AB 3) AD))) (AB 2) (AL AW (AB 1) AF))
      (AG (Ct (deM Be hr (AA (AL AW (AB 2) (AL AW (AB 1) AF)) (AA (AB 3) AD))) (AB 2) (AL AW (AB 1) AF))
      (AK (AR (Am BC rfl B.tuple vc (AA (AB 2) AD))))))))
theorem Em:AQ ["_law_train_here","_law_state","_law_deed_here","_law_loads","_law_holders","_law_numbers","_law_part","_law_owners","_law_load"] ["_law_train_here","_law_state","_law_deed_here"] (AH Iy):=scM
theorem Iq  (S:St.Src K mg "_law_turn" Iy)(Im:QG P w K mg base)(Fw:OV P w K mg base)(HB:Pp P w K mg base):QM P w K mg base:=by
 refine dfM 5 S Em λhr hu=>?_
 exact(AG (Hf (AB 1) (FA rfl (AO (Ah 3 Em.nd) (AO (Ah 4 Em.nd) (AO (Ah 5 Em.nd) Bg)))))
      (AK (CJ (Av (Bo hu) (AL AW (AB 2) AF) BA) (AG (Km (i:=6) (j:=7) rfl Em.nd rfl rfl (by decide) rfl rfl (deM Im hr (AA (AB 0) (AA (AB 3) (AA (AB 2) AD)))) (AL AW (AL AW (AB 3) (AL AW (AB 2) AF)) AF))
      (AG (Ct (AX Fx (AL AW (AL AW (AB 3) (AL AW (AB 2) AF)) AF) (AL AW (AB 2) AF)) (AL AW (AB 3) (AL AW (AB 2) AF)) AF)
      (AG (E7 vC rfl (DR (AB 3)) (Ah 8 Em.nd) (AK (Ct (deM Fw hr (AA (AL AW (AB 8) AF) (AA (AB 6) (AA (AB 7) AD)))) (AB 8) AF)))
      (AK (Ct (deM Fw hr (AA (AB 4) (AA (AB 6) (AA (AB 7) AD)))) (AB 1) AF))))) (AG (E7 vC rfl (DR (AB 3)) (Ah 8 Em.nd) (AK (Ct (deM HB hr (AA (AL AW (AB 8) AF) (AA (AB 2) AD))) (AB 8) AF)))
      (AK (Ct (deM HB hr (AA (AB 4) (AA (AB 2) AD))) (AB 1) AF))))))
theorem EK:AQ ["_law_train_here","_law_state","_law_deed_here","_law_loads","_law_holders","_law_numbers","_law_word_here","_law_one","_law_other","_law_load","_law_given","_law_kind","_law_got"] ["_law_train_here","_law_state","_law_deed_here"] (AH JQ):=scM
theorem Tc:Af ["_law_train_here","_law_state","_law_deed_here","_law_loads","_law_holders","_law_numbers","_law_word_here","_law_one","_law_other","_law_load","_law_given","_law_kind","_law_got"] (AH JQ) ["_law_deed_here","_law_one"] (ixC [2] 1) (Lq JQ 0):=csM
theorem TY:(["_law_deed_here","_law_one"]:Gc Str).Nodup:=by decide+kernel
theorem EU  (S:St.Src K mg "_law_do" JQ)(B:Bts mg)(Gh:NK P w K mg base)(Iq:QM P w K mg base):Nf P w K mg base:=by
 refine dfM 6 S EK λhr hu=>?_
 exact(AG (Hf (AB 1) (FA rfl (AO (Ah 3 EK.nd) (AO (Ah 4 EK.nd) (AO (Ah 5 EK.nd) Bg)))))
      (AG (Ai 6 (AL AW (AB 2) AF) EK.nd)
      (AK (CJ (Av (Bo hu) (AB 6) BA) (AK (BW (IP vA vD F1 (AB 3) (AA (BK (AA (AL AW (AB 2) AF) (AA (AL AW (AB 2) AF) (AA (Am BC rfl B.tuple vc (AA (Dz [2] 1 ["_law_deed_here","_law_one"] rfl Tc (Fv rfl B.range (AA (AL AW (AB 0) AF) AD)) (λs H fp=>⟨Ah 1 TY,Cn,A6 (AA (Am L6 rfl B.int AAJ (AA (Ew (Bo hu) (AB 1) (AL AW (AB 0) AF)) AD)) (AA AF AD))⟩)) AD)) AD)))) AD)))) (AK (CJ (Av (Bo hu) (AB 6) BA) (AG (Km (i:=7) (j:=8) rfl EK.nd rfl rfl (by decide) rfl rfl (AL AW (AB 3) (AL AW (AB 2) AF)) (AL AW (AB 3) (AL AW (AB 2) AF)))
      (AG (BW (IP vA vD F1 (AB 3) (AA (BK (AA (AL AW (AB 7) AF) (AA (AX AZ (AL AW (AB 7) AF) (AL AW (AB 8) AF)) (AA (deM Gh hr (AA (AB 7) (AA (AB 8) AD))) AD)))) AD)))
      (AG (Ct AF (AB 7) AF)
      (AK (Ct AF (AB 8) AF))))) (AK (CJ (Av OU (AB 6) (A6 (AA BA (AA BA AD)))) (AG (Hf (JG (AB 2) (NY Gp AF)) (FA rfl (AO (Ah 9 EK.nd) (AO (Ah 10 EK.nd) (AO (Ah 11 EK.nd) (AO (Ah 12 EK.nd) Bg))))))
      (AG (Ct (AX Fx (AL AW (AL AW (AB 3) (AB 9)) AF) (AB 10)) (AL AW (AB 3) (AB 9)) AF)
      (AG (BW (IP vA vD F1 (AB 3) (AA (BK (AA (AB 11) (AA (AB 12) (AA (AL AW (AL AW (AB 3) (AB 9)) AF) AD)))) AD)))
      (AK (BW (IP y9 PySem.F.type_list_extend eG (AB 5) (AA (AX Ap (fT (AB 2) AF AF) (Am L6 rfl B.int AAJ (AA (Ew (Bo hu) (AB 6) BA) AD))) AD))))))) (AK (CJ (Av (Bo hu) (AB 6) BA) (AK (Ct (AX Fx (AL AW (AL AW (AB 3) (AL AW (AB 2) AF)) AF) (AL AW (AB 2) AF)) (AL AW (AB 3) (AL AW (AB 2) AF)) AF)) (AK (BW (deM Iq hr (AA (AB 0) (AA (AB 1) (AA (AB 2) AD))))))))))))))))
theorem B5:AQ ["_law_pen_here","_law_train_here","_law_state","_law_loads","_law_holders","_law_numbers","_law_full","_law_way","_law_load","_law_some","_law_same_here","_law_kind","_law_left","_law_partner"] ["_law_pen_here","_law_train_here","_law_state"] (AH C1):=scM
theorem Q0:Af ["_law_pen_here","_law_train_here","_law_state","_law_loads","_law_holders","_law_numbers","_law_full","_law_way","_law_load","_law_some","_law_same_here","_law_kind","_law_left","_law_partner"] (AH C1) ["_law_at","_law_load"] (ixC [] 2) (Lq C1 0):=csM
theorem L5:(["_law_at","_law_load"]:Gc Str).Nodup:=by decide+kernel
theorem RF:Af ["_law_pen_here","_law_train_here","_law_state","_law_loads","_law_holders","_law_numbers","_law_full","_law_way","_law_load","_law_some","_law_same_here","_law_kind","_law_left","_law_partner"] (AH C1) ["_law_loads","_law_load","_law_at"] (ixC [3,8] 1) (Lq C1 1):=csM
theorem Qu:(["_law_loads","_law_load","_law_at"]:Gc Str).Nodup:=by decide+kernel
theorem RK:Af ["_law_pen_here","_law_train_here","_law_state","_law_loads","_law_holders","_law_numbers","_law_full","_law_way","_law_load","_law_some","_law_same_here","_law_kind","_law_left","_law_partner"] (AH C1) ["_law_numbers","_law_number"] (ixC [5] 1) (Lq C1 2):=csM
theorem Q2:(["_law_numbers","_law_number"]:Gc Str).Nodup:=by decide+kernel
theorem Ie  (S:St.Src K mg "_law_deed" C1)(B:Bts mg)(AM:CM P w K mg base)(BY:IA P w K mg base)(HU:N4 P w K mg base)(DB:KO P w K mg base):QF P w K mg base:=by
 refine dfM 3 S B5 λhr hu=>?_
 exact(AG (Hf (AB 2) (FA rfl (AO (Ah 3 B5.nd) (AO (Ah 4 B5.nd) (AO (Ah 5 B5.nd) Bg)))))
      (AG (CU [] 2 ["_law_at","_law_load"] rfl B5.nd rfl rfl Q0 (Sw rfl B.enumerate (AB 3)) (λs H fp=>⟨FA rfl (AO (Ah 0 L5) (AO (Ah 1 L5) Bg)),KP (Av NQ (AL AW (AB 1) AF) AF),AB 0⟩))
      (AG (Ai 7 (deM AM hr (AA (AB 0) (AA AF AD))) B5.nd)
      (AG (CJ (DW.dt (ZK (Av K9 (AB 7) AF) (Ub (Av (Bo hu) (AB 6) (BK AD))))) (AK (AR (A6 (AA BA (AA (deM AM hr (AA (AB 0) (AA (AL AW (AB 1) AF) AD))) (AA (deM AM hr (AA (AB 0) (AA (AL AW (AB 1) AF) AD))) (AA (deM BY hr (AA (AB 0) AD)) AD))))))) Az)
      (AG (Ai 8 (AL AW (AB 6) (deM AM hr (AA (AB 0) (AA (Ac Bq rfl B.len xA (AA (AB 6) AD)) AD)))) B5.nd)
      (AG (Ai 9 (AX AZ AF (deM AM hr (AA (AB 0) (AA (Ac (Ow rfl) rfl B.min boot_min (AA (AL AW (AL AW (AB 3) (AB 8)) AF) (AA AF AD))) AD)))) B5.nd)
      (AG (CJ (Av K9 (AB 7) AF) (AG (CU [3,8] 1 ["_law_loads","_law_load","_law_at"] rfl B5.nd rfl rfl RF (DR (AB 6)) (λs H fp=>⟨Ah 2 Qu,KP (DW.dt (KA (Av (MG hu) (AB 2) (AB 1)) (IX (Av (Bo hu) (AL AW (AL AW (AB 0) (AB 2)) AF) (AL AW (AL AW (AB 0) (AB 1)) AF))))),AB 2⟩))
      (AK (CJ (Av (MG hu) (AB 10) (BK AD)) (AK (AR (A6 (AA BA (AA (AB 8) (AA (AL AW (AB 10) (deM AM hr (AA (AB 0) (AA (Ac Bq rfl B.len xA (AA (AB 10) AD)) AD)))) AD)))))) Az))) Az)
      (AG (CJ (DW.dt (KA (Av K9 (AB 7) AF) (IX (Av NQ (AL AW (AB 1) AF) AF)))) (AG (Ai 11 (AX IU (AX AZ (AX AZ (AL AW (AL AW (AB 3) (AB 8)) AF) AF) (deM AM hr (AA (AB 0) (AA (AX Fx (AL AW (AB 1) AF) AF) AD)))) (AL AW (AB 1) AF)) B5.nd)
      (AG (CU [5] 1 ["_law_numbers","_law_number"] rfl B5.nd rfl rfl RK (Fv rfl B.range (AA AF AD)) (λs H fp=>⟨Ah 1 Q2,KP (Av Sq (AB 1) (AB 0)),AB 1⟩))
      (AG (CJ (DW.dt (KA (Av (Bo hu) (AB 7) AF) (IX (Av (MG hu) (AB 12) (BK AD))))) (AK (AR (A6 (AA BA (AA (AL AW (AB 12) (deM AM hr (AA (AB 0) (AA (Ac Bq rfl B.len xA (AA (AB 12) AD)) AD)))) (AA (AB 8) (AA (AB 9) (AA (AB 11) (AA (deM BY hr (AA (AB 0) AD)) AD))))))))) Az)
      (AK (AR (A6 (AA BA (AA (AB 8) (AA (AB 9) (AA (AB 11) (AA (deM BY hr (AA (AB 0) AD)) AD))))))))))) Az)
      (AG (CJ (Av (Bo hu) (AB 7) AF) (AK (AR (A6 (AA BA (AA (AB 8) (AA (AB 9) AD)))))) Az)
      (AG (CJ (DW.dt (KA (Av (Bo hu) (AB 7) AF) (IX (Av NQ (AL AW (AB 1) AF) AF)))) (AG (Ai 13 (deM AM hr (AA (AB 0) (AA (AL AW (AB 1) AF) AD))) B5.nd)
      (AK (AR (A6 (AA BA (AA (AB 13) (AA (AX IU (AX AZ (AX AZ (AB 13) AF) (deM AM hr (AA (AB 0) (AA (AX Fx (AL AW (AB 1) AF) AF) AD)))) (AL AW (AB 1) AF)) (AA (deM HU hr (AA (AB 0) AD)) AD)))))))) Az)
      (AK (AR (A6 (AA BA (AA (AB 8) (AA (AB 9) (AA (deM DB hr (AA (AB 0) (AA (AX AZ (AL AW (AB 1) AF) AF) AD))) AD)))))))))))))))))
theorem Fs:AQ ["_law_pen_here","_law_most","_law_train_here","_law_first_here","_law_state","_law_deeds","_law_k","_law_deed_here"] ["_law_pen_here","_law_most"] (AH F0):=scM
theorem Q8:Af ["_law_pen_here","_law_most","_law_train_here","_law_first_here","_law_state","_law_deeds","_law_k","_law_deed_here"] (AH F0) ["_law_one"] (ixC [] 1) (Lq F0 0):=csM
theorem QZ:(["_law_one"]:Gc Str).Nodup:=by decide+kernel
theorem Iu  (S:St.Src K mg "_law_book" F0)(B:Bts mg)(AM:CM P w K mg base)(Hs:OS P w K mg base)(Hj:OW P w K mg base)(CQ:JF P w K mg base)(EU:Nf P w K mg base)(Ie:QF P w K mg base):Pr P w K mg base:=by
 refine dfM 7 S Fs λhr hu=>?_
 exact(AG (Ai 2 (deM Hs hr (AA (AB 0) AD)) Fs.nd)
      (AG (Ai 3 (deM Hj hr (AA (AB 0) (AA (AB 2) AD))) Fs.nd)
      (AG (Km (i:=4) (j:=5) rfl Fs.nd rfl rfl (by decide) rfl rfl (deM CQ hr (AA (A6 (AA (AB 2) (AA (AB 3) (AA (A6 AD) AD)))) AD)) (BK AD))
      (AG (E7 vC rfl (Fv rfl B.range (AA (deM AM hr (AA (AB 0) (AA (AX AZ (AB 1) AF) AD))) AD)) (Ah 6 Fs.nd) (AG (Ai 7 (deM Ie hr (AA (AB 0) (AA (AB 2) (AA (AB 4) AD)))) Fs.nd)
      (AK (CJ (DW.dt (ZK (Av (MG hu) (AL AW (AB 7) AF) BA) (Ub (Av K9 (Ac Bq rfl B.len xA (AA (Dz [] 1 ["_law_one"] rfl Q8 (DR (AB 5)) (λs H fp=>⟨Ah 0 QZ,KP (Av (Bo hu) (AL AW (AB 0) AF) BA),AB 0⟩)) AD)) AF)))) (AG (BW (deM EU hr (AA (AB 2) (AA (AB 4) (AA (AB 7) AD)))))
      (AK (BW (IP vA vD F1 (AB 5) (AA (AB 7) AD))))) Az))))
      (AK (AR (A6 (AA (AB 2) (AA (AB 3) (AA (Am BC rfl B.tuple vc (AA (AB 5) AD)) AD))))))))))
theorem G5:AQ ["_law_book_here","_law_state","_law_found","_law_deed_here"] ["_law_book_here"] (AH Ck):=scM
theorem OM:Af ["_law_book_here","_law_state","_law_found","_law_deed_here"] (AH Ck) ["_law_load"] (ixC [] 1) (Lq Ck 0):=csM
theorem OT:(["_law_load"]:Gc Str).Nodup:=by decide+kernel
theorem OC:Af ["_law_book_here","_law_state","_law_found","_law_deed_here"] (AH Ck) ["_law_load"] (ixC [] 1) (Lq Ck 1):=csM
theorem OL:(["_law_load"]:Gc Str).Nodup:=by decide+kernel
theorem GV  (S:St.Src K mg "_law_states" Ck)(B:Bts mg)(CQ:JF P w K mg base)(EU:Nf P w K mg base):ND P w K mg base:=by
 refine dfM 7 S G5 λhr hu=>?_
 exact(AG (Ai 1 (deM CQ hr (AA (AB 0) AD)) G5.nd)
      (AG (Ai 2 (BK (AA (A6 (AA (Dz [] 1 ["_law_load"] rfl OM (DR (AL AW (AB 1) AF)) (λs H fp=>⟨Ah 0 OT,Cn,Am BC rfl B.tuple vc (AA (AB 0) AD)⟩)) (AA (Am BC rfl B.tuple vc (AA (AL AW (AB 1) AF) AD)) AD))) AD)) G5.nd)
      (AG (E7 vC rfl (DR (AL AW (AB 0) AF)) (Ah 3 G5.nd) (AG (BW (deM EU hr (AA (AL AW (AB 0) AF) (AA (AB 1) (AA (AB 3) AD)))))
      (AK (BW (IP vA vD F1 (AB 2) (AA (A6 (AA (Dz [] 1 ["_law_load"] rfl OC (DR (AL AW (AB 1) AF)) (λs H fp=>⟨Ah 0 OL,Cn,Am BC rfl B.tuple vc (AA (AB 0) AD)⟩)) (AA (Am BC rfl B.tuple vc (AA (AL AW (AB 1) AF) AD)) AD))) AD))))))
      (AK (AR (AB 2))))))
end
section
open PyProof.Rows (boot_isinstance boot_int boot_bool boot_tuple boot_str boot_list boot_abs boot_all boot_any boot_sum boot_max boot_min boot_range boot_enumerate boot_zip boot_sorted boot_set boot_divmod)
variable{P:ur}{w:vO}{K:Wp}{mg:Str->uL W1}{base:vF}
theorem BN:AQ ["_law_pen_here","_law_most","_law_train_here","_law_first_here","_law_deeds","_law_state","_law_deed_here","_law_turn_here","_law_full","_law_load","_law_some"] ["_law_pen_here","_law_most"] (AH Cg):=scM
theorem Oh:Af ["_law_pen_here","_law_most","_law_train_here","_law_first_here","_law_deeds","_law_state","_law_deed_here","_law_turn_here","_law_full","_law_load","_law_some"] (AH Cg) ["_law_deed_here"] (ixC [] 1) (Lq Cg 0):=csM
theorem Oc:(["_law_deed_here"]:Gc Str).Nodup:=by decide+kernel
theorem Od:Af ["_law_pen_here","_law_most","_law_train_here","_law_first_here","_law_deeds","_law_state","_law_deed_here","_law_turn_here","_law_full","_law_load","_law_some"] (AH Cg) ["_law_at","_law_load"] (ixC [] 2) (Lq Cg 1):=csM
theorem Jz:(["_law_at","_law_load"]:Gc Str).Nodup:=by decide+kernel
theorem GF  (S:St.Src K mg "_law_thrown" Cg)(B:Bts mg)(AM:CM P w K mg base)(BY:IA P w K mg base)(DB:KO P w K mg base)(CQ:JF P w K mg base)(EU:Nf P w K mg base)(Iu:Pr P w K mg base):NF P w K mg base:=by
 refine dfM 8 S BN λhr hu=>?_
 exact(AG (Hf (deM Iu hr (AA (AB 0) (AA (AB 1) AD))) (FA rfl (AO (Ah 2 BN.nd) (AO (Ah 3 BN.nd) (AO (Ah 4 BN.nd) Bg)))))
      (AG (Ai 5 (deM CQ hr (AA (A6 (AA (AB 2) (AA (AB 3) (AA (AB 4) AD)))) AD)) BN.nd)
      (AG (E7 vC rfl (DR (AB 4)) (Ah 6 BN.nd) (AK (BW (deM EU hr (AA (AB 2) (AA (AB 5) (AA (AB 6) AD)))))))
      (AG (Ai 4 (Am Fg rfl B.list xo (AA (AB 4) AD)) BN.nd)
      (AG (E7 vC rfl (Fv rfl B.range (AA (AX Fx AF (Ac Bq rfl B.len xA (AA (Dz [] 1 ["_law_deed_here"] rfl Oh (DR (AB 4)) (λs H fp=>⟨Ah 0 Oc,KP (Av (Bo hu) (AL AW (AB 0) AF) BA),AB 0⟩)) AD))) AD)) (Ah 7 BN.nd) (AG (CU [] 2 ["_law_at","_law_load"] rfl BN.nd rfl rfl Od (Sw rfl B.enumerate (AL AW (AB 5) AF)) (λs H fp=>⟨FA rfl (AO (Ah 0 Jz) (AO (Ah 1 Jz) Bg)),KP (Av NQ (AL AW (AB 1) AF) AF),AB 0⟩))
      (AG (Ai 6 (A6 (AA BA (AA (deM AM hr (AA (AB 0) (AA (AL AW (AB 2) AF) AD))) (AA (deM AM hr (AA (AB 0) (AA (AL AW (AB 2) AF) AD))) (AA (deM BY hr (AA (AB 0) AD)) AD))))) BN.nd)
      (AG (CJ (Av (MG hu) (AB 8) (BK AD)) (AG (Ai 9 (AL AW (AB 8) (deM AM hr (AA (AB 0) (AA (Ac Bq rfl B.len xA (AA (AB 8) AD)) AD)))) BN.nd)
      (AG (Ai 10 (AL AW (BK (AA (AX AZ AF (deM AM hr (AA (AB 0) (AA (Ac (Ow rfl) rfl B.min boot_min (AA (AL AW (AL AW (AL AW (AB 5) AF) (AB 9)) AF) (AA AF AD))) AD)))) (AA (AL AW (AL AW (AL AW (AB 5) AF) (AB 9)) AF) AD))) (deM AM hr (AA (AB 0) (AA AF AD)))) BN.nd)
      (AK (Ai 6 (A6 (AA BA (AA (AB 9) (AA (AB 10) (AA (deM DB hr (AA (AB 0) (AA (AX AZ (AL AW (AB 2) AF) AF) AD))) AD))))) BN.nd)))) Az)
      (AG (BW (deM EU hr (AA (AB 2) (AA (AB 5) (AA (AB 6) AD)))))
      (AK (BW (IP vA vD F1 (AB 4) (AA (AB 6) AD)))))))))
      (AK (AR (A6 (AA (AB 2) (AA (AB 3) (AA (Am BC rfl B.tuple vc (AA (AB 4) AD)) AD)))))))))))
theorem NO:AQ ["_law_train_here","_law_loads","_law_owners","_law_worths_here","_law_partner","_law_some"] ["_law_train_here","_law_loads","_law_owners","_law_worths_here","_law_partner"] (AH Ee):=scM
theorem Pk:Af ["_law_train_here","_law_loads","_law_owners","_law_worths_here","_law_partner","_law_some"] (AH Ee) ["_law_worths_here","_law_partner","_law_kind","_law_pieces_here","_law_shares"] (ixC [3,4] 3) (Lq Ee 0):=csM
theorem IW:(["_law_worths_here","_law_partner","_law_kind","_law_pieces_here","_law_shares"]:Gc Str).Nodup:=by decide+kernel
theorem Fm  (S:St.Src K mg "_law_worth" Ee)(BG:HG P w K mg base)(J2:RZ P w K mg base):N7 P w K mg base:=by
 refine dfM 4 S NO λhr hu=>?_
 exact(AG (CU [3,4] 3 ["_law_worths_here","_law_partner","_law_kind","_law_pieces_here","_law_shares"] rfl NO.nd rfl rfl Pk (DR (AB 1)) (λs H fp=>⟨FA rfl (AO (Ah 2 IW) (AO (Ah 3 IW) (AO (Ah 4 IW) Bg))),Cn,deM BG hr (AA (A6 (AA (AX Ap (AB 3) (AL AW (AB 0) (AB 2))) (AA AF AD))) (AA (AL AW (AB 4) (AB 1)) AD))⟩))
      (AK (AR (deM J2 hr (AA (AX AZ (AB 5) (BK (AA (deM BG hr (AA (A6 (AA (AX Ap (AL AW (AB 0) AF) (AL AW (AB 3) (NY Gp AF))) (AA AF AD))) (AA (AL AW (AB 2) (AB 4)) AD))) AD))) AD)))))
theorem EN:AQ ["_law_book_here","_law_at","_law_states_here","_law_worths_here","_law_found","_law_partner","_law_ahead"] ["_law_book_here","_law_at"] (AH FE):=scM
theorem FT  (S:St.Src K mg "_law_bearing" FE)(B:Bts mg)(GV:ND P w K mg base)(Fm:N7 P w K mg base):MF P w K mg base:=by
 refine dfM 8 S EN λhr hu=>?_
 exact(AG (Km (i:=2) (j:=3) rfl EN.nd rfl rfl (by decide) rfl rfl (deM GV hr (AA (AB 0) AD)) (AL AW (AL AW (AL AW (AB 0) AF) (AB 1)) AF))
      (AG (Ai 4 (BK AD) EN.nd)
      (AG (E7 vC rfl (Fv rfl B.range (AA (AL AW (AL AW (AB 0) AF) AF) AD)) (Ah 5 EN.nd) (AG (Ai 6 (deM Fm hr (AA (AL AW (AB 0) AF) (AA (AL AW (AL AW (AB 2) (AB 1)) AF) (AA (AL AW (AL AW (AB 2) (AB 1)) AF) (AA (AB 3) (AA (AB 5) AD)))))) EN.nd)
      (AK (BW (IP vA vD F1 (AB 4) (AA (A6 (AA (AB 6) (AA (deM Fm hr (AA (AL AW (AB 0) AF) (AA (AL AW (AL AW (AB 2) (AX AZ (AB 1) AF)) AF) (AA (AL AW (AL AW (AB 2) (AX AZ (AB 1) AF)) AF) (AA (AB 3) (AA (AB 5) AD)))))) AD))) AD))))))
      (AK (AR (Am BC rfl B.tuple vc (AA (AB 4) AD)))))))
theorem Ki:AQ ["_law_pen_here","_law_deep","_law_way","_law_parts"] ["_law_pen_here","_law_deep"] (AH El):=scM
theorem Pd:Af ["_law_pen_here","_law_deep","_law_way","_law_parts"] (AH El) ["_law_pen_here","_law_deep","_law_k"] (ixC [0,1] 1) (Lq El 0):=csM
theorem PN:(["_law_pen_here","_law_deep","_law_k"]:Gc Str).Nodup:=by decide+kernel
theorem Bt  (S:St.Src K mg "_law_thing" El)(B:Bts mg)(AM:CM P w K mg base):∀n:Nat,n<=8->St.Dfn P w K mg base "_law_thing" (2+n) ["_law_pen_here","_law_deep"] (spD K 2 (Al n))
 |0,_=>ME S (λf fd F=>F.binds λ_ _ _ _ _ _ us hl=>match us,hl with| [_,_],_=>rfl)
 |n+1,hn=>by
  have Bt:=Bt S B AM n (by omega)
  refine dfM (2+n) S Ki λhr hu=>?_
  exact(AG (Ai 2 (deM AM hr (AA (AB 0) (AA AF AD))) Ki.nd)
   (AG (CJ (DW.dt (ZK (Av K9 (AB 2) AF) (Ub (Av (Bo hu) (AB 1) AF)))) (AK (AR (AL AW (BK (AA MM (AA UB (AA UB (AA AF (AA AF (AA (NY Gp AF) (AA AF (AA (AX Qk AF AF) (AA BA (AA BA (AA (A6 AD) (AA (BK AD) AD))))))))))))) (deM AM hr (AA (AB 0) (AA AF AD)))))) Az)
   (AG (CU [0,1] 1 ["_law_pen_here","_law_deep","_law_k"] rfl Ki.nd rfl rfl Pd (Fv rfl B.range (AA (deM AM hr (AA (AB 0) (AA AF AD))) AD)) (λs H fp=>⟨Ah 2 PN,Cn,deM Bt hr (AA (AB 0) (AA (AX Fx (AB 1) AF) AD))⟩))
   (AG (CJ (Av (Bo hu) (AB 2) AF) (AK (AR (AB 3))) Az)
   (AG (CJ (Av (Bo hu) (AB 2) AF) (AK (AR (iZ (Zj BA (AB 3) gg) (List.cons_ne_nil _ _) (by decide)))) Az)
   (AK (AR (Am BC rfl B.tuple vc (AA (AB 3) AD)))))))))
theorem JL:AQ ["_law_pen_here","_law_thing_here","_law_at","_law_way"] ["_law_pen_here","_law_thing_here"] (AH GO):=scM
theorem DA  (S:St.Src K mg "_law_spoilt" GO)(B:Bts mg)(AM:CM P w K mg base)(Bt:PF P w K mg base 8):∀n:Nat,n<=8->St.Dfn P w K mg base "_law_spoilt" (11+n) ["_law_pen_here","_law_thing_here"] (spD K 2 (Cc n))
 |0,_=>ME S (λf fd F=>F.binds λ_ _ _ _ _ _ us hl=>match us,hl with| [_,_],_=>rfl)
 |n+1,hn=>by
  have DA:=DA S B AM Bt n (by omega)
  refine dfM (11+n) S JL λhr hu=>?_
  exact(AG (CJ (DW.dt (KA (JC (Ac B0 rfl B.isi vW (AA (AB 1) (AA (KC rfl B.tuple vc) AD)))) (KA (Av (MG hu) (AB 1) (A6 AD)) (IX (Av NQ (deM AM hr (AA (AB 0) (AA AF AD))) AF))))) (AG (Ai 2 (deM AM hr (AA (AB 0) (AA (Ac Bq rfl B.len xA (AA (AB 1) AD)) AD))) JL.nd)
   (AK (AR (AX AZ (AX AZ (IY (AB 1) (AB 2)) (A6 (AA (deM DA hr (AA (AB 0) (AA (AL AW (AB 1) (AB 2)) AD))) AD))) (JG (AB 1) (AX AZ (AB 2) AF)))))) Az)
   (AG (Ai 3 (deM AM hr (AA (AB 0) (AA AF AD))) JL.nd)
   (AG (CJ (DW.dt (KA (JC (Ac B0 rfl B.isi vW (AA (AB 1) (AA (KC rfl B.tuple vc) AD)))) (IX (Av K9 (AB 3) AF)))) (AK (AR (AL AW (BK (AA (AX AZ (AB 1) (JG (AB 1) (NY Gp AF))) (AA (IY (AB 1) (NY Gp AF)) (AA (Am Fg rfl B.list xo (AA (AB 1) AD)) (AA (cT (AB 1)) AD))))) (AB 3)))) Az)
   (AG (CJ (DW.dt (KA (JC (Ac B0 rfl B.isi vW (AA (AB 1) (AA (KC rfl B.int AAJ) AD)))) (IX (Av K9 (AB 3) AF)))) (AK (AR (AL AW (BK (AA (AX AZ (AB 1) AF) (AA (AX Fx (AB 1) AF) (AA (Ew NQ (AB 1) AF) (AA (Am YQ rfl B.str boot_str (AA (AB 1) AD)) AD))))) (AB 3)))) Az)
   (AG (CJ (DW.dt (KA (JC (Ac B0 rfl B.isi vW (AA (AB 1) (AA (KC rfl B.str boot_str) AD)))) (IX (Av K9 (AB 3) AF)))) (AK (AR (AL AW (BK (AA (AX AZ (AB 1) BA) (AA (ZG (AB 1)) (AA (IY (AB 1) (NY Gp AF)) (AA (AX AZ BA (AB 1)) AD))))) (AB 3)))) Az)
   (AK (AR (deM Bt hr (AA (AB 0) (AA AF AD))))))))))
theorem T5:AQ ["_law_one","_law_other"] ["_law_one","_law_other"] (AH Ff):=scM
theorem Qv:Af ["_law_one","_law_other"] (AH Ff) ["_law_a","_law_b"] (ixC [] 2) (Lq Ff 0):=csM
theorem L9:(["_law_a","_law_b"]:Gc Str).Nodup:=by decide+kernel
theorem E8  (S:St.Src K mg "_law_same" Ff)(B:Bts mg):∀n:Nat,n<=8->St.Dfn P w K mg base "_law_same" (1+n) ["_law_one","_law_other"] (spD K 2 (D8 n))
 |0,_=>ME S (λf fd F=>F.binds λ_ _ _ _ _ _ us hl=>match us,hl with| [_,_],_=>rfl)
 |n+1,hn=>by
  have E8:=E8 S B n (by omega)
  refine dfM (1+n) S T5 λhr hu=>?_
  exact(AG (CJ (DW.dt (KA (JC (Ac B0 rfl B.isi vW (AA (AB 0) (AA (KC rfl B.tuple vc) AD)))) (IX (JC (Ac B0 rfl B.isi vW (AA (AB 1) (AA (KC rfl B.tuple vc) AD))))))) (AK (AR (GN (Ew (XY hu) (Ac Bq rfl B.len xA (AA (AB 0) AD)) (Ac Bq rfl B.len xA (AA (AB 1) AD))) (He (Ac (SI rfl) rfl B.all boot_all (AA (Dz [] 2 ["_law_a","_law_b"] rfl Qv (P2 rfl B.zip (AB 0) (AB 1)) (λs H fp=>⟨FA rfl (AO (Ah 0 L9) (AO (Ah 1 L9) Bg)),Cn,deM E8 hr (AA (AB 0) (AA (AB 1) AD))⟩)) AD)))))) Az)
   (AK (AR (GN (Ew (XY hu) (Ac B0 rfl B.isi vW (AA (AB 0) (AA (KC rfl B.bool ABG) AD))) (Ac B0 rfl B.isi vW (AA (AB 1) (AA (KC rfl B.bool ABG) AD)))) (He (Ew (XY hu) (AB 0) (AB 1)))))))
end
section
open PyProof.Rows (boot_isinstance boot_int boot_bool boot_tuple boot_str boot_list boot_abs boot_all boot_any boot_sum boot_max boot_min boot_range boot_enumerate boot_zip boot_sorted boot_set boot_divmod)
variable{P:ur}{w:vO}{K:Wp}{mg:Str->uL W1}{base:vF}
theorem CZ:AQ ["_law_pen_here","_law_due","_law_at","_law_way","_law_ahead","_law_now","_law_pairs"] ["_law_pen_here","_law_due"] (AH Dm):=scM
theorem Dh  (S:St.Src K mg "_law_otherwise" Dm)(B:Bts mg)(AM:CM P w K mg base):J8 P w K mg base:=by
 refine dfM 1 S CZ λhr hu=>?_
 exact(AG (Km (i:=2) (j:=3) rfl CZ.nd rfl rfl (by decide) rfl rfl (deM AM hr (AA (AB 0) (AA (Ac Bq rfl B.len xA (AA (AB 1) AD)) AD))) (deM AM hr (AA (AB 0) (AA AF AD))))
      (AG (Hf (AL AW (AB 1) (AB 2)) (FA rfl (AO (Ah 4 CZ.nd) (AO (Ah 5 CZ.nd) Bg))))
      (AG (Ai 6 (BK (AA (A6 (AA (AB 4) (AA (A6 (AA (AX AZ (AL AW (AB 5) AF) AF) (AA (AL AW (AB 5) AF) AD))) AD))) (AA (A6 (AA (A6 (AA (AX Ap AF (AL AW (AB 4) AF)) (AA (AX Ap AF (AL AW (AB 4) AF)) AD))) (AA (AB 5) AD))) (AA (A6 (AA (AB 5) (AA (AB 4) AD))) (AA (A6 (AA (AB 4) AD)) (AA (BK (AA (AB 4) (AA (AB 5) AD))) AD)))))) CZ.nd)
      (AG (Ai 6 (AX AZ (AB 6) (BK (AA (A6 (AA (AB 4) (AA (Am Fg rfl B.list xo (AA (AB 5) AD)) AD))) (AA (A6 (AA (AB 4) (AA (AB 5) (AA (AB 5) AD)))) AD)))) CZ.nd)
      (AG (CJ (Av (Bo hu) (AB 3) AF) (AK (AR (AL AW (BK (AA (AX AZ (IY (AB 1) (AB 2)) (JG (AB 1) (AX AZ (AB 2) AF))) (AA (AX AZ (AB 1) (IY (AB 1) AF)) (AA (Am Fg rfl B.list xo (AA (AB 1) AD)) (AA (cT (AB 1)) AD))))) (deM AM hr (AA (AB 0) (AA AF AD)))))) Az)
      (AK (AR (AX AZ (AX AZ (IY (AB 1) (AB 2)) (A6 (AA (AL AW (AB 6) (AB 3)) AD))) (JG (AB 1) (AX AZ (AB 2) AF))))))))))
theorem Lv:AQ ["_law_book_here","_law_place","_law_due","_law_words"] ["_law_book_here","_law_place","_law_due"] (AH B1):=scM
theorem O1:Ku ["_law_book_here","_law_place","_law_due","_law_words"] (AH B1) ["_law_book_here","_law_place"] [0,1] (nE B1 0):=lsM
theorem N2:Ku ["_law_book_here","_law_place","_law_due","_law_words"] (AH B1) ["_law_book_here","_law_place"] [0,1] (nE B1 1):=lsM
theorem OD:Ku ["_law_book_here","_law_place","_law_due","_law_words"] (AH B1) ["_law_book_here","_law_place"] [0,1] (nE B1 2):=lsM
theorem Gg  (S:St.Src K mg "_law_all_so" B1)(bm:BmB mg base)(S_law_word:St.Src K mg "_law_word" Iw)(HQ:OB P w K mg base)(HP:O7 P w K mg base)(Ba:F4 P w K mg base)(FG:XmD K mg ["NoThrow"] "NoThrow")(Hb:OA P w K mg base)(Hg:ON P w K mg base)(C7:Ih P w K mg base):Mp P w K mg base:=by
 refine dfL 13 S Lv λci hr hu=>?_
 exact(AG (Ai 3 (BK (AA (X9 (k:=7) S_law_word LX O1 ci bm (hr.mono (by decide)) rfl (λf c' clos A outer s H hr=>(deM HQ hr (AA (AB 0) (AA (AB 1) AD)))) (λf c' clos A outer s H hr=>(MY Hb (hr.mono (by decide)) rfl (AA (AB 0) (AA (AB 1) AD)))) (λ_ _ _ _ _ _=>(TU FG rfl (λ_=>AK (AR BA)) YG)) (λ_ _ _ _ _ _=>BA)) AD)) Lv.nd)
      (AG (BW (IP vA vD F1 (AB 3) (AA (X9 (k:=10) S_law_word LX N2 ci bm (hr.mono (by decide)) rfl (λf c' clos A outer s H hr=>(deM HP hr (AA (AB 0) (AA (AB 1) AD)))) (λf c' clos A outer s H hr=>(MY Hg (hr.mono (by decide)) rfl (AA (AB 0) (AA (AB 1) AD)))) (λ_ _ _ _ _ _=>(TU FG rfl (λ_=>AK (AR BA)) YG)) (λ_ _ _ _ _ _=>BA)) AD)))
      (AG (BW (IP vA vD F1 (AB 3) (AA (X9 (k:=10) S_law_word LX OD ci bm (hr.mono (by decide)) rfl (λf c' clos A outer s H hr=>(deM Ba hr (AA (AB 0) (AA (AB 1) (AA MM AD))))) (λf c' clos A outer s H hr=>(MY C7 (hr.mono (by decide)) rfl (AA (AB 0) (AA (AB 1) (AA MM AD))))) (λ_ _ _ _ _ _=>(TU FG rfl (λ_=>AK (AR BA)) YG)) (λ_ _ _ _ _ _=>BA)) AD)))
      (AK (AR (Ew (Bo hu) (AB 3) (AX Ap (BK (AA (AB 2) AD)) AF)))))))
theorem EC:AQ ["_law_script","_law_k","_law_pen_here","_law_book_here","_law_places","_law_rows","_law_at","_law_due","_law_things","_law_thing_here","_law_found","_law_place","_law_good"] ["_law_script"] (AH Gq):=scM
theorem Va:Af ["_law_script","_law_k","_law_pen_here","_law_book_here","_law_places","_law_rows","_law_at","_law_due","_law_things","_law_thing_here","_law_found","_law_place","_law_good"] (AH Gq) ["_law_at","_law_deed_here"] (ixC [] 2) (Lq Gq 0):=csM
theorem Px:(["_law_at","_law_deed_here"]:Gc Str).Nodup:=by decide+kernel
theorem Vl:Af ["_law_script","_law_k","_law_pen_here","_law_book_here","_law_places","_law_rows","_law_at","_law_due","_law_things","_law_thing_here","_law_found","_law_place","_law_good"] (AH Gq) ["_law_book_here","_law_at"] (ixC [3] 1) (Lq Gq 1):=csM
theorem V9:(["_law_book_here","_law_at"]:Gc Str).Nodup:=by decide+kernel
theorem Vs:Af ["_law_script","_law_k","_law_pen_here","_law_book_here","_law_places","_law_rows","_law_at","_law_due","_law_things","_law_thing_here","_law_found","_law_place","_law_good"] (AH Gq) ["_law_pen_here","_law_due","_law_turn_here"] (ixC [2,7] 1) (Lq Gq 2):=csM
theorem VX:(["_law_pen_here","_law_due","_law_turn_here"]:Gc Str).Nodup:=by decide+kernel
end
theorem nr{α:Sort _}{a b:α}(h:a=b):a=b:=h
@[simp high] theorem Bx{α β:Type}(a:α)(f:α->Option β):(some a).bind f=f a:=Eq.mp (congrArg (λz=>z=f a) rfl) (Eq.refl (f a))
@[simp high] theorem nY{α β:Type}(a:α)(f:α->β):(some a).map f=some (f a):=Eq.mp (congrArg (λz=>z=some (f a)) rfl) (Eq.refl (some (f a)))
section
variable{E:En}{S:Sto}{op:OpN}{f g c:Ev}{d:D}{i:Nat}{w:Wv}{a b e h r':D}{r:Gc D}{fs:Gc Ev}
@[simp] theorem tU{o:Option D}{E:En}:at? (o::E) 0=o:=nr rfl
@[simp] theorem uE{o:Option D}{E:En}{i:Nat}:at? (o::E) (i+1)=at? E i:=nr rfl
@[simp] theorem qL:eC d E S=some (d,S):=nr rfl
@[simp] theorem qg:eV i E S=(at? E i).map λd=>(d,S):=nr rfl
@[simp] theorem gU:evs [] E S=some ([],S):=nr rfl
@[simp] theorem EZ:evs (f::fs) E S=(f E S).bind λr=>(evs fs E r.2).map λq=>(r.1::q.1,q.2):=nr rfl
@[simp] theorem We{cf:Bool}:RT cf op fs E S=(evs fs E S).bind λr=>(op (r.1.map (dr r.2))).bind λw=>fin cf w r.2:=nr rfl
@[simp] theorem sM{cf:Bool}:fin cf (.val d) S=some (d,S):=by cases cf<;>rfl
@[simp] theorem rV:fin false (.own r) S=some (.lst r,S):=nr rfl
@[simp] theorem tS:fin true (.own r) S=some (.ref S.length,S++[.lst r]):=nr rfl
@[simp] theorem rD:dr S .non=.val .non:=nr rfl
@[simp] theorem tK{b:Bool}:dr S (.bl b)=.val (.bl b):=nr rfl
@[simp] theorem qJ{i:Int}:dr S (.int i)=.val (.int i):=nr rfl
@[simp] theorem qw{x:Str}:dr S (.str x)=.val (.str x):=nr rfl
@[simp] theorem tE{x:String}:dr S (.ty x)=.val (.ty x):=nr rfl
@[simp] theorem qq:dr S (.tup r)=.val (.tup r):=nr rfl
@[simp] theorem qW:dr S (.lst r)=.val (.lst r):=nr rfl
@[simp] theorem qC{ns:List Int}:dr S (.scr ns)=.val (.scr ns):=nr rfl
@[simp] theorem qp{ns:List (Key×D)}:dr S (.dct ns)=.val (.dct ns):=nr rfl
theorem BE{n:Nat}(h:S[n]?=Fk (.lst r)):dr S (.ref n)=.own r:=by
 show(match S[n]? with|some (.lst ds)=>Wv.own ds|_=>.val (.ref n))=_
 rw[h]
theorem AY{n:Nat}(h:S[n]?=Fk (.lst r)):Gb S n=Fk r:=by
 unfold Gb
 rw[h]
@[simp] theorem qz:fz (.val d)=d:=nr rfl
@[simp] theorem qM:fz (.own r)=.lst r:=nr rfl
noncomputable def oP(g:Ev)(E:En)(r:D×Sto):uL (D×Sto):=match r.1 with| .bl true=>g E r.2| .bl false=>Fk (.bl false,r.2)|_=>uK
noncomputable def orK(g:Ev)(E:En)(r:D×Sto):uL (D×Sto):=match r.1 with| .bl false=>g E r.2| .bl true=>Fk (.bl true,r.2)|_=>uK
noncomputable def qQ(r:D×Sto):uL (D×Sto):=match r.1 with| .bl b=>Fk (.bl (!b),r.2)|_=>uK
noncomputable def ifK(f g:Ev)(E:En)(r:D×Sto):uL (D×Sto):=match r.1 with| .bl true=>f E r.2| .bl false=>g E r.2|_=>uK
@[simp] theorem qo:oP g E (.bl true,S)=g E S:=nr rfl
@[simp] theorem qh:oP g E (.bl false,S)=some (.bl false,S):=nr rfl
@[simp] theorem rH:orK g E (.bl false,S)=g E S:=nr rfl
@[simp] theorem sD:orK g E (.bl true,S)=some (.bl true,S):=nr rfl
@[simp] theorem qT{b:Bool}:qQ (.bl b,S)=some (.bl (!b),S):=nr rfl
@[simp] theorem rM:ifK f g E (.bl true,S)=f E S:=nr rfl
@[simp] theorem sQ:ifK f g E (.bl false,S)=g E S:=nr rfl
@[simp] theorem mE:Hu f g E S=(f E S).bind (oP g E):=nr rfl
@[simp] theorem Tz:eOr f g E S=(f E S).bind (orK g E):=nr rfl
@[simp] theorem lC:UC f E S=(f E S).bind qQ:=nr rfl
@[simp] theorem oM:eIf c f g E S=(c E S).bind (ifK f g E):=nr rfl
@[simp] theorem mJ:Cm fs E S=(evs fs E S).bind λr=>if r.1.length<=sizeLine then some (.tup r.1,r.2)else none:=nr rfl
@[simp] theorem mM{cf:Bool}:bE cf fs E S=(evs fs E S).bind λr=>if r.1.length<=sizeLine then fin cf (.own r.1) r.2 else none:=nr rfl
@[simp] theorem jk{F:Fn}:AJ F fs E S=(evs fs E S).bind λr=>F r.1 r.2:=nr rfl
noncomputable def qZ(op:Mo)(fs:Gc Ev)(E:En)(r:D×Sto):uL (D×Sto):=match r.1 with
 | .ref n=>(Gb r.2 n).bind λ_=>(evs fs E r.2).bind λp=>(Gb p.2 n).bind λds=>(op p.2 ds p.1).map λq=>(q.1,p.2.set n (.lst q.2))
 |_=>uK
@[simp] theorem mU{op:Mo}{n:Nat}:qZ op fs E (.ref n,S)=(Gb S n).bind λ_=>(evs fs E S).bind λp=>(Gb p.2 n).bind λds=>(op p.2 ds p.1).map λq=>(q.1,p.2.set n (.lst q.2)):=nr rfl
@[simp] theorem mB{op:Mo}:Lc op f fs E S=(f E S).bind (qZ op fs E):=nr rfl
@[simp] theorem mZ:Le S r [d]=if r.length<sizeLine then some (.non,r++[d])else none:=nr rfl
variable{x y:Ex}
noncomputable def iD(y:Ex)(r:Fl×En×Sto):uL (Fl×En×Sto):=match r.1 with| .nx=>y r.2.1 r.2.2| .ret w=>Fk (.ret w,r.2)
noncomputable def pY(x y:Ex)(E:En)(r:D×Sto):uL (Fl×En×Sto):=match r.1 with| .bl true=>x E r.2| .bl false=>y E r.2|_=>uK
@[simp] theorem OO:iD y (.nx,E,S)=y E S:=nr rfl
@[simp] theorem mI{w:D}:iD y (.ret w,E,S)=some (.ret w,E,S):=nr rfl
@[simp] theorem rG:pY x y E (.bl true,S)=x E S:=nr rfl
@[simp] theorem qF:pY x y E (.bl false,S)=y E S:=nr rfl
@[simp] theorem IG:Aa x y E S=(x E S).bind (iD y):=nr rfl
@[simp] theorem mq:D5 E S=some (.nx,E,S):=nr rfl
@[simp] theorem Qp:xIf c x y E S=(c E S).bind (pY x y E):=nr rfl
@[simp] theorem nB:BJ f E S=(f E S).map λr=>(.ret r.1,E,r.2):=nr rfl
@[simp] theorem bc:BQ i f E S=(f E S).map λr=>(.nx,E.set i (some r.1),r.2):=nr rfl
@[simp] theorem WH:Bl f E S=(f E S).map λr=>(.nx,E,r.2):=nr rfl
noncomputable def qR(d b:D)(E:En)(i:D×Sto):uL (Fl×En×Sto):=match b,i.1 with
 | .ref n,.int j=>(Gb i.2 n).bind λds=>(ixN ds.length j).map λm=>(.nx,E,i.2.set n (.lst (ds.set m d)))
 |_,_=>uK
@[simp] theorem lH{n:Nat}{j:Int}:qR d (.ref n) E (.int j,S)=(Gb S n).bind λds=>(ixN ds.length j).map λm=>(.nx,E,S.set n (.lst (ds.set m d))):=nr rfl
@[simp] theorem lR{k o:Ev}:P1 k f o E S=(k E S).bind λr=>(f E r.2).bind λb=>(o E b.2).bind (qR r.1 b.1 E):=nr rfl
@[simp] theorem mL{t:Tf}:Qa t f E S=(f E S).bind λr=>(t r.1 E r.2).map λE'=>(.nx,E',r.2):=nr rfl
@[simp] theorem mn{i j:Nat}:TM i j f g E S=(f E S).bind λr=>(g E r.2).map λq=>(.nx,(E.set i (some r.1)).set j (some q.1),q.2):=by
  unfold TM
  rw[EZ]
  cases f E S with
  |none=>rfl
  |some r=>
   rw[Bx,Bx,EZ]
   cases g E r.2 with
   |none=>rfl
   |some q=>rfl
@[simp] theorem fA:tNm i d E S=some (E.set i (some d)):=nr rfl
@[simp] theorem pA{ts:List Tf}{ds:List D}:tTp ts (.tup ds) E S=tMs ts ds E S:=nr rfl
@[simp] theorem pV{ts:List Tf}{ds:List D}:tTp ts (.lst ds) E S=tMs ts ds E S:=nr rfl
@[simp] theorem pI{ts:List Tf}{n:Nat}:tTp ts (.ref n) E S=(Gb S n).bind λds=>tMs ts ds E S:=nr rfl
@[simp] theorem oN:tMs [] [] E S=some E:=nr rfl
@[simp] theorem lX{t:Tf}{ts:List Tf}{ds:List D}:tMs (t::ts) (d::ds) E S=(t d E S).bind λE1=>tMs ts ds E1 S:=nr rfl
@[simp] theorem jZ{N:Nat}{ds:List D}:Ar (A1 N x) ds S=(x (ds.map some++List.replicate (N-ds.length) none) S).map λr=>(flD r.1,r.2.2):=by rw[Jt];rfl
@[simp] theorem qI:flD .nx=.non:=nr rfl
@[simp] theorem nk:flD (.ret d)=d:=nr rfl
@[simp] theorem oa{i j:Int}:CK (.val (.int i)) (.val (.int j))=some (.val (.int (i+j))):=nr rfl
@[simp] theorem pX{xs ys:List D}:CK (.val (.tup xs)) (.val (.tup ys))=if xs.length+ys.length<=sizeLine then some (.val (.tup (xs++ys)))else none:=nr rfl
@[simp] theorem pK{xs ys:List D}:CK (.val (.lst xs)) (.val (.lst ys))=if xs.length+ys.length<=sizeLine then some (.own (xs++ys))else none:=nr rfl
@[simp] theorem mv{i j:Int}:CG (.val (.int i)) (.val (.int j))=if Dc i j=true then some (.val (.int (i*j)))else none:=nr rfl
@[simp] theorem md{k:Int}:CG (.val (.tup r)) (.val (.int k))=if(!r.isEmpty && decide (k<=0) && decide (-(2^63)<=k))=true then some (.val (.tup []))else if(!r.isEmpty && decide (1<=k) && decide (r.length*k.toNat<=sizeLine))=true then some (.val (.tup (List.replicate k.toNat r).flatten))else none:=nr rfl
@[simp] theorem lP{k:Int}:CG (.val (.lst r)) (.val (.int k))=if(decide (k<2^63) && decide (-(2^63)<=k) && decide (r.length*k.toNat<=sizeLine))=true then some (.own (List.replicate k.toNat r).flatten)else none:=nr rfl
@[simp] theorem oW:asS (.own r)=some r:=nr rfl
@[simp] theorem nh:asS (.val (.lst r))=some r:=nr rfl
@[simp] theorem oV:asS (.val (.tup r))=some r:=nr rfl
@[simp] theorem pM{ns:List Int}:asS (.val (.scr ns))=some (ns.map .int):=nr rfl
@[simp] theorem gW{j:Int}:wIx w (.val (.int j))=(asS w).bind λds=>(atI ds j).map .val:=nr rfl
theorem CF{α:Type}{xs:Gc α}{n:Nat}{x:α}(h:xs[n]?=Fk x):atI xs (n:Int)=Fk x:=dj h
theorem dQ{α:Type}{xs:Gc α}{i:Int}(h0:0<=i)(h1:i<xs.length):atI xs i=Fk (xs[i.toNat]'(by lia)):=by
 have:atI xs ((i.toNat:Nat):Int)=Fk (xs[i.toNat]'(by lia)):=CF (tz (by lia))
 rwa [vX h0]at this
@[simp] theorem rm:atI (a::r) 0=some a:=CF (n:=0) rfl
@[simp] theorem sg:atI (a::b::r) 1=some b:=CF (n:=1) rfl
@[simp] theorem rR:atI (a::b::e::r) 2=some e:=CF (n:=2) rfl
@[simp] theorem rX:atI (a::b::e::h::r) 3=some h:=CF (n:=3) rfl
@[simp] theorem sJ{k:D}:atI (a::b::e::h::k::r) 4=some k:=CF (n:=4) rfl
theorem RP{n k:Nat}(h:k<n):ixN n (k:Int)=Fk k:=by
 unfold ixN
 simp
 lia
theorem VQ{n:Nat}{i:Int}(h0:0<=i)(h1:i<n):ixN n i=Fk i.toNat:=by
 have:=RP (n:=n) (k:=i.toNat) (by lia)
 rwa [vX h0]at this
@[simp] theorem sN{n:Nat}:ixN (n+1) 0=some 0:=VQ (by decide) (by lia)
@[simp] theorem sX{n:Nat}:ixN (n+2) 1=some 1:=VQ (by decide) (by lia)
@[simp] theorem su{n:Nat}:ixN (n+3) 2=some 2:=VQ (by decide) (by lia)
@[simp] theorem jz{i j:Int}:deq (.int i) (.int j)=(i==j):=nr rfl
@[simp] theorem gG{i j:Int}:EE (.int i) (.int j)=true:=nr rfl
@[simp] theorem ox{w':Wv}:wEq w w'=if EE (fz w) (fz w')=true then some (.val (.bl (deq (fz w) (fz w'))))else none:=nr rfl
@[simp] theorem ny{w':Wv}:wNe w w'=if EE (fz w) (fz w')=true then some (.val (.bl (!deq (fz w) (fz w'))))else none:=nr rfl
@[simp] theorem nJ{i j:Int}:wLt (.val (.int i)) (.val (.int j))=some (.val (.bl (decide (i<j)))):=nr rfl
@[simp] theorem oX{i j:Int}:wLe (.val (.int i)) (.val (.int j))=some (.val (.bl (decide (i<=j)))):=nr rfl
@[simp] theorem pb{i j:Int}:wGt (.val (.int i)) (.val (.int j))=some (.val (.bl (decide (j<i)))):=nr rfl
@[simp] theorem nD{i j:Int}:wGe (.val (.int i)) (.val (.int j))=some (.val (.bl (decide (j<=i)))):=nr rfl
@[simp] theorem lQ{i j:Int}:OQ (.val (.int i)) (.val (.int j))=some (.val (.int (i-j))):=nr rfl
@[simp] theorem lD{i:Int}:Nm (.val (.int i))=some (.val (.int (-i))):=nr rfl
@[simp] theorem mh{i j:Int}:TN (.val (.int i)) (.val (.int j))=(if 0<j then some (.val (.int (i % j)))else none):=by
  show yX Wv.val (if 0<j then Fk (D.int (i % j))else uK)=_
  split<;>rfl
@[simp] theorem kJ{i j:Int}:Qo (.val (.int i)) (.val (.int j))=(if(decide (0<j) && decide (j.natAbs<Hz))=true then some (.val (.int (i / j)))else none):=by
  show yX Wv.val (if(decide (0<j) && decide (j.natAbs<Hz))=true then Fk (D.int (i / j))else uK)=_
  split<;>rfl
@[simp] theorem lW{i j:Int}:XN (.val (.int i)) (.val (.int j))=if(decide (0<=j) && decide (j<=1000) && decide (i.natAbs<2^64))=true then some (.val (.int (i^j.toNat)))else none:=by
  show yX Wv.val (if(decide (0<=j) && decide (j<=1000) && decide (i.natAbs<2^64))=true then Fk (D.int (i^j.toNat))else uK)=_
  split<;>rfl
@[simp] theorem ml{i:Int}:iC (.val (.int i))=some (.val (.int (i.natAbs:Int))):=by
  show Fk (Wv.val (D.int (if i<0 then-i else i)))=_
  congr 3
  split<;>lia
@[simp] theorem aM:Jo (.val (.lst r))=some (.val (.int r.length)):=nr rfl
@[simp] theorem lL:Jo (.val (.tup r))=some (.val (.int r.length)):=nr rfl
@[simp] theorem lE{ns:List Int}:Jo (.val (.scr ns))=some (.val (.int ns.length)):=by
  show Fk (Wv.val (D.int ((ns.map D.int).length:Nat)))=_
  rw[vT]
@[simp] theorem iG:CS w=(asS w).map λds=>.val (.tup ds):=nr rfl
@[simp] theorem kE:Lm w=(asS w).map λds=>.own ds:=nr rfl
@[simp] theorem qx{b:Bool}:Zz (.val (.bl b))=some (.val (.int (if b then 1 else 0))):=nr rfl
@[simp] theorem l8{i j:Int}:mQ (.val (.int i)) (.val (.int j))=some (.val (.int (if j>i then j else i))):=nr rfl
@[simp] theorem lU{i j:Int}:bV (.val (.int i)) (.val (.int j))=some (.val (.int (if j<i then j else i))):=nr rfl
@[simp] theorem Kt{T:String}:K4 w (.val (.ty T))=if RG T=true then(kdW w).map λk=>.val (.bl (k.isA T))else none:=nr rfl
@[simp] theorem nI:RG "int"=true:=by decide
@[simp] theorem mz:RG "bool"=true:=by decide
@[simp] theorem iz:RG "tuple"=true:=by decide
@[simp] theorem pG:RG "str"=true:=by decide
@[simp] theorem mD:RG "list"=true:=by decide
@[simp] theorem m8:ja (.val (.lst r))=(bls r).map λbs=>.val (.bl (bs.all id)):=nr rfl
theorem AN{n:Nat}(h:n<=1000):n<=sizeLine:=uW h (by decide)
@[simp] theorem sz1:(1:Nat)<=sizeLine:=AN (by decide)
@[simp] theorem sz2:(2:Nat)<=sizeLine:=AN (by decide)
@[simp] theorem sz3:(3:Nat)<=sizeLine:=AN (by decide)
@[simp] theorem sz4:(4:Nat)<=sizeLine:=AN (by decide)
@[simp] theorem sz5:(5:Nat)<=sizeLine:=AN (by decide)
@[simp] theorem sz6:(6:Nat)<=sizeLine:=AN (by decide)
@[simp] theorem Hr:Cr E S=some (.bl true,S):=nr rfl
@[simp] theorem mr{s:Sr}{t:Tf}{b:Ex}:Lj s t b E S=(s E S).bind λr=>Nc r.1.2 t b r.1.1 E r.2:=nr rfl
@[simp] theorem Aw:gOk [] S:=λ_ h=>(nomatch h)
theorem Qs{gs:Gd}{t:Tf}{b:Ex}(h:gOk gs S):Nc gs t b [] E S=Fk (.nx,E,S):=by
 unfold Nc
 rw[vM h]
theorem Xq {gs : Gd} {t : Tf} {b : Ex} {ds : Gc D} (h : gOk gs S) : Nc gs t b (d :: ds) E S = (t d E S).bind fun E1 => (b E1 S).bind fun r => match r.1 with
    | .nx => Nc gs t b ds r.2.1 r.2.2
    | .ret w => Fk (.ret w, r.2) := by
  rw [Nc, vM h]
  all_goals rfl
theorem MZ{gs:Gd}{t:Tf}{b:Ex}{ds:Gc D}(h:gOk gs S):Nc gs t b (d::ds) E S=(t d E S).bind λE1=>(b E1 S).bind (iD (Nc gs t b ds)):=by
 rw[Xq h]
 rfl
@[simp] theorem my:Js f E S=(f E S).bind λr=>(sqD r.2 r.1).map λp=>(p,r.2):=nr rfl
@[simp] theorem pL:sqD S (.tup r)=some (r,[]):=nr rfl
@[simp] theorem oJ:sqD S (.lst r)=some (r,[]):=nr rfl
theorem HW{n:Nat}(h:S[n]?=Fk (.lst r)):sqD S (.ref n)=Fk (r,[(n,r)]):=by
 show(Gb S n).map (λds=>(ds,[(n,ds)]))=_
 rw[AY h]
 rfl
@[simp] theorem me:Xe f E S=(f E S).bind λr=>(sqD r.2 r.1).map λp=>((RX 0 p.1,p.2),r.2):=nr rfl
@[simp] theorem mY:ZC f g E S=(f E S).bind λr=>(g E r.2).bind λq=>(sqD q.2 r.1).bind λa=>(sqD q.2 q.1).map λb=>((Nb a.1 b.1,a.2++b.2),q.2):=by
  unfold ZC
  rw[EZ]
  cases f E S with
  |none=>rfl
  |some r=>
   rw[Bx,Bx,EZ]
   cases g E r.2 with
   |none=>rfl
   |some q=>rfl
noncomputable def Jq(j:Int):vL:=decide (-(2^62)<=j) && decide (j<2^62)
theorem DZ{j:Int}(h: -1000000<=j)(g:j<=1000000):Jq j=true:=by
 unfold Jq
 rw[ub]
 exact⟨w6 (by lia),w6 (by lia)⟩
noncomputable def qk(S:Sto):D->uL ((Gc D×Gd)×Sto)
 | .int j=>if Jq j=true then Fk ((KH 0 j.toNat,[]),S)else uK
 |_=>uK
@[simp] theorem mO{j:Int}:qk S (.int j)=if Jq j=true then some ((KH 0 j.toNat,[]),S)else none:=nr rfl
@[simp] theorem l7:PJ [f] E S=(f E S).bind λr=>qk r.2 r.1:=by
  unfold PJ
  rw[EZ]
  cases f E S with
  |none=>rfl
  |some r=>
   obtain⟨d,S1⟩:=r
   rw[Bx,gU,nY,Bx,Bx]
   cases d<;>rfl
@[simp] theorem kf{cf:Bool}{cap:List Nat}{m:Nat}{s:Sr}{t:Tf}:QK cf cap m s t c f E S=(s E S).bind λr=>(C8 r.1.2 t c f r.1.1 [] (PZ cap m E) r.2).bind λq=>fin cf (.own q.1) q.2:=nr rfl
@[simp] theorem lO{cap:List Nat}{m:Nat}:PZ cap m E=cap.map (at? E)++List.replicate m none:=nr rfl
theorem XW{α:Type}(p:α->vL):∀xs:Gc α,bls (xs.map λx=>.bl (p x))=Fk (xs.map p)
 | []=>rfl
 |x::xs=>by
  have ih:=XW p xs
  unfold bls at ih⊢
  rw[uv,zh,ih]
  rfl
@[simp] theorem V1{i:Int}:NZ (.int i::r)=(NZ r).map λns=>i::ns:=by
  unfold NZ
  rw[zh]
  show(do let r1<-Fk i;let rs<-List.mapM intD r;pure (r1::rs))=_
  cases List.mapM intD r<;>rfl
theorem Ic:∀(ns:Gc Int),NZ (ns.map D.int)=Fk ns
 | []=>rfl
 |n::ns=>by rw[uv,V1,Ic ns];rfl
@[simp] theorem mx:bh (.own r)=(NZ r).map λns=>.val (.int ns.sum):=nr rfl
@[simp] theorem lK:bh (.val (.lst r))=(NZ r).map λns=>.val (.int ns.sum):=nr rfl
@[simp] theorem qO:ZM false w (.val .non)=some (.val (.bl (isN w))):=nr rfl
@[simp] theorem qu:ZM true w (.val .non)=some (.val (.bl (!isN w))):=nr rfl
@[simp] theorem sk{i:Int}{w:Wv}:Kn true false [w,.val (.int i)]=wSl (some i) none w:=nr rfl
@[simp] theorem rP{i:Int}{w:Wv}:Kn false true [w,.val (.int i)]=wSl none (some i) w:=nr rfl
@[simp] theorem rQ{i j:Int}{w:Wv}:Kn true true [w,.val (.int i),.val (.int j)]=wSl (some i) (some j) w:=nr rfl
@[simp] theorem oY{lo hi:Option Int}:wSl lo hi (.val (.tup r))=some (.val (.tup (IZ r lo hi))):=nr rfl
end
structure Cj(A:Gc Nat)(S S':Sto):Prop where
 len:S.length<=S'.length
 keep:∀n,n<S.length->n∉A->S'[n]?=S[n]?
theorem Cj.refl{A:Gc Nat}{S:Sto}:Cj A S S:=⟨uV _,λ_ _ _=>rfl⟩
theorem Cj.trans{A:Gc Nat}{S S' S2:Sto}(h:Cj A S S')(g:Cj A S' S2):Cj A S S2:=⟨uW h.len g.len,λn hn ha=>(g.keep n (uO hn h.len) ha).trans (h.keep n hn ha)⟩
theorem Cj.mono{A B:Gc Nat}{S S':Sto}(h:Cj A S S')(s:∀n∈A,n∈B):Cj B S S':=⟨h.len,λn hn hb=>h.keep n hn λz=>hb (s n z)⟩
theorem Cj.get{A:Gc Nat}{S S':Sto}(h:Cj A S S'){n:Nat}{c:Cl}(e:S[n]?=Fk c)(ha:n∉A):S'[n]?=Fk c:=by
 rw[h.keep n (uU.mp e).1 ha];exact e
theorem Cj.app{A:Gc Nat}{S T:Sto}:Cj A S (S++T):=⟨by simp,λn hn _=>uP hn⟩
theorem Cj.set{A:Gc Nat}{S:Sto}{n:Nat}{c:Cl}(h:n∈A):Cj A S (S.set n c):=⟨by simp,λm hm ha=>uS (λz=>ha (by rw[<-z];exact h))⟩
theorem Cj.new{A:Gc Nat}{S S' S2:Sto}(h:Cj A S S')(g:Cj (A++B) S' S2)(hb:∀n∈B,S.length<=n):Cj A S S2:=⟨uW h.len g.len,λn hn ha=>(g.keep n (uO hn h.len) (λz=>by
 rcases uk.mp z with z|z
 .exact ha z
 .have:=hb n z;lia)).trans (h.keep n hn ha)⟩
theorem Ae{S:Sto}{n:Nat}{c:Cl}(h:S[n]?=Fk c):n<S.length:=(uU.mp h).1
section
variable{E:En}{S:Sto}{f g h k l m:Ev}{cf:vL}{F:Fn}
@[simp high] theorem mG{op:Op1}:RT cf (o1 op) [f] E S=(f E S).bind λr=>(op (dr r.2 r.1)).bind λw=>fin cf w r.2:=by
  rw[We,EZ];cases f E S<;>rfl
@[simp high] theorem bO{op:Op2}:RT cf (o2 op) [f,g] E S=(f E S).bind λr=>(g E r.2).bind λq=>(op (dr q.2 r.1) (dr q.2 q.1)).bind λw=>fin cf w q.2:=by
  rw[We,EZ]
  cases f E S with
  |none=>rfl
  |some r=>rw[Bx,Bx,EZ];cases g E r.2<;>rfl
theorem qS:evs [f] E S=(f E S).bind λr=>Fk ([r.1],r.2):=by rw[EZ];cases f E S<;>rfl
theorem qY:evs [f,g] E S=(f E S).bind λr=>(g E r.2).bind λq=>Fk ([r.1,q.1],q.2):=by
 rw[EZ];cases f E S with
 |none=>rfl
 |some r=>rw[Bx,Bx,qS];cases g E r.2<;>rfl
theorem qV:evs [f,g,h] E S=(f E S).bind λr=>(g E r.2).bind λq=>(h E q.2).bind λu=>Fk ([r.1,q.1,u.1],u.2):=by
 rw[EZ];cases f E S with
 |none=>rfl
 |some r=>rw[Bx,Bx,qY];cases g E r.2 with
  |none=>rfl
  |some q=>rw[Bx,Bx];cases h E q.2<;>rfl
theorem sW:evs [f,g,h,k] E S=(f E S).bind λr=>(g E r.2).bind λq=>(h E q.2).bind λu=>(k E u.2).bind λv=>Fk ([r.1,q.1,u.1,v.1],v.2):=by
 rw[EZ];cases f E S with
 |none=>rfl
 |some r=>rw[Bx,Bx,qV];cases g E r.2 with
  |none=>rfl
  |some q=>rw[Bx,Bx];cases h E q.2 with
   |none=>rfl
   |some u=>rw[Bx,Bx];cases k E u.2<;>rfl
@[simp high] theorem si:evs [f] E S=(f E S).bind λr=>some ([r.1],r.2):=qS
@[simp high] theorem tJ:evs [f,g] E S=(f E S).bind λr=>(g E r.2).bind λq=>some ([r.1,q.1],q.2):=qY
@[simp high] theorem sA:evs [f,g,h] E S=(f E S).bind λr=>(g E r.2).bind λq=>(h E q.2).bind λu=>some ([r.1,q.1,u.1],u.2):=qV
@[simp high] theorem sC:evs [f,g,h,k] E S=(f E S).bind λr=>(g E r.2).bind λq=>(h E q.2).bind λu=>(k E u.2).bind λv=>some ([r.1,q.1,u.1,v.1],v.2):=sW
@[simp high] theorem tZ{d:D}:eV 0 (some d::E) S=some (d,S):=nr rfl
@[simp high] theorem uA{d:D}{o0:Option D}:eV 1 (o0::some d::E) S=some (d,S):=nr rfl
@[simp high] theorem uF{d:D}{o0 o1:Option D}:eV 2 (o0::o1::some d::E) S=some (d,S):=nr rfl
@[simp high] theorem tq{d:D}{o0 o1 o2:Option D}:eV 3 (o0::o1::o2::some d::E) S=some (d,S):=nr rfl
@[simp high] theorem uH{d:D}{o0 o1 o2 o3:Option D}:eV 4 (o0::o1::o2::o3::some d::E) S=some (d,S):=nr rfl
@[simp high] theorem tY{d:D}{o0 o1 o2 o3 o4:Option D}:eV 5 (o0::o1::o2::o3::o4::some d::E) S=some (d,S):=nr rfl
@[simp high] theorem tu{d:D}{o0 o1 o2 o3 o4 o5:Option D}:eV 6 (o0::o1::o2::o3::o4::o5::some d::E) S=some (d,S):=nr rfl
@[simp high] theorem tV{d:D}{o0 o1 o2 o3 o4 o5 o6:Option D}:eV 7 (o0::o1::o2::o3::o4::o5::o6::some d::E) S=some (d,S):=nr rfl
@[simp high] theorem tW{d:D}{o0 o1 o2 o3 o4 o5 o6 o7:Option D}:eV 8 (o0::o1::o2::o3::o4::o5::o6::o7::some d::E) S=some (d,S):=nr rfl
@[simp high] theorem tT{d:D}{o0 o1 o2 o3 o4 o5 o6 o7 o8:Option D}:eV 9 (o0::o1::o2::o3::o4::o5::o6::o7::o8::some d::E) S=some (d,S):=nr rfl
@[simp high] theorem tM{d:D}{o0 o1 o2 o3 o4 o5 o6 o7 o8 o9:Option D}:eV 10 (o0::o1::o2::o3::o4::o5::o6::o7::o8::o9::some d::E) S=some (d,S):=nr rfl
@[simp high] theorem sx{d:D}{o0 o1 o2 o3 o4 o5 o6 o7 o8 o9 o10:Option D}:eV 11 (o0::o1::o2::o3::o4::o5::o6::o7::o8::o9::o10::some d::E) S=some (d,S):=nr rfl
@[simp high] theorem sT{d:D}{o0 o1 o2 o3 o4 o5 o6 o7 o8 o9 o10 o11:Option D}:eV 12 (o0::o1::o2::o3::o4::o5::o6::o7::o8::o9::o10::o11::some d::E) S=some (d,S):=nr rfl
@[simp high] theorem rg{d:D}{o0 o1 o2 o3 o4 o5 o6 o7 o8 o9 o10 o11 o12:Option D}:eV 13 (o0::o1::o2::o3::o4::o5::o6::o7::o8::o9::o10::o11::o12::some d::E) S=some (d,S):=nr rfl
@[simp 20000] theorem qa{op:Op2}{d:D}:RT cf (o2 op) [f,eC d] E S=(f E S).bind λr=>(op (dr r.2 r.1) (dr r.2 d)).bind λw=>fin cf w r.2:=by
  rw[bO];cases f E S<;>rfl
@[simp high] theorem mW{i:Nat}{y:Ex}:Aa (BQ i f) y E S=(f E S).bind λr=>y (E.set i (some r.1)) r.2:=by
  rw[IG,bc];cases f E S<;>rfl
@[simp high] theorem lJ{y:Ex}:Aa (Bl f) y E S=(f E S).bind λr=>y E r.2:=by
  rw[IG,WH];cases f E S<;>rfl
end
section
theorem mulL{i j:Int}(h: -18446744073709551616<i)(g:i<18446744073709551616):Dc i j=true:=by
 unfold Dc
 rw[vo]
 exact .inl (w6 (by lia))
theorem mulR{i j:Int}(h: -18446744073709551616<j)(g:j<18446744073709551616):Dc i j=true:=by
 unfold Dc
 rw[vo,vo]
 exact .inr (.inl (w6 (by lia)))
theorem ER{n k:Nat}(h:n<2^k)(hk:k<=8000):n<Hz:=uO h (uz (by decide) hk)
theorem GL{n:Int}(h0:0<n)(h1:n<1152921504606846976):n.natAbs<Hz:=ER (k:=60) (show n.natAbs<2^60 by lia) (by decide)
variable{S:Sto}
noncomputable def TQ(a b:Int):Int:=((zM a.natAbs b.natAbs:Nat):Int)
theorem OH{c:Ev}{b:Ex}{k:Nat}{E:En}:J1 c b (k+1) E S=(c E S).bind λr=>match r.1 with
 | .bl true=>(b E r.2).bind λp=>match p.1 with
   | .nx=>J1 c b k p.2.1 p.2.2
   | .ret w=>Fk (.ret w,p.2)
 | .bl false=>Fk (.nx,E,r.2)
 |_=>none:=rfl
theorem VO{c:Ev}{b:Ex}{k:Nat}{E E2:En}{S1 S2:Sto}(e1:c E S=Fk (.bl true,S1))(e2:b E S1=Fk (.nx,E2,S2)):J1 c b (k+1) E S=J1 c b k E2 S2:=by
 rw[OH,e1]
 show(b E S1).bind _=_
 rw[e2]
 rfl
theorem U2{c:Ev}{b:Ex}{k:Nat}{E:En}{S1:Sto}(e1:c E S=Fk (.bl false,S1)):J1 c b (k+1) E S=Fk (.nx,E,S1):=by
 rw[OH,e1]
 rfl
theorem VL:∀(k:Nat) (x y:Nat),y<k->J1 (eOp (o2 wNe) [eV 1,eC (.int 0)]) (TM 0 1 (eV 1) (eOp (o2 TN) [eV 0,eV 1])) k [Fk (.int x),Fk (.int y)] S=Fk (.nx,[Fk (.int (zM x y:Nat)),Fk (.int 0)],S)
 |0,x,y,h=>absurd h (AAk _)
 |k+1,x,y,h=>by
  by_cases hy:y=0
  .subst hy
   rw[U2 (S1:=S) (by simp)]
   simp
  .have hy2:(((y:Nat):Int)==0)=false:=by simpa using hy
   have ih:=VL k y (x % y) (by have:=Nat.mod_lt x (yY hy);lia)
   rw[show((x % y:Nat):Int)=(x:Int) % (y:Int) by lia]at ih
   have hy4:0<y:=yY hy
   rw[VO (S1:=S) (S2:=S) (E2:=[Fk (.int y),Fk (.int ((x:Int) % (y:Int)))]) (by simp[hy2]) (by simp[hy4]),ih]
   rw[AAb x y,Nat.gcd_rec y x,AAb]
theorem iR(a b:Int):Cs [.int a,.int b] S=Fk (.int (TQ a b),S):=by
 have:=VL (S:=S) (b.natAbs+2) a.natAbs b.natAbs (by lia)
 simp[Cs,Gw,TH,Vm,this,TQ]
theorem O8:∀(k:Nat) (x y:Nat),y<k->J1 (eOp (o2 wGt) [eV 1,eC (.int 0)]) (TM 0 1 (eV 1) (eOp (o2 TN) [eV 0,eV 1])) k [Fk (.int x),Fk (.int y)] S=Fk (.nx,[Fk (.int (zM x y:Nat)),Fk (.int 0)],S)
 |0,x,y,h=>absurd h (AAk _)
 |k+1,x,y,h=>by
  by_cases hy:y=0
  .subst hy
   rw[U2 (S1:=S) (by simp)]
   simp
  .have ih:=O8 k y (x % y) (by have:=Nat.mod_lt x (yY hy);lia)
   rw[show((x % y:Nat):Int)=(x:Int) % (y:Int) by lia]at ih
   have hy4:0<y:=yY hy
   rw[VO (S1:=S) (S2:=S) (E2:=[Fk (.int y),Fk (.int ((x:Int) % (y:Int)))]) (by simp[hy4]) (by simp[hy4]),ih]
   rw[AAb x y,Nat.gcd_rec y x,AAb]
theorem Xw(a b:Int)(ha:0<=a)(hb:0<=b):IC [.int a,.int b] S=Fk (.int (TQ a b),S):=by
 have:=O8 (S:=S) (b.natAbs+2) a.natAbs b.natAbs (by lia)
 have e1:((a.natAbs:Nat):Int)=a:=by lia
 have e2:((b.natAbs:Nat):Int)=b:=by lia
 rw[e1,e2]at this
 simp[IC,Mx,TH,Vm,this,TQ]
noncomputable def lowP(t b:Int):Int×Int:=(t / TQ t b,b / TQ t b)
theorem Uh{t b:Int}(h:0<b):0<TQ t b:=by
 unfold TQ
 have:0<zM t.natAbs b.natAbs:=Nat.gcd_pos_of_pos_right _ (by lia)
 lia
theorem W5{t b:Int}(h:0<b):(TQ t b).natAbs<=b.natAbs:=by
 unfold TQ
 have:zM t.natAbs b.natAbs<=b.natAbs:=Nat.gcd_le_right _ (by lia)
 lia
noncomputable def amD(p:Int×Int):D:=.tup [.int p.1,.int p.2]
theorem Lk{t b:Int}(h:0<b)(hb:b.natAbs<Hz):EA [.int t,.int b] S=Fk (amD (lowP t b),S):=by
 have h1:=Uh (t:=t) h
 have h2:(TQ t b).natAbs<Hz:=vb (W5 h) hb
 simp[EA,Pw,iR,h1,h2,amD,lowP]
theorem aN{t b:Int}:TQ (t.natAbs:Int) b=TQ t b:=by
 unfold TQ
 rw[wm]
theorem Tv{t b:Int}(h:0<b)(hb:b.natAbs<Hz):CP [.int t,.int b] S=Fk (amD (lowP t b),S):=by
 have h1:=Uh (t:=t) h
 have h2:(TQ t b).natAbs<Hz:=vb (W5 h) hb
 have h3:=Xw (S:=S) (t.natAbs:Int) b (by lia) (by lia)
 rw[aN]at h3
 simp[CP,P9,h3,h1,h2,amD,lowP]
noncomputable def aD(q:Rat):D:=.tup [.int q.num,.int q.den]
def Sz(k:Nat)(q:Rat):Prop:=q.num.natAbs<2^k/\q.den<2^k
theorem FZ(q:Rat):(q.num:Rat) / (q.den:Rat)=q:=by
 rw[<-Rat.mkRat_eq_div,Rat.mkRat_self]
theorem LG(q:Rat):(q.den:Rat)≠0:=by
 have:=q.den_nz
 exact_mod_cast this
theorem N9(t:Int)(n:Nat)(h:0<n):((t:Rat) / (n:Rat)).num=t / (zM t.natAbs n:Nat)/\((t:Rat) / (n:Rat)).den=n / zM t.natAbs n:=by
 have e:(t:Rat) / (n:Rat)=mkRat t n:=by rw[Rat.mkRat_eq_div]
 rw[e,Rat.mkRat_def,dif_neg (by lia),Rat.normalize_eq]
 exact⟨rfl,rfl⟩
theorem Lb{t b:Int}(h:0<b):amD (lowP t b)=aD ((t:Rat) / (b:Rat)):=by
 obtain⟨n,rfl⟩:∃n:Nat,b=n:=⟨b.natAbs,by lia⟩
 obtain⟨h1,h2⟩:=N9 t n (by lia)
 unfold amD aD lowP TQ
 rw[show(((n:Nat):Int):Rat)=((n:Nat):Rat)from rfl,h1,h2]
 simp
theorem Pu{t b:Int}{k:Nat}(h:0<b)(ht:t.natAbs<2^k)(hb:b.natAbs<2^k):Sz k ((t:Rat) / (b:Rat)):=by
 obtain⟨n,rfl⟩:∃n:Nat,b=n:=⟨b.natAbs,by lia⟩
 obtain⟨h1,h2⟩:=N9 t n (by lia)
 unfold Sz
 rw[show(((n:Nat):Int):Rat)=((n:Nat):Rat)from rfl,h1,h2]
 exact⟨vb (Int.natAbs_ediv_le_natAbs _ _) ht,vb (Nat.div_le_self _ _) (by simpa using hb)⟩
theorem Cz{a b j k:Nat}(ha:a<2^j)(hb:b<2^k):a*b<2^(j+k):=by
 rw[Nat.pow_add]
 exact Nat.mul_lt_mul'' ha hb
theorem JV{i j:Int}{k m:Nat}(hi:i.natAbs<2^k)(hj:j.natAbs<2^m)(h:k<=60000)(g:m<=60000):Dc i j=true:=by
 unfold Dc
 rw[vo,vo,ub]
 exact .inr (.inr ⟨w6 (uO hi (uz (by decide) h)),w6 (uO hj (uz (by decide) g))⟩)
theorem den_pos(q:Rat):0<(q.den:Int):=by have:=q.den_pos;lia
theorem gQ{x:Int}{n m:Nat}(h:x.natAbs<2^n)(g:n<=m):x.natAbs<2^m:=uO h (uz (by decide) g)
section
variable{p q:Rat}{j k:Nat}
theorem Et(hp:Sz j p)(hq:Sz k q):(p.num*q.den+q.num*p.den).natAbs<2^(j+k+1)/\((p.den:Int)*q.den).natAbs<2^(j+k)/\(p.num*q.den-q.num*p.den).natAbs<2^(j+k+1):=by
 have a1:=Cz hp.1 hq.2
 have a2:=Cz hq.1 hp.2
 have a3:=Cz hp.2 hq.2
 rw[AAV k j]at a2
 have e:2^(j+k+1)=2^(j+k)+2^(j+k):=by rw[AAc];lia
 refine⟨?_,?_,?_⟩
 .refine vb (Int.natAbs_add_le _ _) ?_
  rw[xl,xl,wm,wm,e]
  lia
 .rw[xl,wm,wm];exact a3
 .refine vb (Int.natAbs_sub_le _ _) ?_
  rw[xl,xl,wm,wm,e]
  lia
theorem QS:(((p.num*q.den+q.num*p.den:Int):Rat) / (((p.den:Int)*q.den:Int):Rat))=p+q:=by
 have h1:=FZ p;have h2:=FZ q
 have d1:=LG p;have d2:=LG q
 push_cast
 grind
theorem U3:(((p.num*q.den-q.num*p.den:Int):Rat) / (((p.den:Int)*q.den:Int):Rat))=p-q:=by
 have h1:=FZ p;have h2:=FZ q
 have d1:=LG p;have d2:=LG q
 push_cast
 grind
theorem Og:(((p.num*q.num:Int):Rat) / (((p.den:Int)*q.den:Int):Rat))=p*q:=by
 have h1:=FZ p;have h2:=FZ q
 have d1:=LG p;have d2:=LG q
 push_cast
 grind
theorem j4(hp:Sz j p)(hq:Sz k q):Sz (j+k+1) (p+q):=by
 rw[<-QS]
 have:=Et hp hq
 exact Pu (vv (den_pos _) (den_pos _)) this.1 (gQ this.2.1 (by lia))
theorem i0(hp:Sz j p)(hq:Sz k q):Sz (j+k+1) (p-q):=by
 rw[<-U3]
 have:=Et hp hq
 exact Pu (vv (den_pos _) (den_pos _)) this.2.2 (gQ this.2.1 (by lia))
theorem P5(hp:Sz j p)(hq:Sz k q):Sz (j+k) (p*q):=by
 rw[<-Og]
 have:=Et hp hq
 exact Pu (vv (den_pos _) (den_pos _)) (by rw[xl];exact Cz hp.1 hq.1) this.2.1
end
section
variable{p q:Rat}{j k:Nat}
theorem QA(hp:Sz j p)(hq:Sz k q)(hj:j+k<=7990):Dc p.num q.den=true/\Dc q.num p.den=true/\Dc p.den q.den=true/\Dc p.num q.num=true:=by
 refine⟨JV hp.1 (by simpa using hq.2) (by lia) (by lia),JV hq.1 (by simpa using hp.2) (by lia) (by lia),JV (by simpa using hp.2) (by simpa using hq.2) (by lia) (by lia),JV hp.1 hq.1 (by lia) (by lia)⟩
theorem eA(hp:Sz j p)(hq:Sz k q)(hj:j+k<=7990):Gz [aD p,aD q] S=Fk ((aD (p+q)),S):=by
 obtain⟨m1,m2,m3,m4⟩:=QA hp hq (by lia)
 have b:=Et hp hq
 have l:=Lk (S:=S) (t:=p.num*q.den+q.num*p.den) (b:=p.den*q.den) (vv (den_pos _) (den_pos _)) (ER b.2.1 (by lia))
 rw[Lb (vv (den_pos _) (den_pos _)),QS]at l
 simp only[aD]at l⊢
 simp[Gz,Uv,m1,m2,m3,l]
theorem pB(hp:Sz j p)(hq:Sz k q)(hj:j+k<=7990):Lp [aD p,aD q] S=Fk ((aD (p-q)),S):=by
 obtain⟨m1,m2,m3,m4⟩:=QA hp hq (by lia)
 have b:=Et hp hq
 have l:=Lk (S:=S) (t:=p.num*q.den-q.num*p.den) (b:=p.den*q.den) (vv (den_pos _) (den_pos _)) (ER b.2.1 (by lia))
 rw[Lb (vv (den_pos _) (den_pos _)),U3]at l
 simp only[aD]at l⊢
 simp[Lp,VT,m1,m2,m3,l]
theorem Wr(hp:Sz j p)(hq:Sz k q)(hj:j+k<=7990):EM [aD p,aD q] S=Fk ((aD (p*q)),S):=by
 obtain⟨m1,m2,m3,m4⟩:=QA hp hq (by lia)
 have b:=Et hp hq
 have l:=Lk (S:=S) (t:=p.num*q.num) (b:=p.den*q.den) (vv (den_pos _) (den_pos _)) (ER b.2.1 (by lia))
 rw[Lb (vv (den_pos _) (den_pos _)),Og]at l
 simp only[aD]at l⊢
 simp[EM,Rr,m3,m4,l]
theorem RU(hp:Sz j p)(hq:Sz k q)(hj:j+k<=7990):CO [aD p,aD q] S=Fk ((aD (p+q)),S):=by
 obtain⟨m1,m2,m3,m4⟩:=QA hp hq (by lia)
 have b:=Et hp hq
 have l:=Tv (S:=S) (t:=p.num*q.den+q.num*p.den) (b:=p.den*q.den) (vv (den_pos _) (den_pos _)) (ER b.2.1 (by lia))
 rw[Lb (vv (den_pos _) (den_pos _)),QS]at l
 simp only[aD]at l⊢
 simp[CO,QI,m1,m2,m3,l]
theorem Kf(hp:Sz j p)(hq:Sz k q)(hj:j+k<=7990):Ax [aD p,aD q] S=Fk ((aD (p*q)),S):=by
 obtain⟨m1,m2,m3,m4⟩:=QA hp hq (by lia)
 have b:=Et hp hq
 have l:=Tv (S:=S) (t:=p.num*q.num) (b:=p.den*q.den) (vv (den_pos _) (den_pos _)) (ER b.2.1 (by lia))
 rw[Lb (vv (den_pos _) (den_pos _)),Og]at l
 simp only[aD]at l⊢
 simp[Ax,Oo,m3,m4,l]
theorem jv:aD (-q)=.tup [.int (0-q.num),.int q.den]:=by
 unfold aD
 rw[show(-q).num=0-q.num by simp,show(-q).den=q.den by simp]
theorem jN(hq:Sz k q):Sz k (-q):=by
 unfold Sz
 rw[show(-q).num= -q.num by simp,show(-q).den=q.den by simp,Int.natAbs_neg]
 exact hq
theorem cX(hp:Sz j p)(hq:Sz k q)(hj:j+k<=7990):Eu [aD p,aD q] S=Fk ((aD (p-q)),S):=by
 have l:=RU (S:=S) hp (jN hq) hj
 rw[jv]at l
 rw[Rat.sub_eq_add_neg]
 simp only[aD]at l⊢
 simp at l
 simp[Eu,QC,l]
end
theorem XD{t b:Int}(h:0<b)(hb:b.natAbs<Hz):EA [.int t,.int b] S=Fk ((aD (t / b)),S):=by
 rw[Lk h hb,Lb h]
theorem cD{t b:Int}(h:0<b)(hb:b.natAbs<Hz):CP [.int t,.int b] S=Fk ((aD (t / b)),S):=by
 rw[Tv h hb,Lb h]
theorem Kr{a b:Int}{k:Nat}(ha:a.natAbs<2^k)(hb:b.natAbs<2^k):(a+b).natAbs<2^(k+1):=by
 have e:2^(k+1)=2^k+2^k:=by rw[AAc];lia
 have:=Int.natAbs_add_le a b
 lia
theorem ML{a b:Int}{j k:Nat}(ha:a.natAbs<2^j)(hb:b.natAbs<2^k):(a*b).natAbs<2^(j+k):=by
 rw[xl];exact Cz ha hb
theorem Wc{p q:Rat}{w m:Int}(h:0<w+m):((p.num*q.den*w+q.num*p.den*m:Int):Rat) / (((p.den:Int)*q.den*(w+m):Int):Rat)=(p*w+q*m) / (w+m):=by
 have h1:=FZ p;have h2:=FZ q
 have d1:=LG p;have d2:=LG q
 have d3:((w:Rat)+(m:Rat))≠0:=by
  intro e
  have:((w+m:Int):Rat)=0:=by push_cast;exact e
  have:=xn.mp this
  lia
 push_cast
 grind
section
variable{p q:Rat}{w m:Int}{j k n:Nat}
theorem Z0(hp:Sz j p)(hq:Sz k q)(hw:w.natAbs<2^n)(hm:m.natAbs<2^n):(p.num*q.den*w+q.num*p.den*m).natAbs<2^(j+k+n+1)/\((p.den:Int)*q.den*(w+m)).natAbs<2^(j+k+(n+1)):=by
 have d1:((p.den:Int)).natAbs<2^j:=by simpa using hp.2
 have d2:((q.den:Int)).natAbs<2^k:=by simpa using hq.2
 refine⟨Kr (ML (ML hp.1 d2) hw) ?_,ML (ML d1 d2) (Kr hw hm)⟩
 have:=ML (ML hq.1 d1) hm
 rwa [AAV k j]at this
theorem iq(hp:Sz j p)(hq:Sz k q)(hw:w.natAbs<2^n)(hm:m.natAbs<2^n)(h:0<w+m)(hj:j+k+n+1<=7990):J6 [aD p,.int w,aD q,.int m] S=Fk ((aD ((p*w+q*m) / (w+m))),S):=by
 obtain⟨m1,m2,m3,m4⟩:=QA hp hq (by lia)
 have d1:((p.den:Int)).natAbs<2^j:=by simpa using hp.2
 have d2:((q.den:Int)).natAbs<2^k:=by simpa using hq.2
 have b:=Z0 hp hq hw hm
 have m5:Dc (p.num*q.den) w=true:=JV (ML hp.1 d2) hw (by lia) (by lia)
 have m6:Dc (q.num*p.den) m=true:=JV (ML hq.1 d1) hm (by lia) (by lia)
 have m7:Dc ((p.den:Int)*q.den) (w+m)=true:=JV (ML d1 d2) (Kr hw hm) (by lia) (by lia)
 have l:=XD (S:=S) (t:=p.num*q.den*w+q.num*p.den*m) (b:=p.den*q.den*(w+m)) (vv (vv (den_pos _) (den_pos _)) h) (ER b.2 (by lia))
 rw[Wc h]at l
 simp only[aD]at l⊢
 simp[J6,Rb,m1,m2,m3,m5,m6,m7,l]
end
end
section
variable{S:Sto}{p:Nat}
theorem dR{r:Gc D}(h:p<S.length):dr (S.set p (.lst r)) (.ref p)=.own r:=BE (ua h)
def Pen(ds:Gc D):Prop:=∃a b c d:Int,ds=[.int a,.int b,.int c,.int d]/\0<=d/\d<1000000007
def CD(p:Nat)(S:Sto):Prop:=∃ds,S[p]?=Fk (.lst ds)/\Pen ds
structure Pn(p:Nat)(S S':Sto):Prop where
 same:Cj [p] S S'
 pen:CD p S'
theorem Pn.trans{S S' S2:Sto}(h:Pn p S S')(g:Pn p S' S2):Pn p S S2:=⟨h.same.trans g.same,g.pen⟩
theorem Pn.get{S S':Sto}(h:Pn p S S'){n:Nat}{c:Cl}(e:S[n]?=Fk c)(ha:n≠p):S'[n]?=Fk c:=h.same.get e (by simpa using ha)
theorem Pn.refl(h:CD p S):Pn p S S:=⟨.refl,h⟩
theorem CD.lt(h:CD p S):p<S.length:=by obtain⟨ds,e,_⟩:=h;exact Ae e
theorem CD.app(h:CD p S)(T:Sto):CD p (S++T):=by obtain⟨ds,e,hp⟩:=h;exact⟨ds,by rw[uP (Ae e)];exact e,hp⟩
theorem Aj(h:CD p S){n:Int}(h0:0<n)(h1:n<1152921504606846976):∃r S',AI [.ref p,.int n] S=Fk (.int r,S')/\0<=r/\r<n/\Pn p S S':=by
 obtain⟨ds,hp,a,b,c,d,rfl,hd0,hd1⟩:=h
 have hl:=Ae hp
 have hs:=GL h0 h1
 have hr:=BE hp
 have hc:=AY hp
 by_cases hb:b=1/\0<a
 .obtain⟨rfl,ha⟩:=hb
  refine⟨a % n,S.set p (.lst [.int (a / n),.int 1,.int c,.int d]),?_,xU _ (by lia),xu _ h0,.set (by simp),_,ua hl,_,_,_,_,rfl,hd0,hd1⟩
  simp[AI,Kw,ha,h0,hs,hr,hc]
 .have m1:Dc (d+17) (69621+2*(c+1))=true:=mulL (by lia) (by lia)
  have m2:Dc 2 (c+1)=true:=mulL (by decide) (by decide)
  generalize ht:(d+17)*(69621+2*(c+1)) % 2147483647=t at*
  have t0:0<=t:=by rw[<-ht];exact xU _ (by decide)
  have t1:t<2147483647:=by rw[<-ht];exact xu _ (by decide)
  have m3:Dc t t=true:=mulL (by lia) (by lia)
  have m4:Dc 40503 (c+1)=true:=mulL (by decide) (by decide)
  generalize hu:(t*t+40503*(c+1)+5) % 2147483629=u at*
  have u0:0<=u:=by rw[<-hu];exact xU _ (by decide)
  have u1:u<2147483629:=by rw[<-hu];exact xu _ (by decide)
  have m5:Dc u 48271=true:=mulL (by lia) (by lia)
  have d32:(32:Int).natAbs<Hz:=GL (by decide) (by decide)
  have d32':(32:Nat)<Hz:=d32
  refine⟨u*48271 % 2147483647 / 32 % n,S.set p (.lst [.int a,.int b,.int (c+1),.int d]),?_,xU _ (by lia),xu _ h0,.set (by simp),_,ua hl,_,_,_,_,rfl,hd0,hd1⟩
  by_cases hb1:b=1
  .subst hb1
   have ha:¬0<a:=λz=>hb ⟨rfl,z⟩
   simp[AI,Kw,ha,h0,hs,hr,hc,dR,hl,m1,m2,m3,m4,m5,ht,hu,d32']
  .have hb2:(b==1)=false:=by simpa using hb1
   simp[AI,Kw,hb2,h0,hs,hr,hc,dR,hl,m1,m2,m3,m4,m5,ht,hu,d32']
theorem jR(c:Int):∃p S',J5 [.int c] S=Fk (.ref p,S')/\CD p S'/\Cj [] S S'/\S.length<=p:=by
 refine⟨S.length,S++[.lst [.int c,.int (if(10:Int)^18<=c then 1 else 0),.int 0,.int (c % 1000000007)]],?_,⟨_,uj,_,_,_,_,rfl,xU _ (by decide),xu _ (by decide)⟩,.app,uV _⟩
 simp[J5,Sn]
theorem FL{gs:Gd}{t:Tf}{c f:Ev}{acc:Gc D}{E:En}(h:gOk gs S):C8 gs t c f [] acc E S=Fk (acc,S):=by
 unfold C8
 rw[vM h]
theorem Pz {gs : Gd} {t : Tf} {c f : Ev} {d : D} {ds acc : Gc D} {E : En} (h : gOk gs S) (hz : acc.length < sizeLine) : C8 gs t c f (d :: ds) acc E S = (t d E S).bind fun E1 => (c E1 S).bind fun r => match r.1 with
      | .bl true => (f E1 r.2).bind fun p => C8 gs t c f ds (acc ++ [p.1]) E1 p.2
      | .bl false => C8 gs t c f ds acc E1 r.2
      | _ => none := by
  rw [C8, vM h, vM hz]
  all_goals rfl
theorem JH{gs:Gd}{t:Tf}{c f:Ev}{d:D}{ds acc:Gc D}{E E1:En}{S1:Sto}(h:gOk gs S)(hz:acc.length<sizeLine)(e1:t d E S=Fk E1)(e2:c E1 S=Fk (.bl true,S1)):C8 gs t c f (d::ds) acc E S=(f E1 S1).bind λp=>C8 gs t c f ds (acc++[p.1]) E1 p.2:=by
 rw[Pz h hz,e1]
 show(c E1 S).bind _=_
 rw[e2]
 rfl
theorem LP{gs:Gd}{t:Tf}{c f:Ev}{d:D}{ds acc:Gc D}{E E1:En}{S1:Sto}(h:gOk gs S)(hz:acc.length<sizeLine)(e1:t d E S=Fk E1)(e2:c E1 S=Fk (.bl false,S1)):C8 gs t c f (d::ds) acc E S=C8 gs t c f ds acc E1 S1:=by
 rw[Pz h hz,e1]
 show(c E1 S).bind _=_
 rw[e2]
 rfl
theorem MC{gs:Gd}{t:Tf}{f:Ev}{C:En}{m:Nat}{I:Sto->Prop}{R:D->D->Prop}(hg:∀S,I S->gOk gs S):∀{ds acc:Gc D} {os:En} {S:Sto},os.length=m->I S->acc.length+ds.length<=sizeLine->(∀d∈ds,∀os S,os.length=m->I S->∃us y S',us.length=m/\t d (C++os) S=Fk (C++us)/\f (C++us) S=Fk (y,S')/\I S'/\R d y)->∃ys S',C8 gs t Cr f ds acc (C++os) S=Fk (acc++ys,S')/\I S'/\ys.length=ds.length/\Paired R ds ys
 | [],acc,os,S,ho,hI,hz,h=>⟨[],S,by rw[FL (hg S hI)];simp,hI,rfl,.nil⟩
 |d::ds,acc,os,S,ho,hI,hz,h=>by
  obtain⟨us,y,S1,hu,e1,e2,I1,r1⟩:=h d uX os S ho hI
  obtain⟨ys,S2,e3,I2,l2,r2⟩:=MC hg (ds:=ds) (acc:=acc++[y]) (os:=us) (S:=S1) hu I1 (by simp at hz ⊢; lia) λd' hd=>h d' (uR _ hd)
  refine⟨y::ys,S2,?_,I2,by simp[l2],.cons r1 r2⟩
  rw[JH (hg S hI) (by simp at hz;lia) e1 Hr,e2,Bx,e3]
  simp
theorem comp_map{gs:Gd}{t:Tf}{f:Ev}{C:En}{m:Nat}{g:D->D}{S:Sto}(hg:gOk gs S):∀{ds acc:Gc D} {os:En},os.length=m->acc.length+ds.length<=sizeLine->(∀d∈ds,∀os,os.length=m->∃us,us.length=m/\t d (C++os) S=Fk (C++us)/\f (C++us) S=Fk (g d,S))->C8 gs t Cr f ds acc (C++os) S=Fk (acc++ds.map g,S)
 | [],acc,os,ho,hz,h=>by rw[FL hg];simp
 |d::ds,acc,os,ho,hz,h=>by
  obtain⟨us,hu,e1,e2⟩:=h d uX os ho
  rw[JH hg (by simp at hz;lia) e1 Hr,e2,Bx]
  rw[comp_map hg hu (by simp at hz ⊢; lia) λd' hd=>h d' (uR _ hd)]
  simp
theorem EJ{gs:Gd}{t:Tf}{b:Ex}{I:Gc D->En->Sto->Prop}(hg:∀ds E S,I ds E S->gOk gs S):∀{ds:Gc D} {E:En} {S:Sto},I ds E S->(∀d ds E S,I (d::ds) E S->∃E1 E2 S2,t d E S=Fk E1/\b E1 S=Fk (.nx,E2,S2)/\I ds E2 S2)->∃E' S',Nc gs t b ds E S=Fk (.nx,E',S')/\I [] E' S'
 | [],E,S,hI,h=>⟨E,S,Qs (hg _ _ _ hI),hI⟩
 |d::ds,E,S,hI,h=>by
  obtain⟨E1,E2,S2,e1,e2,I2⟩:=h d ds E S hI
  obtain⟨E',S',e3,I3⟩:=EJ hg I2 h
  exact⟨E',S',by rw[MZ (hg _ _ _ hI),e1];simp[e2,e3],I3⟩
theorem pick{xs:Gc D}{r:Int}(h0:0<=r)(h1:r<xs.length):∃x,atI xs r=Fk x/\x∈xs:=⟨_,dQ h0 h1,wI _⟩
theorem Kq{α β:Type}{P:β->Prop}:∀{xs:Gc α} {ys:Gc β},Paired (λ_ y=>P y) xs ys->∀y∈ys,P y
 |_,_,.nil,y,h=>by cases h
 |_,_,.cons r t,y,h=>by
  rcases uQ.mp h with h|h
  .rw[h];exact r
  .exact Kq t y h
theorem D7{lo:Int}{n:Nat}:(KH lo n).length=n:=by simp[KH]
end
def Ok(G B:Nat)(r:Rat):Prop:=∃z:Nat,r*(G:Rat)=(z:Rat)/\z<=B
theorem QH{n:Nat}(h:0<n):(n:Rat)≠0:=by
 have:n≠0:=by lia
 exact_mod_cast this
theorem Ok.sz{G B k:Nat}{r:Rat}(h:Ok G B r)(hG:0<G)(g:G<2^k)(b:B<2^k):Sz k r:=by
 obtain⟨z,e,hz⟩:=h
 have e2:r=((z:Int):Rat) / ((G:Int):Rat):=by
  have:=QH hG
  rw[show(((z:Nat):Int):Rat)=(z:Rat)from rfl,show(((G:Nat):Int):Rat)=(G:Rat)from rfl,<-e]
  grind
 rw[e2]
 exact Pu (by lia) (by simpa using vb hz b) (by simpa using g)
theorem Ok.up{G B t B':Nat}{r:Rat}(h:Ok G B r)(hB:B*t<=B'):Ok (G*t) B' r:=by
 obtain⟨z,e,hz⟩:=h
 refine⟨z*t,?_,uW (vI t hz) hB⟩
 push_cast
 rw[<-e]
 grind
theorem Ok.zero{G B:Nat}:Ok G B 0:=⟨0,by simp,we _⟩
theorem Ok.one{G B:Nat}(h:G<=B):Ok G B 1:=⟨G,by simp,h⟩
theorem Ok.mix{G B a b t:Nat}{r o:Rat}(hr:Ok G B r)(ho:Ok G B o)(ht:a+b=t)(h0:0<t):Ok (G*t) (B*t) ((r*(a:Rat)+o*(b:Rat)) / (t:Rat)):=by
 obtain⟨z,e1,h1⟩:=hr
 obtain⟨y,e2,h2⟩:=ho
 refine⟨z*a+y*b,?_,?_⟩
 .have:=QH h0
  push_cast
  rw[<-e1,<-e2]
  grind
 .rw[<-ht,Nat.mul_add]
  exact Nat.add_le_add (vI a h1) (vI b h2)
structure Tr where
 p:Nat
 k:Nat
 b:Nat
 ho:Gc Rat
 h:Int
 l:Int
structure Ld where
 k:Nat
 n:Int
 ow:Gc Rat
structure Stt where
 AE:Gc Ld
 hold:Gc Rat
 nums:Gc Int
inductive Ab where
 |Ip (p k:Nat) (n:Int)
 |LC (a b:Nat)
 |swap (l:Nat) (g:Int) (k:Nat) (n:Int)
 |Hw (t:Int) (l:Nat) (g:Int) (k:Nat) (n:Int)
 |Jr (l:Nat) (n:Int)
 |thr (l:Nat) (n:Int) (ws:Gc Int)
 |Me (p q:Nat) (s:Rat)
noncomputable def shD(rs:Gc Rat):D:=.tup (rs.map aD)
noncomputable def Tr.d(t:Tr):D:=.tup [.int t.p,.int t.k,.int t.b,shD t.ho,.int t.h,.int t.l]
noncomputable def Ld.d(l:Ld):D:=.tup [.int l.k,.int l.n,shD l.ow]
noncomputable def Ab.d:Ab->D
 | .Ip p k n=>.tup [.str "bring",.int p,.int k,.int n]
 | .LC a b=>.tup [.str "pool",.int a,.int b]
 | .swap l g k n=>.tup [.str "swap",.int l,.int g,.int k,.int n]
 | .Hw t l g k n=>.tup [.str "trade",.int t,.int l,.int g,.int k,.int n]
 | .Jr l n=>.tup [.str "spoil",.int l,.int n]
 | .thr l n ws=>.tup [.str "throw",.int l,.int n,.tup (ws.map .int)]
 | .Me p q s=>.tup [.str "sell",.int p,.int q,aD s]
noncomputable def Jp(x:Rat)(os ss:Gc Rat):Gc Rat:=zO (λs o=>s*(1-x)+o*x) ss os
noncomputable def IT(p q:Nat)(s:Rat)(ss:Gc Rat):Gc Rat:=(ss.set p (ss.getD p 0-ss.getD p 0*s)).set q (ss.getD q 0+ss.getD p 0*s)
noncomputable def DF(n m:Int)(ss os:Gc Rat):Gc Rat:=zO (λs o=>(s*n+o*m) / (n+m:Int)) ss os
noncomputable def EH(t:Tr)(ls:Gc Ld)(ws:Gc Int):Int:=(ls.map λl=>l.n*ws.getD l.k 0).sum+t.b*ws.getD t.k 0
noncomputable def KZ(t:Tr)(ls:Gc Ld)(l:Nat)(n:Int)(ws:Gc Int):Rat:=((n*ws.getD ((ls[l]?.map (·.k)).getD 0) 0:Int):Rat) / (EH t ls ws:Rat)
noncomputable def AU(ls:Gc Ld)(l:Nat):Ld:=ls.getD l ⟨0,0,[]⟩
noncomputable def less(ls:Gc Ld)(l:Nat)(n:Int):Gc Ld:=ls.set l {AU ls l with n:=(AU ls l).n-n}
noncomputable def WE(p i:Nat):Gc Rat:=(uc p).map λj=>if j=i then 1 else 0
noncomputable def step(t:Tr)(s:Stt):Ab->Stt
 | .Ip p k n=>{s with AE:=s.AE++[⟨k,n,WE t.p p⟩]}
 | .LC a b=>{s with AE:=less (less s.AE a (AU s.AE a).n) b (AU s.AE b).n++[⟨(AU s.AE a).k,(AU s.AE a).n+(AU s.AE b).n,DF (AU s.AE a).n (AU s.AE b).n (AU s.AE a).ow (AU s.AE b).ow⟩]}
 | .swap l g k n=>{s with AE:=less s.AE l g++[⟨k,n,(AU s.AE l).ow⟩]}
 | .Hw u l g k n=>{s with AE:=less s.AE l g++[⟨k,n,(AU s.AE l).ow⟩],nums:=s.nums++[u]}
 | .Jr l n=>{s with AE:=less s.AE l n}
 | .thr l n ws=>{s with AE:=(less s.AE l n).map λx=>{x with ow:=Jp (KZ t s.AE l n ws) (AU s.AE l).ow x.ow},hold:=Jp (KZ t s.AE l n ws) (AU s.AE l).ow s.hold}
 | .Me p q x=>{s with AE:=s.AE.map λy=>{y with ow:=IT p q x y.ow},hold:=IT p q x s.hold}
def Jy(t:Tr):Prop:=1<=t.p/\t.p<=4/\1<=t.k/\t.k<=5/\1<=t.b/\t.b<=20
def Can(t:Tr)(s:Stt):Ab->Prop
 | .Ip p k n=>p<t.p/\k<t.k/\1<=n/\n<2^131
 | .LC a b=>a≠b/\a<s.AE.length/\b<s.AE.length/\0<(AU s.AE a).n/\0<(AU s.AE b).n/\(AU s.AE a).k=(AU s.AE b).k
 | .swap l g k n=>l<s.AE.length/\1<=g/\g<=(AU s.AE l).n/\k<t.k/\k≠(AU s.AE l).k/\1<=n/\n<2^131
 | .Hw u l g k n=>l<s.AE.length/\1<=g/\g<=(AU s.AE l).n/\k<t.k/\k≠(AU s.AE l).k/\1<=n/\n<2^131/\u∉s.nums/\0<=u/\u<=9
 | .Jr l n=>l<s.AE.length/\1<=n/\n<=(AU s.AE l).n
 | .thr l n ws=>l<s.AE.length/\1<=n/\n<=(AU s.AE l).n/\ws.length=t.k+1/\∀w∈ws,1<=w/\w<=99
 | .Me p q x=>p≠q/\p<t.p/\q<t.p/\0<x.num/\x.num<=x.den/\x.den<=12
structure GB(t:Tr)(k:Nat)(s:Stt):Prop where
 len:s.AE.length<=4+k
 kind:∀l∈s.AE,l.k<t.k
 pcs:∀l∈s.AE,0<=l.n/\l.n<2^(131+k)
 own:∀l∈s.AE,l.ow.length=t.p
 hold:s.hold.length=t.p
 nm:s.nums.length<=k
 gb:∃G B:Nat,0<G/\G<=B/\B<2^(30+170*k)/\(∀l∈s.AE,∀r∈l.ow,Ok G B r)/\∀r∈s.hold,Ok G B r
theorem GB.sz{t:Tr}{k:Nat}{s:Stt}(h:GB t k s):(∀l∈s.AE,∀r∈l.ow,Sz (30+170*k) r)/\∀r∈s.hold,Sz (30+170*k) r:=by
 obtain⟨G,B,g0,gb,b,h1,h2⟩:=h.gb
 exact⟨λl hl r hr=>(h1 l hl r hr).sz g0 (vb gb b) b,λr hr=>(h2 r hr).sz g0 (vb gb b) b⟩
theorem A4{ls:Gc Ld}{l:Nat}(h:l<ls.length):AU ls l∈ls:=by
 unfold AU
 rw[uT,tz h]
 exact wI h
theorem G4{ls:Gc Ld}{l:Nat}(h:l<ls.length):ls[l]?=Fk (AU ls l):=by
 unfold AU
 rw[uT,tz h]
 rfl
theorem Qe{ls:Gc Ld}{l:Nat}{n:Int}{x:Ld}(h:x∈less ls l n)(hl:l<ls.length):x∈ls\/x={AU ls l with n:=(AU ls l).n-n}:=by
 unfold less at h
 rcases xR h with h|h
 .exact .inl h
 .exact .inr h
theorem Ca{ls:Gc Ld}{l:Nat}{n:Int}:(less ls l n).length=ls.length:=by simp[less]
section
variable{S:Sto}{p:Nat}
theorem Tt{P:Int->Prop}:∀{ys:Gc D},(∀y∈ys,∃i:Int,y=.int i/\P i)->∃ns:Gc Int,ys=ns.map D.int/\∀n∈ns,P n
 | [],_=>⟨[],rfl,λn h=>by cases h⟩
 |y::ys,h=>by
  obtain⟨i,rfl,hi⟩:=h y uX
  obtain⟨ns,rfl,hn⟩:=Tt (P:=P) (ys:=ys) λz hz=>h z (uR _ hz)
  exact⟨i::ns,rfl,λn hn'=>by
   rcases uQ.mp hn' with e|e
   .rw[e];exact hi
   .exact hn n e⟩
theorem So{ns:Gc Int}(h:∀n∈ns,0<=n/\n<=8):0<=ns.sum/\ns.sum<=8*ns.length/\∀n∈ns,n<=ns.sum:=by
 induction ns with
 |nil=>simp
 |cons a l ih=>
  have h1:=h a uX
  obtain⟨i1,i2,i3⟩:=ih λn hn=>h n (uR _ hn)
  rw[wq,vR]
  refine⟨by lia,by push_cast;lia,λn hn=>?_⟩
  rcases uQ.mp hn with e|e
  .lia
  .have:=i3 n e;lia
theorem Vw (h : CD p S) {n : Nat} (hn : n ≤ 20) : ∃ (ns : Gc Int) (S' : Sto), C8 [] (tNm 1) Cr (eOp (o2 wIx) [(Fe [(eC (.int 0)), (eC (.int 1)), (AJ AI [(eV 0), (eC (.int 4))]), (AJ AI [(eV 0), (eC (.int 9))])]), (AJ AI [(eV 0), (eC (.int 4))])]) (KH 0 n) [] [Fk (.ref p), uK] S = Fk (ns.map D.int, S') /\ Pn p S S' /\ ns.length = n /\ ∀ i ∈ ns, 0 ≤ i /\ i ≤ 8 := by
  obtain ⟨ys, S', e, hI, l, r⟩ := MC (gs := []) (t := tNm 1) (f := eOp (o2 wIx) [(Fe [(eC (.int 0)), (eC (.int 1)), (AJ AI [(eV 0), (eC (.int 4))]), (AJ AI [(eV 0), (eC (.int 9))])]), (AJ AI [(eV 0), (eC (.int 4))])]) (C := [Fk (.ref p)]) (m := 1) (I := Pn p S) (R := fun _ y => ∃ i : Int, y = .int i /\ 0 ≤ i /\ i ≤ 8)
    (fun _ _ => Aw) (ds := KH 0 n) (acc := []) (os := [uK]) rfl (Pn.refl h) (by rw [D7]; simp; exact AN (by lia)) fun d _ os S0 ho I0 => by
      obtain ⟨o, rfl⟩ := YZ ho
      obtain ⟨r1, S1, e1, a1, b1, p1⟩ := Aj I0.pen (n := 4) (by decide) (by decide)
      obtain ⟨r2, S2, e2, a2, b2, p2⟩ := Aj p1.pen (n := 9) (by decide) (by decide)
      obtain ⟨r3, S3, e3, a3, b3, p3⟩ := Aj p2.pen (n := 4) (by decide) (by decide)
      obtain ⟨x, ex, hx⟩ := pick (xs := [.int 0, .int 1, .int r1, .int r2]) (r := r3) a3 (by simpa using b3)
      refine ⟨[Fk d], x, S3, rfl, by simp, by simp [e1, e2, e3, ex], ((I0.trans p1).trans p2).trans p3, ?_⟩
      simp only [uQ, ug, vd] at hx
      rcases hx with rfl | rfl | rfl | rfl
      · exact ⟨0, rfl, by decide, by decide⟩
      · exact ⟨1, rfl, by decide, by decide⟩
      · exact ⟨r1, rfl, by lia, by lia⟩
      · exact ⟨r2, rfl, by lia, by lia⟩
  obtain ⟨ns, rfl, hns⟩ := Tt (Kq r)
  exact ⟨ns, S', by simpa using e, hI, by simpa [D7] using l, hns⟩
noncomputable def K8(ns:Gc Int):Gc Rat:=ns.map λ(n:Int)=>(n:Rat) / (ns.sum:Rat)
theorem O5{ns:Gc Int}(h:∀n∈ns,0<=n/\n<=8)(hs:0<ns.sum):∀r∈K8 ns,Ok ns.sum.toNat ns.sum.toNat r:=by
 intro r hr
 obtain⟨n,hn,rfl⟩:=ux.mp hr
 have h1:=h n hn
 have h2:=(So h).2.2 n hn
 refine⟨n.toNat,?_,by lia⟩
 have e1:((ns.sum.toNat:Nat):Rat)=(ns.sum:Rat):=by
  have:((ns.sum.toNat:Nat):Int)=ns.sum:=by lia
  exact congrArg (λz:Int=>(z:Rat)) this
 have e2:((n.toNat:Nat):Rat)=(n:Rat):=by
  have:((n.toNat:Nat):Int)=n:=by lia
  exact congrArg (λz:Int=>(z:Rat)) this
 rw[e1,e2]
 have:(ns.sum:Rat)≠0:=by
  intro z
  have:=xn.mp z
  lia
 grind
theorem YT{s:Rat}:∀{ns:Gc Int},(ns.map λ(n:Int)=>(n:Rat) / s).sum=(ns.sum:Rat) / s
 | []=>by simp;grind
 |n::ns=>by
  rw[uv,wq,wq,YT (ns:=ns)]
  push_cast
  grind
theorem Ri{ns:Gc Int}(hs:0<ns.sum):(K8 ns).sum=1:=by
 unfold K8
 rw[YT]
 have:(ns.sum:Rat)≠0:=by
  intro z
  have:=xn.mp z
  lia
 grind
theorem Up{ns:Gc Int}{q:Nat}(hq:S[q]?=Fk (.lst (ns.map D.int)))(hl:ns.length<=20)(hn:∀n∈ns,0<=n/\n<=8)(hs:0<ns.sum):C8 [(q,ns.map D.int)] (tNm 1) Cr (AJ CP [eV 1,eOp (o1 bh) [eV 0]]) (ns.map D.int) [] [Fk (.ref q),uK] S=Fk ((K8 ns).map aD,S):=by
 obtain⟨s1,s2,s3⟩:=So hn
 have:=comp_map (gs:=[(q,ns.map D.int)]) (t:=tNm 1) (f:=AJ CP [eV 1,eOp (o1 bh) [eV 0]]) (C:=[Fk (.ref q)]) (m:=1) (g:=λd=>match d with| .int n=>aD ((n:Rat) / (ns.sum:Rat))|d=>d) (S:=S) (λg hg=>by rw[uy.mp hg];exact AY hq) (ds:=ns.map D.int) (acc:=[]) (os:=[uK]) rfl (by simp;exact AN (by lia)) λd hd os ho=>by
  obtain⟨o,rfl⟩:=YZ ho
  obtain⟨i,hi,rfl⟩:=ux.mp hd
  have m:=cD (S:=S) (t:=i) hs (GL (by lia) (by lia))
  exact⟨[Fk (.int i)],rfl,by simp,by simp[BE hq,Ic,m]⟩
 have e2:(ns.map D.int).map (λd=>match d with| .int n=>aD ((n:Rat) / (ns.sum:Rat))|d=>d)=(K8 ns).map aD:=by
  unfold K8
  rw[vh,vh]
  rfl
 rw[e2]at this
 simpa using this
theorem UW(h:CD p S){n:Nat}(h1:1<=n)(h2:n<=4):∃rs S',Ef [.ref p,.int n] S=Fk (shD rs,S')/\Pn p S S'/\(rs.length=n/\rs.sum=1)/\∃G:Nat,0<G/\G<=32/\∀r∈rs,Ok G G r:=by
 obtain⟨ns,S1,e1,p1,l1,i1⟩:=Vw (n:=n) h (by lia)
 obtain⟨s1,s2,s3⟩:=So i1
 have hq:(S1++[Cl.lst (ns.map D.int)])[S1.length]?=Fk (.lst (ns.map D.int)):=uj
 have pp:CD p (S1++[Cl.lst (ns.map D.int)]):=p1.pen.app _
 have hlt:=p1.pen.lt
 have r1:Jq (n:Int)=true:=DZ (by lia) (by lia)
 by_cases hz:ns.sum=0
 .obtain⟨r,S2,e2,a2,b2,p2⟩:=Aj pp (n:=n) (by lia) (by lia)
  have hq2:S2[S1.length]?=Fk (.lst (ns.map D.int)):=p2.get hq (by lia)
  have hn':∀x∈ns.set r.toNat 1,0<=x/\x<=8:=λx hx=>by
   rcases xR hx with hx|rfl
   .exact i1 x hx
   .exact⟨by decide,by decide⟩
  have hs':0<(ns.set r.toNat 1).sum:=by
   have:=(So hn').2.2 1 (List.mem_set (by lia) 1)
   lia
  have hq3:(S2.set S1.length (.lst ((ns.set r.toNat 1).map D.int)))[S1.length]?=Fk (.lst ((ns.set r.toNat 1).map D.int)):=ua (Ae hq2)
  have e3:=Up hq3 (by simp;lia) hn' hs'
  have ix:ixN ns.length r=Fk r.toNat:=VQ a2 (by lia)
  refine⟨K8 (ns.set r.toNat 1),S2.set S1.length (.lst ((ns.set r.toNat 1).map D.int)),?_,⟨?_,?_⟩,⟨by simp[K8,l1],Ri hs'⟩,_,(show 0<(ns.set r.toNat 1).sum.toNat by lia),?_,O5 hn' hs'⟩
  .have sq3:=HW hq3
   rw[yK]at e3 sq3 hq3
   simp[Ef,LU,r1,e1,BE hq,Ic,hz,e2,AY hq2,ix,sq3,e3,shD]
  .have g:Cj [p] S (S1++[Cl.lst (ns.map D.int)]):=p1.same.trans .app
   refine⟨uW (g.trans p2.same).len (by simp),λm hm hmp=>?_⟩
   rw[uS (by have:=p1.same.len;lia)]
   exact(g.trans p2.same).keep m hm hmp
  .obtain⟨ds,ed,hd⟩:=p2.pen
   exact⟨ds,by rw[uS (by lia)];exact ed,hd⟩
  .have:=(So hn').2.1
   rw[xE]at this
   lia
 .have hz':(ns.sum==0)=false:=by simpa using hz
  have e3:=Up hq (by lia) i1 (by lia)
  refine⟨K8 ns,S1++[Cl.lst (ns.map D.int)],?_,⟨p1.same.trans .app,pp⟩,⟨by simp[K8,l1],Ri (by lia)⟩,_,(show 0<ns.sum.toNat by lia),by lia,O5 i1 (by lia)⟩
  have sq3:=HW hq
  simp[Ef,LU,r1,e1,BE hq,Ic,hz',sq3,e3,shD]
end
section
variable{S:Sto}{p:Nat}
theorem eP:(2:Nat)<Hz:=GL (n:=2) (by decide) (by decide)
theorem Py(h:CD p S):∃n S',BF [.ref p] S=Fk (.int n,S')/\Pn p S S'/\1<=n/\n<2^130:=by
 obtain⟨r1,S1,e1,a1,b1,p1⟩:=Aj h (n:=99) (by decide) (by decide)
 obtain⟨r2,S2,e2,a2,b2,p2⟩:=Aj p1.pen (n:=4) (by decide) (by decide)
 obtain⟨r3,S3,e3,a3,b3,p3⟩:=Aj p2.pen (n:=40) (by decide) (by decide)
 obtain⟨r4,S4,e4,a4,b4,p4⟩:=Aj p3.pen (n:=999) (by decide) (by decide)
 obtain⟨r5,S5,e5,a5,b5,p5⟩:=Aj p4.pen (n:=7) (by decide) (by decide)
 have pp:=(((p1.trans p2).trans p3).trans p4).trans p5
 have d2:=eP
 have go:∀g:Int,1<=g->g<2^130->∃n:Int,atI [D.int (1+r2),.int (1+r3),.int (1+r4),.int g] (r5 / 2)=Fk (.int n)/\1<=n/\n<2^130:=λg g1 g2=>by
  obtain⟨x,ex,hx⟩:=pick (xs:=[D.int (1+r2),.int (1+r3),.int (1+r4),.int g]) (r:=r5 / 2) (by lia) (by simp;lia)
  simp only[uQ,ug,vd]at hx
  rcases hx with rfl|rfl|rfl|rfl
  .exact⟨_,ex,by lia,by lia⟩
  .exact⟨_,ex,by lia,by lia⟩
  .exact⟨_,ex,by lia,by lia⟩
  .exact⟨_,ex,g1,g2⟩
 first
  |(obtain⟨n,en,n1,n2⟩:=go (10^39+r1) (by lia) (by lia)
    exact⟨n,S5,by simp[BF,KI,e1,e2,e3,e4,e5,d2]at en ⊢; simp[en],pp,n1,n2⟩)
  |(obtain⟨n,en,n1,n2⟩:=go (10^30+r1) (by lia) (by lia)
    exact⟨n,S5,by simp[BF,KI,e1,e2,e3,e4,e5,d2]at en ⊢; simp[en],pp,n1,n2⟩)
theorem Lo(h:CD p S):∃n S',BF [.ref p] S=Fk (.int n,S')/\Pn p S S'/\1<=n/\n<2^131:=by
 obtain⟨n,S',a,b,c,d⟩:=Py h
 exact⟨n,S',a,b,c,Int.lt_trans d (by decide)⟩
theorem HN{r:Int}(h:0<=r):∃m:Nat,r=m:=⟨r.toNat,by lia⟩
theorem bq(h:CD p S):∃t S',JT [.ref p] S=Fk (Tr.d t,S')/\Pn p S S'/\Jy t/\(t.ho.length=t.p/\t.ho.sum=1)/\∃G:Nat,0<G/\G<=32/\∀r∈t.ho,Ok G G r:=by
 obtain⟨r1,S1,e1,a1,b1,p1⟩:=Aj h (n:=4) (by decide) (by decide)
 obtain⟨r2,S2,e2,a2,b2,p2⟩:=Aj p1.pen (n:=5) (by decide) (by decide)
 obtain⟨r3,S3,e3,a3,b3,p3⟩:=Aj p2.pen (n:=3) (by decide) (by decide)
 obtain⟨r4,S4,e4,a4,b4,p4⟩:=Aj p3.pen (n:=20) (by decide) (by decide)
 obtain⟨r5,S5,e5,a5,b5,p5⟩:=Aj p4.pen (n:=2) (by decide) (by decide)
 obtain⟨m1,rfl⟩:=HN a1
 obtain⟨m2,rfl⟩:=HN a2
 obtain⟨b,eb,hb1,hb2⟩:∃b:Nat,atI [D.int (1+r3),.int (1+r4)] r5=Fk (.int b)/\1<=b/\b<=20:=by
  obtain⟨x,ex,hx⟩:=pick (xs:=[D.int (1+r3),.int (1+r4)]) (r:=r5) a5 (by simpa using b5)
  obtain⟨m3,rfl⟩:=HN a3
  obtain⟨m4,rfl⟩:=HN a4
  simp only[uQ,ug,vd]at hx
  rcases hx with rfl|rfl
  .exact⟨1+m3,by rw[ex];simp,by lia,by lia⟩
  .exact⟨1+m4,by rw[ex];simp,by lia,by lia⟩
 obtain⟨rs,S6,e6,p6,l6,G,g0,g1,g2⟩:=UW p5.pen (n:=1+m1) (by lia) (by lia)
 obtain⟨r7,S7,e7,a7,b7,p7⟩:=Aj p6.pen (n:=10) (by decide) (by decide)
 obtain⟨r8,S8,e8,a8,b8,p8⟩:=Aj p7.pen (n:=10) (by decide) (by decide)
 rw[show((1+m1:Nat):Int)=1+(m1:Int) by lia]at e6
 refine⟨⟨1+m1,1+m2,b,rs,r7,r8⟩,S8,?_,((((((p1.trans p2).trans p3).trans p4).trans p5).trans p6).trans p7).trans p8,⟨by simp,by simp;lia,by simp,by simp;lia,hb1,hb2⟩,l6,G,g0,g1,g2⟩
 simp[JT,OK,e1,e2,e3,e4,e5,eb,e6,e7,e8,Tr.d]
theorem ZL(h:CD p S):∃x S',HY [.ref p] S=Fk (aD x,S')/\Pn p S S'/\0<x.num/\x.num<=x.den/\x.den<=12:=by
 obtain⟨r1,S1,e1,a1,b1,p1⟩:=Aj h (n:=12) (by decide) (by decide)
 obtain⟨r2,S2,e2,a2,b2,p2⟩:=Aj p1.pen (n:=1+r1) (by lia) (by lia)
 have m:=cD (S:=S2) (t:=1+r2) (b:=1+r1) (by lia) (GL (by lia) (by lia))
 obtain⟨m1,rfl⟩:=HN a1
 obtain⟨m2,rfl⟩:=HN a2
 have rp:=N9 (1+(m2:Int)) (1+m1) (by lia)
 have eb:(((1+(m1:Int):Int)):Rat)=(((1+m1:Nat)):Rat):=by
  have:(1+(m1:Int))=((1+m1:Nat):Int):=by lia
  rw[this];rfl
 have en:(1+(m2:Int)).natAbs=1+m2:=by lia
 have gp:0<zM (1+m2) (1+m1):=Nat.gcd_pos_of_pos_left _ (by lia)
 obtain⟨q,hq⟩:=Nat.gcd_dvd_left (1+m2) (1+m1)
 obtain⟨q',hq'⟩:=Nat.gcd_dvd_right (1+m2) (1+m1)
 refine⟨((1+(m2:Int):Int):Rat) / ((1+(m1:Int):Int):Rat),S2,?_,p1.trans p2,?_,?_,?_⟩
 .simp[HY,PC,e1,e2,m]
 .rw[eb,rp.1,en]
  generalize zM (1+m2) (1+m1)=g at*
  have:(1+(m2:Int))=((g*q:Nat):Int):=by lia
  rw[this,AAi,z8 _ (by lia)]
  have:q≠0:=λz=>by subst z;lia
  lia
 .rw[eb,rp.1,rp.2,en]
  generalize zM (1+m2) (1+m1)=g at*
  have t1:(1+(m2:Int))=((g*q:Nat):Int):=by lia
  rw[t1,AAi,z8 _ (by lia),hq',Nat.mul_div_cancel_left _ gp]
  have:q<=q':=by
   have:g*q<=g*q':=by lia
   exact Nat.le_of_mul_le_mul_left this gp
  lia
 .rw[eb,rp.2]
  exact uW (Nat.div_le_self _ _) (by lia)
theorem Rp (h : CD p S) {n : Nat} (hn : n ≤ 6) : ∃ (ws : Gc Int) (S' : Sto), Cb [.ref p, .int n] S = Fk (.tup (ws.map .int), S') /\ Pn p S S' /\ ws.length = n /\ ∀ w ∈ ws, 1 ≤ w /\ w ≤ 99 := by
  obtain ⟨ys, S', e, hI, l, r⟩ := MC (gs := []) (t := tNm 1) (f := (eOp (o2 CK) [(eC (.int 1)), (eOp (o2 wIx) [(Fe [(AJ AI [(eV 0), (eC (.int 3))]), (AJ AI [(eV 0), (eC (.int 99))])]), (AJ AI [(eV 0), (eC (.int 2))])])])) (C := [Fk (.ref p)]) (m := 1) (I := Pn p S) (R := fun _ y => ∃ i : Int, y = .int i /\ 1 ≤ i /\ i ≤ 99)
    (fun _ _ => Aw) (ds := KH 0 n) (acc := []) (os := [uK]) rfl (Pn.refl h) (by rw [D7]; simp; exact AN (by lia)) fun d _ os S0 ho I0 => by
      obtain ⟨o, rfl⟩ := YZ ho
      obtain ⟨r1, S1, e1, a1, b1, p1⟩ := Aj I0.pen (n := 3) (by decide) (by decide)
      obtain ⟨r2, S2, e2, a2, b2, p2⟩ := Aj p1.pen (n := 99) (by decide) (by decide)
      obtain ⟨r3, S3, e3, a3, b3, p3⟩ := Aj p2.pen (n := 2) (by decide) (by decide)
      obtain ⟨x, ex, hx⟩ := pick (xs := [.int r1, .int r2]) (r := r3) a3 (by simpa using b3)
      simp only [uQ, ug, vd] at hx
      rcases hx with rfl | rfl
      · exact ⟨[Fk d], .int (1 + r1), S3, rfl, by simp, by simp [e1, e2, e3, ex], ((I0.trans p1).trans p2).trans p3, _, rfl, by lia, by lia⟩
      · exact ⟨[Fk d], .int (1 + r2), S3, rfl, by simp, by simp [e1, e2, e3, ex], ((I0.trans p1).trans p2).trans p3, _, rfl, by lia, by lia⟩
  obtain ⟨ns, rfl, hns⟩ := Tt (Kq r)
  have r1 : Jq (n : Int) = true := DZ (by lia) (by lia)
  have e' : C8 [] (tNm 1) Cr (eOp (o2 CK) [(eC (.int 1)), (eOp (o2 wIx) [(Fe [(AJ AI [(eV 0), (eC (.int 3))]), (AJ AI [(eV 0), (eC (.int 99))])]), (AJ AI [(eV 0), (eC (.int 2))])])]) (KH 0 n) [] [Fk (.ref p), uK] S = Fk (ns.map D.int, S') := by simpa using e
  exact ⟨ns, S', by simp [Cb, Mu, r1, e'], hI, by simpa [D7] using l, hns⟩
def JY(t:Tr)(ls:Gc Ld):Prop:=(∀l∈ls,l.k<t.k/\1<=l.n/\l.n<2^131/\l.ow.length=t.p/\l.ow.sum=1)/\∃G:Nat,0<G/\G<=32^ls.length/\∀l∈ls,∀r∈l.ow,Ok G G r
theorem JY.snoc{t:Tr}{ls:Gc Ld}{l:Ld}(h:JY t ls)(h1:l.k<t.k/\1<=l.n/\l.n<2^131/\l.ow.length=t.p/\l.ow.sum=1){g:Nat}(g0:0<g)(g1:g<=32)(g2:∀r∈l.ow,Ok g g r):JY t (ls++[l]):=by
 obtain⟨ha,G,G0,G1,G2⟩:=h
 refine⟨λx hx=>?_,G*g,yH G0 g0,?_,λx hx r hr=>?_⟩
 .rcases uk.mp hx with hx|hx
  .exact ha x hx
  .rw[uy.mp hx];exact h1
 .rw[vm,AAq,AAc]
  exact zl G1 g1
 .rcases uk.mp hx with hx|hx
  .exact(G2 x hx r hr).up (uV _)
  .rw[uy.mp hx]at hr
   have:=(g2 r hr).up (t:=G) (B':=G*g) (by rw[xW];exact uV _)
   rwa [xW g G]at this
end
section
variable{S:Sto}{p:Nat}
theorem JY.nil{t:Tr}:JY t []:=⟨λl hl=>(nomatch hl),1,by decide,by simp,λl hl=>(nomatch hl)⟩
theorem bY(h:CD p S){t:Tr}(ht:Jy t):∃(ls:Gc Ld) (S':Sto),JS [.ref p,t.d] S=Fk (.tup (ls.map Ld.d),S')/\Pn p S S'/\JY t ls/\ls.length<=4:=by
 obtain⟨t1,t2,t3,t4,t5,t6⟩:=ht
 have hlt:=h.lt
 have hq:(S++[Cl.lst []])[S.length]?=Fk (.lst []):=uj
 obtain⟨r1,S1,e1,a1,b1,p1⟩:=Aj (h.app [Cl.lst []]) (n:=5) (by decide) (by decide)
 obtain⟨r2,S2,e2,a2,b2,p2⟩:=Aj p1.pen (n:=3) (by decide) (by decide)
 obtain⟨n,en,hn⟩:∃n:Nat,atI [D.int 0,.int 1,.int r1] r2=Fk (.int n)/\n<=4:=by
  obtain⟨x,ex,hx⟩:=pick (xs:=[D.int 0,.int 1,.int r1]) (r:=r2) a2 (by simpa using b2)
  simp only[uQ,ug,vd]at hx
  rcases hx with rfl|rfl|rfl
  .exact⟨0,ex,by decide⟩
  .exact⟨1,ex,by decide⟩
  .exact⟨r1.toNat,by rw[ex,vX a1],by lia⟩
 have q2:S2[S.length]?=Fk (.lst []):=(p1.trans p2).get hq (by lia)
 have rn:Jq (n:Int)=true:=DZ (by lia) (by lia)
 obtain⟨E',S',ef,ls,o,rfl,f1,f2,f3,f4,f5⟩:=EJ (gs:=[]) (t:=tNm 3) (b:=Bl (Lc Le (eV 2) [Cm [AJ AI [eV 0,eOp (o2 wIx) [eV 1,eC (.int 1)]],AJ BF [eV 0],AJ Ef [eV 0,eOp (o2 wIx) [eV 1,eC (.int 0)]]]]))
  (I:=λds E S'=>∃(ls:Gc Ld) (o:uL D),E=[Fk (.ref p),Fk t.d,Fk (.ref S.length),o]/\S'[S.length]?=Fk (.lst (ls.map Ld.d))/\CD p S'/\Cj [p] S S'/\JY t ls/\ls.length+ds.length<=4)
  (λ_ _ _ _=>Aw) (ds:=KH 0 n) (E:=[Fk (.ref p),Fk t.d,Fk (.ref S.length),uK]) (S:=S2)
  ⟨[],uK,rfl,q2,p2.pen,Cj.app.trans (p1.trans p2).same,JY.nil,by simp[D7];exact hn⟩ (by
    rintro d ds E S0 ⟨ls,o,rfl,i1,i2,i3,i4,i5⟩
    obtain⟨x1,T1,g1,c1,d1,k1⟩:=Aj i2 (n:=t.k) (by lia) (by lia)
    obtain⟨x2,T2,g2,k2,c2,d2⟩:=Lo k1.pen
    obtain⟨rs,T3,g3,k3,l3,G,G0,G1,G2⟩:=UW k2.pen (n:=t.p) t1 t2
    obtain⟨m1,rfl⟩:=HN c1
    have kk:=(k1.trans k2).trans k3
    have j1:T3[S.length]?=Fk (.lst (ls.map Ld.d)):=kk.get i1 (by lia)
    have hz:ls.length<sizeLine:=uO (show ls.length<5 by lia) (AN (by decide))
    refine⟨[Fk (.ref p),Fk t.d,Fk (.ref S.length),Fk d],[Fk (.ref p),Fk t.d,Fk (.ref S.length),Fk d],T3.set S.length (.lst ((ls++[Ld.mk m1 x2 rs]).map Ld.d)),by simp,?_,ls++[Ld.mk m1 x2 rs],Fk d,rfl,ua (Ae j1),?_,?_,i4.snoc (l:=Ld.mk m1 x2 rs) ⟨show m1<t.k by lia,c2,d2,l3⟩ G0 G1 G2,by simp at i5 ⊢; lia⟩
    .have e3:atI [D.int t.p,.int t.k,.int t.b,shD t.ho,.int t.h,.int t.l] 1=Fk (.int t.k):=by simp
     simp[Tr.d,g1,g2,g3,AY i1,AY j1,hz,Ld.d]
    .obtain⟨ds',ed,hd⟩:=kk.pen
     exact⟨ds',by rw[uS (by lia)];exact ed,hd⟩
    .refine⟨uW (i3.trans kk.same).len (by simp),λm hm hmp=>?_⟩
     rw[uS (by lia)]
     exact(i3.trans kk.same).keep m hm hmp)
 refine⟨ls,S',?_,⟨f3,f2⟩,f4,by simpa using f5⟩
 simp[JS,Ol,e1,e2,en,rn,ef,BE f1]
noncomputable def Cp(x:Ld):Cl:=.lst [.int x.k,.int x.n,shD x.ow]
structure SAt(S:Sto)(s l m:Nat)(as:Gc Nat)(st:Stt):Prop where
 root:S[s]?=Fk (.lst [.ref l,shD st.hold,.ref m])
 lo:S[l]?=Fk (.lst (as.map .ref))
 nu:S[m]?=Fk (.lst (st.nums.map .int))
 ld:∀(i a:Nat) (x:Ld),as[i]?=Fk a->st.AE[i]?=Fk x->S[a]?=Fk (Cp x)
 len:as.length=st.AE.length
 nd:(s::l::m::as).Nodup
theorem dH:∀{ls:Gc Ld} {acc:Gc D} {o:uL D} {S:Sto},acc.length+ls.length<=100->C8 [] (tNm 0) Cr (g9 (o1 Lm) [eV 0]) (ls.map Ld.d) acc [o] S=Fk (acc++(List.range' S.length ls.length).map D.ref,S++ls.map Cp)
 | [],acc,o,S,h=>by rw[wG,FL Aw];simp
 |x::ls,acc,o,S,h=>by
  rw[uv,JH (E1:=[Fk x.d]) Aw (uO (show acc.length<101 by simp at h;lia) (AN (by decide))) (by simp) Hr]
  have:g9 (o1 Lm) [eV 0] [Fk x.d] S=Fk (.ref S.length,S++[Cp x]):=by simp[Ld.d,Cp]
  rw[this,Bx,dH (by simp at h ⊢; lia)]
  simp[List.range'_succ]
theorem getElem?_at{α:Type}{xs:Gc α}{x:α}{n:Nat}(h:n=xs.length):(xs++[x])[n]?=Fk x:=by subst h;exact uj
theorem RI{t:Tr}{ls:Gc Ld}{x:D}(hl:ls.length<=20):∃s l m as S',Dq [.tup [t.d,.tup (ls.map Ld.d),x]] S=Fk (.ref s,S')/\SAt S' s l m as ⟨ls,t.ho,[]⟩/\Cj [] S S'/\(∀n∈s::l::m::as,S.length<=n):=by
 have e:=dH (ls:=ls) (acc:=[]) (o:=uK) (S:=S) (by simp;lia)
 refine⟨S.length+ls.length+2,S.length+ls.length,S.length+ls.length+1,List.range' S.length ls.length,S++ls.map Cp++[.lst ((List.range' S.length ls.length).map D.ref)]++[.lst []]++[.lst [.ref (S.length+ls.length),shD t.ho,.ref (S.length+ls.length+1)]],?_,⟨?_,?_,?_,?_,?_,?_⟩,?_,?_⟩
 .simp[Dq,PB,Tr.d,e,shD]
  lia
 .exact getElem?_at (by simp;lia)
 .rw[uP (by simp),uP (by simp)]
  exact getElem?_at (by simp)
 .rw[uP (by simp;lia)]
  exact getElem?_at (by simp;lia)
 .intro i a y ha hy
  have hi:i<ls.length:=(uU.mp hy).1
  have:a=S.length+i:=by
   rw[List.getElem?_range' hi]at ha
   simp at ha;lia
  subst this
  rw[uP (by simp;lia),uP (by simp;lia),uP (by simp;lia),vQ (by lia)]
  have hy':ls[i]?=Fk y:=hy
  simp[hy']
 .simp
 .rw[xD,xD,xD]
  refine⟨?_,?_,?_,List.nodup_range'⟩
  .simp only[uQ,yr];lia
  .simp only[uQ,yr];lia
  .simp only[yr];lia
 .rw[yj,yj,yj]
  exact .app
 .intro n hn
  simp only[uQ,yr]at hn
  lia
end
section
variable{S:Sto}{p:Nat}
@[simp] theorem sF{rs:List Rat}{S:Sto}:sqD S (shD rs)=some (rs.map aD,[]):=nr rfl
@[simp] theorem sI{rs:List Rat}{S:Sto}:dr S (shD rs)=.val (shD rs):=nr rfl
@[simp] theorem qK{rs:List Rat}:asS (.val (shD rs))=some (rs.map aD):=nr rfl
@[simp] theorem pE{S:Sto}{r:List D}:dr (S++[.lst r]) (.ref S.length)=.own r:=BE List.getElem?_concat_length
@[simp] theorem iA{S:Sto}{r:List D}:Gb (S++[.lst r]) S.length=some r:=AY List.getElem?_concat_length
theorem set_same{S:Sto}{q:Nat}{c:Cl}(h:S[q]?=Fk c):S.set q c=S:=by
 apply zx
 intro i
 by_cases e:q=i
 .subst e;rw[ua (Ae h),h]
 .rw[uS e]
theorem Tw{gs:Gd}{t:Tf}{b:Ex}{C:En}{m q:Nat}{h:D->D}{I:Sto->Prop}(hg:∀S,I S->gOk gs S)(hI:∀S c,I S->I (S.set q c)):∀{ds acc:Gc D} {os:En} {S:Sto},os.length=m->I S->S[q]?=Fk (.lst acc)->acc.length+ds.length<=1000->(∀d∈ds,∀os S acc,os.length=m->I S->S[q]?=Fk (.lst acc)->acc.length<sizeLine->∃us us',t d (C++os) S=Fk (C++us)/\b (C++us) S=Fk (.nx,C++us',S.set q (.lst (acc++[h d])))/\us'.length=m)->∃os',os'.length=m/\Nc gs t b ds (C++os) S=Fk (.nx,C++os',S.set q (.lst (acc++ds.map h)))
 | [],acc,os,S,ho,hS,hq,hz,H=>⟨os,ho,by
     rw[Qs (hg S hS)]
     have:S.set q (.lst (acc++List.map h []))=S:=by
      rw[wG,wU]
      exact set_same hq
     rw[this]⟩
 |d::ds,acc,os,S,ho,hS,hq,hz,H=>by
  have hl:=Ae hq
  obtain⟨us,us',e1,e2,hu⟩:=H d uX os S acc ho hS hq (uO (show acc.length<1001 by simp at hz;lia) (uW (by decide) (show 1001<=sizeLine by decide)))
  obtain⟨os',ho',e3⟩:=Tw hg hI (ds:=ds) (acc:=acc++[h d]) (os:=us') (S:=S.set q (.lst (acc++[h d]))) hu (hI S _ hS) (ua hl) (by simp at hz ⊢; lia) λd' hd=>H d' (uR _ hd)
  refine⟨os',ho',?_⟩
  rw[MZ (hg S hS),e1,Bx,e2,Bx,OO,e3,List.set_set]
  simp
noncomputable def un:D->Rat
 | .tup [.int n,.int d]=>(n:Rat) / (d:Rat)
 |_=>0
theorem gM(r:Rat):un (aD r)=r:=FZ r
noncomputable def UG(f:Rat->Rat->Rat):D->D
 | .tup [a,b]=>aD (f (un a) (un b))
 |d=>d
theorem Qb{f:Rat->Rat->Rat}:∀{ss os:Gc Rat},(Nb (ss.map aD) (os.map aD)).map (UG f)=(zO f ss os).map aD
 | [],os=>by simp[Nb]
 |s::ss,[]=>by simp[Nb]
 |s::ss,o::os=>by
  have ih:=Qb (f:=f) (ss:=ss) (os:=os)
  unfold Nb at ih⊢
  simp only[uv,ABc,List.zipWith_cons_cons]at ih⊢
  rw[ih]
  simp[UG,gM]
theorem Wg{ss os:Gc Rat}{d:D}(h:d∈Nb (ss.map aD) (os.map aD)):∃s∈ss,∃o∈os,d=.tup [aD s,aD o]:=by
 unfold Nb at h
 obtain⟨⟨a,b⟩,h1,rfl⟩:=ux.mp h
 have h2:=wF h1
 obtain⟨s,hs,rfl⟩:=ux.mp h2.1
 obtain⟨o,ho,rfl⟩:=ux.mp h2.2
 exact⟨s,hs,o,ho,rfl⟩
theorem jw:aD 1=.tup [.int 1,.int 1]:=rfl
theorem TL(n:Int):aD (n:Rat)=.tup [.int n,.int 1]:=by
 unfold aD
 simp
theorem U6{n:Int}{k:Nat}(h:n.natAbs<2^k)(hk:1<=k):Sz k (n:Rat):=by
 unfold Sz
 have:1<2^k:=zm (by lia)
 simp[h,this]
theorem dG{k:Nat}(hk:1<=k):Sz k (1:Rat):=by
 have:1<2^k:=zm (by lia)
 exact⟨by simpa using this,by simpa using this⟩
theorem Um{x:Rat}{ss os:Gc Rat}{j i:Nat}(hs:∀r∈ss,Sz j r)(ho:∀r∈os,Sz j r)(hx:Sz i x)(hj:2*j+2*i<=7900)(hl:ss.length<=10):∃S',Fi [shD ss,aD x,shD os] S=Fk (shD (Jp x os ss),S')/\Cj [] S S':=by
 have hq:(S++[Cl.lst []])[S.length]?=Fk (.lst []):=uj
 obtain⟨os',ho',e⟩:=Tw (gs:=[]) (t:=tTp [tNm 4,tNm 5]) (b:=Bl (Lc Le (eV 3) [AJ CO [AJ Ax [eV 4,AJ Eu [Cm [eC (.int 1),eC (.int 1)],eV 1]],AJ Ax [eV 5,eV 1]]])) (C:=[Fk (shD ss),Fk (aD x),Fk (shD os),Fk (.ref S.length)]) (m:=2) (q:=S.length) (h:=UG λs o=>s*(1-x)+o*x) (I:=λ_=>AAm) (λ_ _=>Aw) (λ_ _ _=>trivial)
  (ds:=Nb (ss.map aD) (os.map aD)) (acc:=[]) (os:=[uK,uK]) (S:=S++[Cl.lst []]) rfl trivial hq (by simp[Nk];lia) (by
    intro d hd os0 S0 acc h0 _ hq0 hz
    obtain⟨o1,o2,rfl⟩:=iE h0
    obtain⟨s,hs',o,ho',rfl⟩:=Wg hd
    have l1:=cX (S:=S0) (dG (k:=1) (by decide)) hx (by lia)
    have s1:=(i0 (dG (k:=1) (by decide)) hx)
    have l2:=Kf (S:=S0) (hs s hs') s1 (by lia)
    have l3:=Kf (S:=S0) (ho o ho') hx (by lia)
    have l4:=RU (S:=S0) (P5 (hs s hs') s1) (P5 (ho o ho') hx) (by lia)
    rw[jw]at l1
    refine⟨[Fk (aD s),Fk (aD o)],[Fk (aD s),Fk (aD o)],by simp,?_,rfl⟩
    simp[l1,l2,l3,l4,AY hq0,hz,UG,gM])
 rw[Qb]at e
 refine⟨(S++[Cl.lst []]).set S.length (.lst ((Jp x os ss).map aD)),?_,?_⟩
 .have e':Nc [] (tTp [tNm 4,tNm 5]) (Bl (Lc Le (eV 3) [AJ CO [AJ Ax [eV 4,AJ Eu [Cm [eC (.int 1),eC (.int 1)],eV 1]],AJ Ax [eV 5,eV 1]]])) (Nb (ss.map aD) (os.map aD)) [Fk (shD ss),Fk (aD x),Fk (shD os),Fk (.ref S.length),uK,uK] (S++[Cl.lst []])=Fk (.nx,[Fk (shD ss),Fk (aD x),Fk (shD os),Fk (.ref S.length)]++os',(S++[Cl.lst []]).set S.length (.lst ((Jp x os ss).map aD))):=by simpa[Jp]using e
  simp[Fi,O2,e']
  rfl
 .refine⟨by simp,λn hn _=>?_⟩
  rw[uS (by lia),uP hn]
end
section
variable{S:Sto}{p:Nat}
theorem getD_get{α:Type}{xs:Gc α}{n:Nat}{d:α}(h:n<xs.length):xs[n]?=Fk (xs.getD n d):=by
 rw[uT,tz h]
 rfl
theorem getD_mem{α:Type}{xs:Gc α}{n:Nat}{d:α}(h:n<xs.length):xs.getD n d∈xs:=uh (getD_get h)
theorem WY{ss:Gc Rat}{n:Nat}(h:n<ss.length):atI (ss.map aD) (n:Int)=Fk (aD (ss.getD n 0)):=CF (by rw[uY,getD_get h];rfl)
theorem da{ss:Gc Rat}{n:Nat}(h:n<ss.length):ixN (ss.map aD).length (n:Int)=Fk n:=RP (by simpa using h)
theorem Ya{p q:Nat}{x:Rat}{ss:Gc Rat}{j i:Nat}(hs:∀r∈ss,Sz j r)(hx:Sz i x)(hj:2*j+i<=7900)(hp:p<ss.length)(hq:q<ss.length)(hpq:p≠q):∃S',HC [shD ss,(Ab.Me p q x).d] S=Fk (shD (IT p q x ss),S')/\Cj [] S S':=by
 have sp:=hs _ (getD_mem (d:=0) hp)
 have sq:=hs _ (getD_mem (d:=0) hq)
 have l1:∀S,Ax [aD (ss.getD p 0),aD x] S=Fk (aD (ss.getD p 0*x),S):=λS=>Kf sp hx (by lia)
 have s1:=P5 sp hx
 have l2:∀S,Eu [aD (ss.getD p 0),aD (ss.getD p 0*x)] S=Fk (aD (ss.getD p 0-ss.getD p 0*x),S):=λS=>cX sp s1 (by lia)
 have l3:∀S,CO [aD (ss.getD q 0),aD (ss.getD p 0*x)] S=Fk (aD (ss.getD q 0+ss.getD p 0*x),S):=λS=>RU sq s1 (by lia)
 have a1:=WY hp
 have i1:=da hp
 have i2:ixN (((ss.map aD).set p (aD (ss.getD p 0-ss.getD p 0*x))).length) (q:Int)=Fk q:=RP (by simpa using hq)
 have a2:atI ((ss.map aD).set p (aD (ss.getD p 0-ss.getD p 0*x))) (q:Int)=Fk (aD (ss.getD q 0)):=CF (by
  rw[uS hpq,uY,getD_get hq];rfl)
 refine⟨S++[.lst ((IT p q x ss).map aD)],?_,.app⟩
 simp only[xE,vT]at i1 i2
 have em:(IT p q x ss).map aD=((ss.map aD).set p (aD (ss.getD p 0-ss.getD p 0*x))).set q (aD (ss.getD q 0+ss.getD p 0*x)):=by rw[IT,yK,yK]
 unfold shD
 rw[em]
 generalize aD (ss.getD p 0-ss.getD p 0*x)=d1 at*
 generalize aD (ss.getD q 0+ss.getD p 0*x)=d2 at*
 generalize aD (ss.getD p 0*x)=d3 at*
 generalize aD (ss.getD p 0)=d4 at*
 generalize aD (ss.getD q 0)=d5 at*
 simp[HC,QD,Ab.d,a1,l1,l2,l3,i1,i2,a2]
theorem XS{x y:Ld}{a b:Nat}{j i:Nat}(ha:S[a]?=Fk (Cp x))(hb:S[b]?=Fk (Cp y))(hs:∀r∈x.ow,Sz j r)(ho:∀r∈y.ow,Sz j r)(hx:x.n.natAbs<2^i)(hy:y.n.natAbs<2^i)(h0:0<x.n+y.n)(h1:1<=i)(hj:2*j+4*i<=7900)(hl:x.ow.length<=10):∃S',IK [.ref a,.ref b] S=Fk (shD (DF x.n y.n x.ow y.ow),S')/\Cj [] S S':=by
 have la:=Ae ha
 have lb:=Ae hb
 have hq:(S++[Cl.lst []])[S.length]?=Fk (.lst []):=uj
 have ha':(S++[Cl.lst []])[a]?=Fk (Cp x):=by rw[uP la];exact ha
 have hb':(S++[Cl.lst []])[b]?=Fk (Cp y):=by rw[uP lb];exact hb
 obtain⟨os',ho',e⟩:=Tw (gs:=[]) (t:=tTp [tNm 3,tNm 4]) (b:=Aa (BQ 5 (AJ CO [AJ Ax [Cm [eOp (o2 wIx) [eV 0,eC (.int 1)],eC (.int 1)],eV 3],AJ Ax [Cm [eOp (o2 wIx) [eV 1,eC (.int 1)],eC (.int 1)],eV 4]]))
  (Bl (Lc Le (eV 2) [AJ Ax [eV 5,AJ CP [eC (.int 1),eOp (o2 CK) [eOp (o2 wIx) [eV 0,eC (.int 1)],eOp (o2 wIx) [eV 1,eC (.int 1)]]]]]))) (C:=[Fk (.ref a),Fk (.ref b),Fk (.ref S.length)]) (m:=3) (q:=S.length) (h:=UG λs o=>(s*x.n+o*y.n) / (x.n+y.n:Int)) (I:=λS'=>S'[a]?=Fk (Cp x)/\S'[b]?=Fk (Cp y)) (λ_ _=>Aw) (λS' c h=>⟨by rw[uS (by lia)];exact h.1,by rw[uS (by lia)];exact h.2⟩)
  (ds:=Nb (x.ow.map aD) (y.ow.map aD)) (acc:=[]) (os:=[uK,uK,uK]) (S:=S++[Cl.lst []]) rfl ⟨ha',hb'⟩ hq (by simp[Nk];lia) (by
    intro d hd os0 S0 acc h0' hI hq0 hz
    obtain⟨o1,o2,o3,rfl⟩:=qU h0'
    obtain⟨s,hs',o,ho',rfl⟩:=Wg hd
    have d1:=BE hI.1
    have d2:=BE hI.2
    have z1:=U6 hx h1
    have z2:=U6 hy h1
    have l1:=Kf (S:=S0) z1 (hs s hs') (by lia)
    have l2:=Kf (S:=S0) z2 (ho o ho') (by lia)
    have s1:=P5 z1 (hs s hs')
    have s2:=P5 z2 (ho o ho')
    have l3:=RU (S:=S0) s1 s2 (by lia)
    have b1:=Kr hx hy
    have l4:=cD (S:=S0) (t:=1) h0 (ER b1 (by lia))
    have s4:Sz (i+1) (((1:Int):Rat) / ((x.n+y.n:Int):Rat)):=Pu h0 (show(1:Int).natAbs<2^(i+1)from zm (by lia)) b1
    have l5:=Kf (S:=S0) (j4 s1 s2) s4 (by lia)
    rw[TL]at l1 l2
    refine⟨[Fk (aD s),Fk (aD o),o3],[Fk (aD s),Fk (aD o),Fk (aD (x.n*s+y.n*o))],by simp,?_,rfl⟩
    have ev:(((x.n:Rat)*s+(y.n:Rat)*o)*(((1:Int):Rat) / ((x.n+y.n:Int):Rat)))=(s*x.n+o*y.n) / (x.n+y.n:Int):=by
     push_cast
     grind
    rw[ev]at l5
    have lf:(UG λs o=>(s*x.n+o*y.n) / (x.n+y.n:Int)) (.tup [aD s,aD o])=aD ((s*x.n+o*y.n) / (x.n+y.n:Int)):=by simp only[UG,gM]
    rw[lf]
    generalize aD ((s*x.n+o*y.n) / (x.n+y.n:Int))=e5 at*
    generalize aD (((1:Int):Rat) / ((x.n+y.n:Int):Rat))=e4 at*
    generalize aD (x.n*s+y.n*o)=e3 at*
    simp[d1,d2,Cp,l1,l2,l3,l4,l5,AY hq0,hz])
 rw[Qb]at e
 refine⟨(S++[Cl.lst []]).set S.length (.lst ((DF x.n y.n x.ow y.ow).map aD)),?_,?_⟩
 .have e':=e
  simp only[vS,vH]at e'
  have d1:=BE ha'
  have d2:=BE hb'
  change Nc _ _ _ _ _ _=Fk (_,_,List.set _ _ (Cl.lst (List.map aD (DF x.n y.n x.ow y.ow))))at e'
  generalize DF x.n y.n x.ow y.ow=rs at*
  simp[IK,Mq,d1,d2,e',shD]
 .refine⟨by simp,λn hn _=>?_⟩
  rw[uS (by lia),uP hn]
end
section
variable{S:Sto}{p:Nat}
theorem Ea{α:Type}{gs:Gd}{t:Tf}{f:Ev}{C:En}{m:Nat}{e g:α->D}{S:Sto}(hg:gOk gs S):∀{xs:Gc α} {acc:Gc D} {os:En},os.length=m->acc.length+xs.length<=sizeLine->(∀x∈xs,∀os,os.length=m->∃us,us.length=m/\t (e x) (C++os) S=Fk (C++us)/\f (C++us) S=Fk (g x,S))->C8 gs t Cr f (xs.map e) acc (C++os) S=Fk (acc++xs.map g,S)
 | [],acc,os,ho,hz,h=>by rw[wG,FL hg];simp
 |x::xs,acc,os,ho,hz,h=>by
  obtain⟨us,hu,e1,e2⟩:=h x uX os ho
  rw[uv,JH hg (by simp at hz;lia) e1 Hr,e2,Bx]
  rw[Ea hg hu (by simp at hz ⊢; lia) λx' hx=>h x' (uR _ hx)]
  simp
theorem Hm{α:Type}{gs:Gd}{t:Tf}{c f:Ev}{C:En}{m:Nat}{e g:α->D}{b:α->vL}{S:Sto}(hg:gOk gs S):∀{xs:Gc α} {acc:Gc D} {os:En},os.length=m->acc.length+xs.length<=sizeLine->(∀x∈xs,∀os,os.length=m->∃us,us.length=m/\t (e x) (C++os) S=Fk (C++us)/\c (C++us) S=Fk (.bl (b x),S)/\f (C++us) S=Fk (g x,S))->C8 gs t c f (xs.map e) acc (C++os) S=Fk (acc++(xs.filter b).map g,S)
 | [],acc,os,ho,hz,h=>by rw[wG,FL hg];simp
 |x::xs,acc,os,ho,hz,h=>by
  obtain⟨us,hu,e1,e2,e3⟩:=h x uX os ho
  cases hb:b x with
  |true=>
   rw[hb]at e2
   rw[uv,JH hg (by simp at hz;lia) e1 e2,e3,Bx,Hm hg hu (by simp at hz ⊢; lia) λd' hd=>h d' (uR _ hd)]
   simp[hb]
  |false=>
   rw[hb]at e2
   rw[uv,LP hg (by simp at hz;lia) e1 e2,Hm hg hu (by simp at hz ⊢; lia) λd' hd=>h d' (uR _ hd)]
   simp[hb]
theorem Ur{as:Gc Nat}{ls:Gc Ld}(h:as.length=ls.length):as.map D.ref=(as.zip ls).map λz=>D.ref z.1:=by
 have:as=(as.zip ls).map Prod.fst:=(List.map_fst_zip (by lia)).symm
 conv=>lhs;rw[this]
 rw[vh];rfl
theorem Ww{β:Type}{as:Gc Nat}{ls:Gc Ld}(h:as.length=ls.length)(g:Ld->β):ls.map g=(as.zip ls).map λz=>g z.2:=by
 have:ls=(as.zip ls).map Prod.snd:=(List.map_snd_zip (by lia)).symm
 conv=>lhs;rw[this]
 rw[vh];rfl
section
variable{s l m:Nat}{as:Gc Nat}{st:Stt}
theorem SAt.ql(h:SAt S s l m as st){z:Nat×Ld}(hz:z∈as.zip st.AE):S[z.1]?=Fk (Cp z.2):=by
 obtain⟨i,hi⟩:=xO.mp hz
 have:=yM.mp hi
 exact h.ld i z.1 z.2 this.1 this.2
theorem SAt.at(h:SAt S s l m as st){i:Nat}(hi:i<st.AE.length):∃a,as[i]?=Fk a/\S[a]?=Fk (Cp (AU st.AE i))/\atI (as.map D.ref) (i:Int)=Fk (.ref a):=by
 have h1:i<as.length:=by rw[h.len];exact hi
 refine⟨as[i],tz h1,h.ld i _ _ (tz h1) (G4 hi),CF (by rw[uY,tz h1];rfl)⟩
theorem SAt.guard(h:SAt S s l m as st):gOk [(l,as.map D.ref)] S:=by
 intro g hg
 simp only[uQ,ug,vd]at hg
 subst hg
 exact AY h.lo
end
theorem Wt{M:Int}(hM:0<=M):∀{xs:Gc Int},(∀x∈xs,0<=x/\x<=M)->0<=xs.sum/\xs.sum<=xs.length*M
 | [],_=>by simp
 |x::xs,h=>by
  have h1:=h x uX
  have h2:=Wt hM λy hy=>h y (uR _ hy)
  simp only[wq,vR]
  refine⟨by lia,?_⟩
  have:((xs.length+1:Nat):Int)*M=xs.length*M+M:=by push_cast;grind
  lia
theorem Pq:∀{xs:Gc Int} {y:Int},(∀x∈xs,0<=x)->y∈xs->y<=xs.sum
 |x::xs,y,h,hy=>by
  have h1:=h x uX
  have h2:0<=xs.sum:=by
   clear hy
   induction xs with
   |nil=>simp
   |cons z zs ih=>
    have:=h z (by simp)
    have:=ih λw hw=>h w (by simp at hw ⊢; rcases hw with hw|hw<;>simp[hw])
    simp only[wq];lia
  simp only[wq]
  rcases uQ.mp hy with e|e
  .lia
  .have:=Pq (λz hz=>h z (uR _ hz)) e
   lia
section
variable{t:Tr}{k:Nat}{st:Stt}{ws:Gc Int}{n:Int}{l:Nat}
theorem N3{i:Nat}(hw:∀w∈ws,1<=w/\w<=99)(hi:i<ws.length):1<=ws.getD i 0/\ws.getD i 0<=99:=hw _ (getD_mem hi)
theorem U0{i:Nat}(hi:i<ws.length):atI (ws.map D.int) (i:Int)=Fk (.int (ws.getD i 0)):=CF (by rw[uY,getD_get hi];rfl)
theorem RO(hi:ws.length=k+1):atI (ws.map D.int) (-1:Int)=Fk (.int (ws.getD k 0)):=by
 have ix:ixN (ws.map D.int).length (-1)=Fk k:=by
  rw[vT,hi]
  unfold ixN
  simp
  lia
 unfold atI
 rw[ix]
 show(ws.map D.int)[k]?=_
 rw[uY,getD_get (d:=(0:Int)) (by lia)]
 rfl
theorem Kv(ht:Jy t)(h:GB t k st)(hk:k<=20)(hl:ws.length=t.k+1)(hw:∀w∈ws,1<=w/\w<=99):0<EH t st.AE ws/\EH t st.AE ws<2^(145+k):=by
 obtain⟨t1,t2,t3,t4,t5,t6⟩:=ht
 have hP:(0:Int)<=2^(131+k):=Int.le_of_lt (Int.pow_pos (by decide))
 have hs:=Wt (M:=2^(131+k)*99) (by lia) (xs:=st.AE.map λl=>l.n*ws.getD l.k 0) (by
  intro x hx
  obtain⟨y,hy,rfl⟩:=ux.mp hx
  have h1:=h.pcs y hy
  have h2:=N3 hw (i:=y.k) (by have:=h.kind y hy;lia)
  refine⟨yt h1.1 (by lia),yu (by lia) h2.2 (by lia) hP⟩)
 have hb:=N3 hw (i:=t.k) (by lia)
 have hlen:=h.len
 rw[vT]at hs
 have h3:(st.AE.length:Int)*(2^(131+k)*99)<=24*(2^(131+k)*99):=y0 (by lia) (by lia)
 have h4:(1:Int)<=t.b*ws.getD t.k 0:=by
  have:0<(t.b:Int)*ws.getD t.k 0:=vv (by lia) (by lia)
  lia
 have h5:t.b*ws.getD t.k 0<=20*99:=yu (by lia) hb.2 (by lia) (by decide)
 have h6:(2:Int)^(145+k)=2^(131+k)*16384:=by rw[show 145+k=(131+k)+14 by lia,Int.pow_add];rfl
 have h7:(1:Int)<=2^(131+k):=by have:(0:Int)<2^(131+k):=Int.pow_pos (by decide);lia
 have h7':(2:Int)^11<=2^(131+k):=by
  have:(2^11:Nat)<=2^(131+k):=uz (by decide) (by lia)
  exact_mod_cast this
 unfold EH
 rw[h6]
 generalize (2:Int)^(131+k)=P at*
 lia
theorem YM(ht:Jy t)(h:GB t k st)(hl:ws.length=t.k+1)(hw:∀w∈ws,1<=w/\w<=99)(hi:l<st.AE.length)(h1:1<=n)(h2:n<=(AU st.AE l).n):0<n*ws.getD (AU st.AE l).k 0/\n*ws.getD (AU st.AE l).k 0<EH t st.AE ws:=by
 obtain⟨t1,t2,t3,t4,t5,t6⟩:=ht
 have hw1:=N3 hw (i:=(AU st.AE l).k) (by have:=h.kind _ (A4 hi);lia)
 have hb:=N3 hw (i:=t.k) (by lia)
 have h4:(1:Int)<=t.b*ws.getD t.k 0:=by
  have:0<(t.b:Int)*ws.getD t.k 0:=vv (by lia) (by lia)
  lia
 have h5:=Pq (xs:=st.AE.map λl=>l.n*ws.getD l.k 0) (y:=(AU st.AE l).n*ws.getD (AU st.AE l).k 0) (by
  intro x hx
  obtain⟨y,hy,rfl⟩:=ux.mp hx
  have h1:=h.pcs y hy
  have h2:=N3 hw (i:=y.k) (by have:=h.kind y hy;lia)
  exact yt h1.1 (by lia)) (ux.mpr ⟨_,A4 hi,rfl⟩)
 have h6:n*ws.getD (AU st.AE l).k 0<=(AU st.AE l).n*ws.getD (AU st.AE l).k 0:=y0 h2 (by lia)
 refine⟨vv (by lia) (by lia),?_⟩
 unfold EH
 lia
theorem Np(hi:l<st.AE.length):KZ t st.AE l n ws=((n*ws.getD (AU st.AE l).k 0:Int):Rat) / (EH t st.AE ws:Rat):=by
 unfold KZ
 rw[G4 hi]
 rfl
theorem IS{x:Int}{j:Nat}(h0:0<=x)(h1:x<2^j):x.natAbs<2^j:=by
 have:((x.natAbs:Nat):Int)<((2^j:Nat):Int):=by
  rw[Int.natAbs_of_nonneg h0];push_cast;exact h1
 exact_mod_cast this
theorem X0(ht:Jy t)(h:GB t k st)(hk:k<=20)(hl:ws.length=t.k+1)(hw:∀w∈ws,1<=w/\w<=99)(hi:l<st.AE.length)(h1:1<=n)(h2:n<=(AU st.AE l).n):Sz (145+k) (KZ t st.AE l n ws):=by
 have a:=Kv ht h hk hl hw
 have b:=YM ht h hl hw hi h1 h2
 rw[Np hi]
 exact Pu a.1 (IS (by lia) (by lia)) (IS (by lia) a.2)
theorem fD{s r m:Nat}{as:Gc Nat}(hS:SAt S s r m as st)(ht:Jy t)(h:GB t k st)(hk:k<=20)(hl:ws.length=t.k+1)(hw:∀w∈ws,1<=w/\w<=99)(hi:l<st.AE.length)(h1:1<=n)(h2:n<=(AU st.AE l).n):Kp [t.d,.ref r,(Ab.thr l n ws).d] S=Fk (aD (KZ t st.AE l n ws),S):=by
 have a:=Kv ht h hk hl hw
 obtain⟨x,x1,x2,x3⟩:=hS.at hi
 have hlen:=h.len
 have e:=Ea (gs:=[(r,as.map D.ref)]) (t:=tTp [tNm 1,tNm 2,tNm 3]) (f:=eOp (o2 CG) [eV 2,eOp (o2 wIx) [eV 0,eV 1]]) (C:=[Fk (.tup (ws.map D.int))]) (m:=3) (e:=λz:Nat×Ld=>D.ref z.1) (g:=λz=>D.int (z.2.n*ws.getD z.2.k 0)) hS.guard (xs:=as.zip st.AE) (acc:=[]) (os:=[uK,uK,uK]) rfl (uW (show _<=24 by simp;lia) (AN (by decide))) (by
  intro z hz os ho
  obtain⟨q1,q2,q3,rfl⟩:=qU ho
  have c1:=hS.ql hz
  have hm:z.2∈st.AE:=(wF (a:=z.1) (b:=z.2) hz).2
  have hk:=h.kind _ hm
  have w1:=U0 (ws:=ws) (i:=z.2.k) (by lia)
  have w2:=N3 hw (i:=z.2.k) (by lia)
  have m1:Dc z.2.n (ws.getD z.2.k 0)=true:=mulR (by lia) (by lia)
  generalize ws.getD z.2.k 0=wz at*
  refine⟨[Fk (.int z.2.k),Fk (.int z.2.n),Fk (shD z.2.ow)],rfl,?_,?_⟩
  .simp[AY c1,Cp]
  .simp[w1,m1])
 rw[<-Ur hS.len,<-Ww hS.len (λx=>D.int (x.n*ws.getD x.k 0))]at e
 have e':=e
 simp only[vS,vH]at e'
 rw[Np hi]
 have es:NZ (st.AE.map λx=>D.int (x.n*ws.getD x.k 0))=Fk (st.AE.map λx=>x.n*ws.getD x.k 0):=by
  have:=Ic (st.AE.map λx=>x.n*ws.getD x.k 0)
  rwa [vh]at this
 have w1:=U0 (ws:=ws) (i:=(AU st.AE l).k) (by have:=h.kind _ (A4 hi);lia)
 have w3:=N3 hw (i:=(AU st.AE l).k) (by have:=h.kind _ (A4 hi);lia)
 have w2:=RO hl
 have w4:=N3 hw (i:=t.k) (by lia)
 have m1:Dc n (ws.getD (AU st.AE l).k 0)=true:=mulR (by lia) (by lia)
 have m2:Dc (t.b:Int) (ws.getD t.k 0)=true:=mulR (by lia) (by lia)
 have l1:=cD (S:=S) (t:=n*ws.getD (AU st.AE l).k 0) a.1 (ER (IS (by lia) a.2) (by lia))
 have e2:EH t st.AE ws=(st.AE.map λx=>x.n*ws.getD x.k 0).sum+t.b*ws.getD t.k 0:=rfl
 rw[e2]at l1⊢
 generalize aD (((n*ws.getD (AU st.AE l).k 0:Int):Rat) / (((st.AE.map λx=>x.n*ws.getD x.k 0).sum+t.b*ws.getD t.k 0:Int):Rat))=R at*
 generalize (st.AE.map λx=>x.n*ws.getD x.k 0)=es' at*
 generalize (st.AE.map λx=>D.int (x.n*ws.getD x.k 0))=es2 at*
 generalize ws.getD (AU st.AE l).k 0=wa at*
 generalize ws.getD t.k 0=wb at*
 have dx:=BE x2
 have dl:=BE hS.lo
 simp[Kp,P4,Ab.d,Tr.d,HW hS.lo,e',es,w2,m2,dl,x3,dx,Cp,w1,m1,l1]
theorem R0{G B:Nat}(ht:Jy t)(h:GB t k st)(hk:k<=20)(hl:ws.length=t.k+1)(hw:∀w∈ws,1<=w/\w<=99)(hi:l<st.AE.length)(h1:1<=n)(h2:n<=(AU st.AE l).n){os ss:Gc Rat}(ho:∀r∈os,Ok G B r)(hs:∀r∈ss,Ok G B r):∀r∈Jp (KZ t st.AE l n ws) os ss,Ok (G*(EH t st.AE ws).toNat) (B*(EH t st.AE ws).toNat) r:=by
 have a:=Kv ht h hk hl hw
 have b:=YM ht h hl hw hi h1 h2
 intro r hr
 unfold Jp at hr
 rw[xO]at hr
 obtain⟨i,hi'⟩:=hr
 rw[zB]at hi'
 obtain⟨x,y,hx,hy,rfl⟩:=hi'
 rw[Np hi]
 generalize n*ws.getD (AU st.AE l).k 0=c at*
 generalize EH t st.AE ws=W at*
 have:=Ok.mix (a:=(W-c).toNat) (b:=c.toNat) (t:=W.toNat) (hs x (uh hx)) (ho y (uh hy)) (by lia) (by lia)
 have e1:(((W-c).toNat:Nat):Rat)=(W:Rat)-(c:Rat):=by
  have:(((W-c).toNat:Nat):Int)=W-c:=vX (by lia)
  have:((((W-c).toNat:Nat):Int):Rat)=((W-c:Int):Rat):=by rw[this]
  push_cast at this
  exact this
 have e2:((c.toNat:Nat):Rat)=(c:Rat):=by
  have:((c.toNat:Nat):Int)=c:=vX (by lia)
  have:(((c.toNat:Nat):Int):Rat)=(c:Rat):=by rw[this]
  exact this
 have e3:((W.toNat:Nat):Rat)=(W:Rat):=by
  have:((W.toNat:Nat):Int)=W:=vX (by lia)
  have:(((W.toNat:Nat):Int):Rat)=(W:Rat):=by rw[this]
  exact this
 rw[e1,e2,e3]at this
 have ne:(W:Rat)≠0:=by
  intro z
  have:=xn.mp z
  lia
 have ev:(x*((W:Rat)-(c:Rat))+y*(c:Rat)) / (W:Rat)=x*(1-(c:Rat) / (W:Rat))+y*((c:Rat) / (W:Rat)):=by grind
 rw[ev]at this
 exact this
end
end
section
variable{S:Sto}
theorem A3{x y:Str}(h:vt x=true)(g:vt y=true):EE (.str x) (.str y)=true:=by
 unfold EE
 show(vt x && vt y && _)=true
 rw[h,g]
 rfl
theorem D6:vt (vw "bring")=true:=by decide+kernel
theorem Gm:vt (vw "pool")=true:=by decide+kernel
theorem Gk:vt (vw "swap")=true:=by decide+kernel
theorem EB:vt (vw "trade")=true:=by decide+kernel
theorem F9:vt (vw "spoil")=true:=by decide+kernel
theorem ED:vt (vw "throw")=true:=by decide+kernel
theorem Fo:vt (vw "sell")=true:=by decide+kernel
@[simp] theorem Y7:EE (.str (Str.ofString "bring")) (.str (Str.ofString "bring"))=true:=A3 D6 D6
@[simp] theorem Yq:deq (.str (Str.ofString "bring")) (.str (Str.ofString "bring"))=true:=nr rfl
@[simp] theorem Za:EE (.str (Str.ofString "bring")) (.str (Str.ofString "pool"))=true:=A3 D6 Gm
@[simp] theorem ak:deq (.str (Str.ofString "bring")) (.str (Str.ofString "pool"))=false:=nr rfl
@[simp] theorem aA:EE (.str (Str.ofString "bring")) (.str (Str.ofString "swap"))=true:=A3 D6 Gk
@[simp] theorem ZN:deq (.str (Str.ofString "bring")) (.str (Str.ofString "swap"))=false:=nr rfl
@[simp] theorem Yy:EE (.str (Str.ofString "bring")) (.str (Str.ofString "trade"))=true:=A3 D6 EB
@[simp] theorem Y5:deq (.str (Str.ofString "bring")) (.str (Str.ofString "trade"))=false:=nr rfl
@[simp] theorem Y9:EE (.str (Str.ofString "bring")) (.str (Str.ofString "throw"))=true:=A3 D6 ED
@[simp] theorem Y4:deq (.str (Str.ofString "bring")) (.str (Str.ofString "throw"))=false:=nr rfl
@[simp] theorem ag:EE (.str (Str.ofString "bring")) (.str (Str.ofString "sell"))=true:=A3 D6 Fo
@[simp] theorem Z5:deq (.str (Str.ofString "bring")) (.str (Str.ofString "sell"))=false:=nr rfl
@[simp] theorem bK:wIn false (.val (.str "bring")) (.val (.tup [.str "spoil",.str "throw"]))=some (.val (.bl false)):=nr rfl
@[simp] theorem Zv:EE (.str (Str.ofString "pool")) (.str (Str.ofString "bring"))=true:=A3 Gm D6
@[simp] theorem ZQ:deq (.str (Str.ofString "pool")) (.str (Str.ofString "bring"))=false:=nr rfl
@[simp] theorem cg:EE (.str (Str.ofString "pool")) (.str (Str.ofString "pool"))=true:=A3 Gm Gm
@[simp] theorem cx:deq (.str (Str.ofString "pool")) (.str (Str.ofString "pool"))=true:=nr rfl
@[simp] theorem aU:EE (.str (Str.ofString "pool")) (.str (Str.ofString "trade"))=true:=A3 Gm EB
@[simp] theorem cJ:deq (.str (Str.ofString "pool")) (.str (Str.ofString "trade"))=false:=nr rfl
@[simp] theorem bp:EE (.str (Str.ofString "pool")) (.str (Str.ofString "throw"))=true:=A3 Gm ED
@[simp] theorem ZS:deq (.str (Str.ofString "pool")) (.str (Str.ofString "throw"))=false:=nr rfl
@[simp] theorem cm:EE (.str (Str.ofString "pool")) (.str (Str.ofString "sell"))=true:=A3 Gm Fo
@[simp] theorem cY:deq (.str (Str.ofString "pool")) (.str (Str.ofString "sell"))=false:=nr rfl
@[simp] theorem qN:wIn false (.val (.str "pool")) (.val EX)=some (.val (.bl true)):=nr rfl
@[simp] theorem cG:EE (.str (Str.ofString "swap")) (.str (Str.ofString "bring"))=true:=A3 Gk D6
@[simp] theorem ay:deq (.str (Str.ofString "swap")) (.str (Str.ofString "bring"))=false:=nr rfl
@[simp] theorem dE:EE (.str (Str.ofString "swap")) (.str (Str.ofString "pool"))=true:=A3 Gk Gm
@[simp] theorem cR:deq (.str (Str.ofString "swap")) (.str (Str.ofString "pool"))=false:=nr rfl
@[simp] theorem dF:EE (.str (Str.ofString "swap")) (.str (Str.ofString "swap"))=true:=A3 Gk Gk
@[simp] theorem dM:deq (.str (Str.ofString "swap")) (.str (Str.ofString "swap"))=true:=nr rfl
@[simp] theorem ae:EE (.str (Str.ofString "swap")) (.str (Str.ofString "trade"))=true:=A3 Gk EB
@[simp] theorem cC:deq (.str (Str.ofString "swap")) (.str (Str.ofString "trade"))=false:=nr rfl
@[simp] theorem bD:EE (.str (Str.ofString "swap")) (.str (Str.ofString "throw"))=true:=A3 Gk ED
@[simp] theorem bH:deq (.str (Str.ofString "swap")) (.str (Str.ofString "throw"))=false:=nr rfl
@[simp] theorem ck:EE (.str (Str.ofString "swap")) (.str (Str.ofString "sell"))=true:=A3 Gk Fo
@[simp] theorem dU:deq (.str (Str.ofString "swap")) (.str (Str.ofString "sell"))=false:=nr rfl
@[simp] theorem gC:wIn false (.val (.str "swap")) (.val (.tup [.str "swap",.str "trade"]))=some (.val (.bl true)):=nr rfl
@[simp] theorem qB:wIn false (.val (.str "swap")) (.val EX)=some (.val (.bl true)):=nr rfl
@[simp] theorem Ys:EE (.str (Str.ofString "trade")) (.str (Str.ofString "bring"))=true:=A3 EB D6
@[simp] theorem ZE:deq (.str (Str.ofString "trade")) (.str (Str.ofString "bring"))=false:=nr rfl
@[simp] theorem Zo:EE (.str (Str.ofString "trade")) (.str (Str.ofString "pool"))=true:=A3 EB Gm
@[simp] theorem bQ:deq (.str (Str.ofString "trade")) (.str (Str.ofString "pool"))=false:=nr rfl
@[simp] theorem aK:EE (.str (Str.ofString "trade")) (.str (Str.ofString "swap"))=true:=A3 EB Gk
@[simp] theorem bB:deq (.str (Str.ofString "trade")) (.str (Str.ofString "swap"))=false:=nr rfl
@[simp] theorem Yj:EE (.str (Str.ofString "trade")) (.str (Str.ofString "trade"))=true:=A3 EB EB
@[simp] theorem ZD:deq (.str (Str.ofString "trade")) (.str (Str.ofString "trade"))=true:=nr rfl
@[simp] theorem Yp:EE (.str (Str.ofString "trade")) (.str (Str.ofString "throw"))=true:=A3 EB ED
@[simp] theorem Yu:deq (.str (Str.ofString "trade")) (.str (Str.ofString "throw"))=false:=nr rfl
@[simp] theorem Z1:EE (.str (Str.ofString "trade")) (.str (Str.ofString "sell"))=true:=A3 EB Fo
@[simp] theorem br:deq (.str (Str.ofString "trade")) (.str (Str.ofString "sell"))=false:=nr rfl
@[simp] theorem cS:wIn false (.val (.str "trade")) (.val (.tup [.str "swap",.str "trade"]))=some (.val (.bl true)):=nr rfl
@[simp] theorem nZ:wIn false (.val (.str "trade")) (.val EX)=some (.val (.bl true)):=nr rfl
@[simp] theorem Y3:EE (.str (Str.ofString "spoil")) (.str (Str.ofString "bring"))=true:=A3 F9 D6
@[simp] theorem Y6:deq (.str (Str.ofString "spoil")) (.str (Str.ofString "bring"))=false:=nr rfl
@[simp] theorem cF:EE (.str (Str.ofString "spoil")) (.str (Str.ofString "pool"))=true:=A3 F9 Gm
@[simp] theorem bF:deq (.str (Str.ofString "spoil")) (.str (Str.ofString "pool"))=false:=nr rfl
@[simp] theorem a9:EE (.str (Str.ofString "spoil")) (.str (Str.ofString "swap"))=true:=A3 F9 Gk
@[simp] theorem cA:deq (.str (Str.ofString "spoil")) (.str (Str.ofString "swap"))=false:=nr rfl
@[simp] theorem Yx:EE (.str (Str.ofString "spoil")) (.str (Str.ofString "trade"))=true:=A3 F9 EB
@[simp] theorem Yk:deq (.str (Str.ofString "spoil")) (.str (Str.ofString "trade"))=false:=nr rfl
@[simp] theorem ZA:EE (.str (Str.ofString "spoil")) (.str (Str.ofString "spoil"))=true:=A3 F9 F9
@[simp] theorem Y1:deq (.str (Str.ofString "spoil")) (.str (Str.ofString "spoil"))=true:=nr rfl
@[simp] theorem Yr:EE (.str (Str.ofString "spoil")) (.str (Str.ofString "throw"))=true:=A3 F9 ED
@[simp] theorem Y0:deq (.str (Str.ofString "spoil")) (.str (Str.ofString "throw"))=false:=nr rfl
@[simp] theorem aa:EE (.str (Str.ofString "spoil")) (.str (Str.ofString "sell"))=true:=A3 F9 Fo
@[simp] theorem ZP:deq (.str (Str.ofString "spoil")) (.str (Str.ofString "sell"))=false:=nr rfl
@[simp] theorem cn:wIn false (.val (.str "spoil")) (.val (.tup [.str "swap",.str "trade"]))=some (.val (.bl false)):=nr rfl
@[simp] theorem ZO:wIn false (.val (.str "spoil")) (.val (.tup [.str "spoil",.str "throw"]))=some (.val (.bl true)):=nr rfl
@[simp] theorem oS:wIn false (.val (.str "spoil")) (.val EX)=some (.val (.bl false)):=nr rfl
@[simp] theorem Yl:EE (.str (Str.ofString "throw")) (.str (Str.ofString "bring"))=true:=A3 ED D6
@[simp] theorem Yt:deq (.str (Str.ofString "throw")) (.str (Str.ofString "bring"))=false:=nr rfl
@[simp] theorem cI:EE (.str (Str.ofString "throw")) (.str (Str.ofString "pool"))=true:=A3 ED Gm
@[simp] theorem aH:deq (.str (Str.ofString "throw")) (.str (Str.ofString "pool"))=false:=nr rfl
@[simp] theorem Zt:EE (.str (Str.ofString "throw")) (.str (Str.ofString "swap"))=true:=A3 ED Gk
@[simp] theorem Zd:deq (.str (Str.ofString "throw")) (.str (Str.ofString "swap"))=false:=nr rfl
@[simp] theorem Y8:EE (.str (Str.ofString "throw")) (.str (Str.ofString "trade"))=true:=A3 ED EB
@[simp] theorem Ym:deq (.str (Str.ofString "throw")) (.str (Str.ofString "trade"))=false:=nr rfl
@[simp] theorem Yn:EE (.str (Str.ofString "throw")) (.str (Str.ofString "spoil"))=true:=A3 ED F9
@[simp] theorem Yw:deq (.str (Str.ofString "throw")) (.str (Str.ofString "spoil"))=false:=nr rfl
@[simp] theorem Yo:EE (.str (Str.ofString "throw")) (.str (Str.ofString "throw"))=true:=A3 ED ED
@[simp] theorem Yh:deq (.str (Str.ofString "throw")) (.str (Str.ofString "throw"))=true:=nr rfl
@[simp] theorem cw:wIn false (.val (.str "throw")) (.val (.tup [.str "swap",.str "trade"]))=some (.val (.bl false)):=nr rfl
@[simp] theorem aY:wIn false (.val (.str "throw")) (.val (.tup [.str "spoil",.str "throw"]))=some (.val (.bl true)):=nr rfl
@[simp] theorem oQ:wIn false (.val (.str "throw")) (.val EX)=some (.val (.bl false)):=nr rfl
@[simp] theorem ZF:EE (.str (Str.ofString "sell")) (.str (Str.ofString "bring"))=true:=A3 Fo D6
@[simp] theorem ZT:deq (.str (Str.ofString "sell")) (.str (Str.ofString "bring"))=false:=nr rfl
@[simp] theorem dW:EE (.str (Str.ofString "sell")) (.str (Str.ofString "pool"))=true:=A3 Fo Gm
@[simp] theorem c9:deq (.str (Str.ofString "sell")) (.str (Str.ofString "pool"))=false:=nr rfl
@[simp] theorem dc:EE (.str (Str.ofString "sell")) (.str (Str.ofString "swap"))=true:=A3 Fo Gk
@[simp] theorem cV:deq (.str (Str.ofString "sell")) (.str (Str.ofString "swap"))=false:=nr rfl
@[simp] theorem cH:EE (.str (Str.ofString "sell")) (.str (Str.ofString "trade"))=true:=A3 Fo EB
@[simp] theorem az:deq (.str (Str.ofString "sell")) (.str (Str.ofString "trade"))=false:=nr rfl
@[simp] theorem Zy:EE (.str (Str.ofString "sell")) (.str (Str.ofString "spoil"))=true:=A3 Fo F9
@[simp] theorem bG:deq (.str (Str.ofString "sell")) (.str (Str.ofString "spoil"))=false:=nr rfl
@[simp] theorem bU:EE (.str (Str.ofString "sell")) (.str (Str.ofString "throw"))=true:=A3 Fo ED
@[simp] theorem ZI:deq (.str (Str.ofString "sell")) (.str (Str.ofString "throw"))=false:=nr rfl
@[simp] theorem de:EE (.str (Str.ofString "sell")) (.str (Str.ofString "sell"))=true:=A3 Fo Fo
@[simp] theorem dX:deq (.str (Str.ofString "sell")) (.str (Str.ofString "sell"))=true:=nr rfl
@[simp] theorem gN:wIn false (.val (.str "sell")) (.val (.tup [.str "swap",.str "trade"]))=some (.val (.bl false)):=nr rfl
@[simp] theorem dY:wIn false (.val (.str "sell")) (.val (.tup [.str "spoil",.str "throw"]))=some (.val (.bl false)):=nr rfl
@[simp] theorem qG:wIn false (.val (.str "sell")) (.val EX)=some (.val (.bl false)):=nr rfl
@[simp] theorem jE:dr S EX=.val EX:=nr rfl
section
variable{a b c d e f:D}{r:Gc D}
@[simp] theorem mV:IZ [a,b,c,d,e] (some (-4)) none=[b,c,d,e]:=nr rfl
@[simp] theorem lN:IZ [a,b,c,d,e,f] (some (-4)) none=[c,d,e,f]:=nr rfl
@[simp] theorem oq:IZ [a,b,c,d] (some 1) none=[b,c,d]:=nr rfl
@[simp] theorem mw:IZ [a,b,c,d,e] (some 1) (some 2)=[b]:=nr rfl
@[simp] theorem l0:IZ [a,b,c,d,e,f] (some 1) (some 2)=[b]:=nr rfl
@[simp] theorem mS{ds zs:List D}:mK S ds [.tup zs]=if ds.length+zs.length<=sizeLine then some (.non,ds++zs)else none:=nr rfl
end
end
section
variable{S S':Sto}{s l m:Nat}{as:Gc Nat}{st:Stt}
theorem SAt.same(h:SAt S s l m as st)(g:Cj A S S')(hA:∀n∈A,n∉s::l::m::as):SAt S' s l m as st where
 root:=g.get h.root λz=>hA _ z (by simp)
 lo:=g.get h.lo λz=>hA _ z (by simp)
 nu:=g.get h.nu λz=>hA _ z (by simp)
 ld:=λi a x ha hx=>g.get (h.ld i a x ha hx) λz=>hA _ z (by simp[uh ha])
 len:=h.len
 nd:=h.nd
theorem SAt.Tu(h:SAt S s l m as st)(g:Cj [] S S'):SAt S' s l m as st:=h.same g λ_ z=>(nomatch z)
theorem SAt.ne(h:SAt S s l m as st):s≠l/\s≠m/\l≠m/\s∉as/\l∉as/\m∉as/\as.Nodup:=by
 have:=h.nd
 simp only[xD,uQ,AA3]at this
 obtain⟨⟨a,b,c⟩,⟨d,e⟩,f,g⟩:=this
 exact⟨a,b,d,c,e,f,g⟩
theorem SAt.Tn(h:SAt S s l m as st){i a:Nat}{y:Ld}(ha:as[i]?=Fk a):SAt (S.set a (Cp y)) s l m as {st with AE:=st.AE.set i y}:=by
 obtain⟨n1,n2,n3,n4,n5,n6,n7⟩:=h.ne
 have ma:=uh ha
 have q1:a≠s:=λe=>n4 (e▸ma)
 have q2:a≠l:=λe=>n5 (e▸ma)
 have q3:a≠m:=λe=>n6 (e▸ma)
 have hi:i<as.length:=(uU.mp ha).1
 have hi':i<st.AE.length:=by rw[<-h.len];exact hi
 refine⟨by rw[uS q1];exact h.root,by rw[uS q2];exact h.lo,by rw[uS q3];exact h.nu,?_,by simp[h.len],h.nd⟩
 intro j b x hb hx
 by_cases e:i=j
 .subst e
  rw[ha]at hb
  cases hb
  have hx':(st.AE.set i y)[i]?=Fk x:=hx
  rw[ua hi']at hx'
  cases hx'
  have hl:a<S.length:=Ae (h.ld i a _ ha (tz hi'))
  exact ua hl
 .have hx':(st.AE.set i y)[j]?=Fk x:=hx
  rw[uS e]at hx'
  have:a≠b:=by
   intro z
   subst z
   exact e ((ym hi n7).mp (ha.trans hb.symm))
  rw[uS this]
  exact h.ld j b x hb hx'
theorem SAt.lts(h:SAt S s l m as st):∀n∈s::l::m::as,n<S.length:=by
 intro n hn
 simp only[uQ]at hn
 rcases hn with rfl|rfl|rfl|hn
 .exact Ae h.root
 .exact Ae h.lo
 .exact Ae h.nu
 .obtain⟨i,hi⟩:=xO.mp hn
  have:i<st.AE.length:=by rw[<-h.len];exact(uU.mp hi).1
  exact Ae (h.ld i n _ hi (tz this))
theorem SAt.app(h:SAt S s l m as st)(y:Ld):SAt ((S++[Cp y]).set l (.lst (as.map D.ref++[.ref S.length]))) s l m (as++[S.length]) {st with AE:=st.AE++[y]}:=by
 obtain⟨n1,n2,n3,n4,n5,n6,n7⟩:=h.ne
 have lt:=h.lts
 have ls:=lt s (by simp);have ll:=lt l (by simp);have lm:=lt m (by simp)
 have la:∀a∈as,a<S.length:=λa ha=>lt a (by simp[ha])
 refine⟨?_,?_,?_,?_,by simp[h.len],?_⟩
 .rw[uS (wR n1),uP ls];exact h.root
 .rw[ua (by simp;lia)];simp
 .rw[uS n3,uP lm];exact h.nu
 .intro i a x ha hx
  by_cases e:i<as.length
  .rw[uP e]at ha
   have hx':(st.AE++[y])[i]?=Fk x:=hx
   rw[uP (by rw[<-h.len];exact e)]at hx'
   have ma:=uh ha
   rw[uS (show l≠a by rintro rfl;exact n5 ma),uP (la a ma)]
   exact h.ld i a x ha hx'
  .have hx':(st.AE++[y])[i]?=Fk x:=hx
   have:i=as.length:=by
    have:=(uU.mp ha).1
    simp at this;lia
   subst this
   rw[uj]at ha
   cases ha
   rw[h.len,uj]at hx'
   cases hx'
   rw[uS (by lia),uj]
 .have:(s::l::m::(as++[S.length]))=(s::l::m::as)++[S.length]:=by simp
  rw[this,yn]
  refine⟨h.nd,by simp,?_⟩
  intro a ha b hb e
  simp only[uQ,ug,vd]at hb
  have:=lt a ha
  lia
theorem SAt.hold(h:SAt S s l m as st)(rs:Gc Rat):SAt (S.set s (.lst [.ref l,shD rs,.ref m])) s l m as {st with hold:=rs}:=by
 obtain⟨n1,n2,n3,n4,n5,n6,n7⟩:=h.ne
 refine⟨ua (h.lts s (by simp)),by rw[uS n1];exact h.lo,by rw[uS n2];exact h.nu,?_,h.len,h.nd⟩
 intro i a x ha hx
 rw[uS (show s≠a by rintro rfl;exact n4 (uh ha))]
 exact h.ld i a x ha hx
theorem SAt.nums(h:SAt S s l m as st)(us:Gc Int):SAt (S.set m (.lst (us.map D.int))) s l m as {st with nums:=us}:=by
 obtain⟨n1,n2,n3,n4,n5,n6,n7⟩:=h.ne
 refine⟨by rw[uS (wR n2)];exact h.root,by rw[uS (wR n3)];exact h.lo,ua (h.lts m (by simp)),?_,h.len,h.nd⟩
 intro i a x ha hx
 rw[uS (show m≠a by rintro rfl;exact n6 (uh ha))]
 exact h.ld i a x ha hx
theorem SY{f:Ld->Ld}{body:Ex}{C:En}{i8:Nat}{o0:uL D}(h:SAt S s l m as st)(hi:C.length=i8)(hb:∀(S':Sto) (a:Nat) (x:Ld),x∈st.AE->S'[a]?=Fk (Cp x)->∃S2,body (C++[Fk (.ref a)]) S'=Fk (.nx,C++[Fk (.ref a)],S2.set a (Cp (f x)))/\Cj [] S' S2):∃o S',Nc [(l,as.map D.ref)] (tNm i8) body (as.map D.ref) (C++[o0]) S=Fk (.nx,C++[o],S')/\SAt S' s l m as {st with AE:=st.AE.map f}/\Cj as S S':=by
 obtain⟨E',S',e,i,o,i1,i2,rfl,i3,i4⟩:=EJ (gs:=[(l,as.map D.ref)]) (t:=tNm i8) (b:=body)
  (I:=λds E S'=>∃(i:Nat) (o:uL D),ds=(as.drop i).map D.ref/\i<=as.length/\E=C++[o]/\SAt S' s l m as {st with AE:=(st.AE.take i).map f++st.AE.drop i}/\Cj as S S')
  (λds E S' hI=>by obtain⟨i,o,_,_,_,h1,_⟩:=hI;exact h1.guard) (ds:=as.map D.ref) (E:=C++[o0]) (S:=S)
  ⟨0,o0,by simp,we _,rfl,by simpa using h,.refl⟩ (by
    rintro d ds E S1 ⟨i,o,i1,i2,rfl,i3,i4⟩
    have hlt:i<as.length:=by
     rcases xY i as.length with w|w
     .exact w
     .rw[vf w]at i1;cases i1
    rw[vG hlt,uv]at i1
    injection i1 with e1 e2
    subst e1 e2
    have hl2:i<st.AE.length:=by rw[<-h.len];exact hlt
    have ha:=tz hlt
    have hx:((st.AE.take i).map f++st.AE.drop i)[i]?=Fk st.AE[i]:=by
     rw[vQ (by simp;lia)]
     simp[Nat.min_eq_left (zI hl2)]
    obtain⟨S2,e3,g3⟩:=hb S1 as[i] st.AE[i] (wI hl2) (i3.ld i _ _ ha hx)
    have k:=(i3.Tu g3).Tn (y:=f st.AE[i]) ha
    refine⟨C++[Fk (.ref as[i])],C++[Fk (.ref as[i])],S2.set as[i] (Cp (f st.AE[i])),?_,e3,i+1,Fk (.ref as[i]),rfl,hlt,rfl,?_,?_⟩
    .rw[fA]
     congr 1
     subst hi
     rw[AAr _ _ (uV _)]
     simp
    .have:((st.AE.take i).map f++st.AE.drop i).set i (f st.AE[i])=(st.AE.take (i+1)).map f++st.AE.drop (i+1):=by
      rw[AAr _ _ (by simp;lia)]
      have e0:i-((st.AE.take i).map f).length=0:=by simp;lia
      rw[e0,vG hl2,List.set_cons_zero,List.take_succ_eq_append_getElem hl2,wg]
      simp
     rw[<-this]
     exact k
    .exact(i4.trans (g3.mono λ_ z=>(nomatch z))).trans (.set (wI hlt)))
 refine⟨o,S',e,?_,i4⟩
 have hz:i=as.length:=by
  have:=congrArg xp i1
  simp at this
  lia
 have:(st.AE.take i).map f++st.AE.drop i=st.AE.map f:=by
  rw[hz,h.len];simp
 rw[this]at i3
 exact i3
end
section
variable{S S':Sto}{s l m:Nat}{as:Gc Nat}{st:Stt}{t:Tr}{k:Nat}
theorem fm{i:Nat}{n:Int}{j:Nat}(hi:i<st.AE.length)(h:∀x∈st.AE,∀r∈x.ow,Sz j r):∀x∈less st.AE i n,∀r∈x.ow,Sz j r:=by
 intro x hx
 rcases Qe hx hi with h1|h1
 .exact h x h1
 .rw[h1];exact h (AU st.AE i) (A4 hi)
theorem Xt{i:Nat}{n:Int}{j:Nat}(hi:i<st.AE.length)(h:∀x∈st.AE,x.ow.length=j):∀x∈less st.AE i n,x.ow.length=j:=by
 intro x hx
 rcases Qe hx hi with h1|h1
 .exact h x h1
 .rw[h1];exact h (AU st.AE i) (A4 hi)
theorem au(hS:SAt S s l m as st)(ht:Jy t)(h:GB t k st)(hk:k<=16){i:Nat}{n:Int}{ws:Gc Int}(hc:Can t st (.thr i n ws)):∃S',G9 [t.d,.ref s,(Ab.thr i n ws).d] S=Fk (.non,S')/\SAt S' s l m as (step t st (.thr i n ws))/\Cj (s::l::m::as) S S':=by
 obtain⟨hi,h1,h2,hl,hw⟩:=hc
 have cO:=fD hS ht h (by lia) hl hw hi h1 h2
 have cz:=X0 ht h (by lia) hl hw hi h1 h2
 have sz:=h.sz
 obtain⟨a,a1,a2,a3⟩:=hS.at hi
 have hS1:=hS.Tn (y:=⟨(AU st.AE i).k,(AU st.AE i).n-n,(AU st.AE i).ow⟩) a1
 have o1:=sz.1 _ (A4 hi)
 have tp:=ht.2.1
 have hdef:step t st (.thr i n ws)={st with AE:=(less st.AE i n).map λx=>{x with ow:=Jp (KZ t st.AE i n ws) (AU st.AE i).ow x.ow},hold:=Jp (KZ t st.AE i n ws) (AU st.AE i).ow st.hold}:=rfl
 rw[hdef]
 generalize hX:KZ t st.AE i n ws=X at*
 obtain⟨o,S2,f1,f2,f3⟩:=SY (f:=λx=>{x with ow:=Jp X (AU st.AE i).ow x.ow}) (body:=P1 (AJ Fi [eOp (o2 wIx) [eV 8,eC (.int 2)],eV 6,eV 7]) (eV 8) (eC (.int 2))) (C:=[Fk t.d,Fk (.ref s),Fk (Ab.thr i n ws).d,Fk (.ref l),Fk (shD st.hold),Fk (.ref m),Fk (aD X),Fk (shD (AU st.AE i).ow)]) (i8:=8) (o0:=uK) hS1 rfl (by
  intro S' b x hx hb
  obtain⟨S2,e2,g2⟩:=Um (S:=S') (x:=X) (ss:=x.ow) (os:=(AU st.AE i).ow) (j:=30+170*k) (i:=145+k) (fm (n:=n) hi sz.1 x hx) o1 cz (by lia) (by rw[Xt (n:=n) hi h.own x hx];lia)
  have hb2:=g2.get hb (by simp)
  refine⟨S2,?_,g2⟩
  simp[BE hb,Cp,e2,AY hb2])
 obtain⟨S3,e3,g3⟩:=Um (S:=S2) (x:=X) (ss:=st.hold) (os:=(AU st.AE i).ow) (j:=30+170*k) (i:=145+k) sz.2 o1 cz (by lia) (by rw[h.hold];lia)
 have f4:=(f2.Tu g3)
 have rt:=f4.root
 refine⟨S3.set s (.lst [.ref l,shD (Jp X (AU st.AE i).ow st.hold),.ref m]),?_,f4.hold _,?_⟩
 .have f1':=f1
  simp only[vS,vH]at f1'
  have rt':Gb S3 s=Fk [.ref l,shD st.hold,.ref m]:=AY rt
  have r0:=AY hS.root
  have lo:=BE hS.lo
  have xx:=BE a2
  have c2:=AY a2
  have sq1:=HW hS1.lo
  simp only[Cp]at f1' sq1 c2 xx
  simp only[Ab.d]at f1' cO⊢
  simp[G9,MV,r0,cO,lo,a3,xx,c2,sq1,f1',e3,rt']
 .have q1:Cj (s::l::m::as) S (S.set a (Cp ⟨(AU st.AE i).k,(AU st.AE i).n-n,(AU st.AE i).ow⟩)):=.set (by simp[uh a1])
  exact((q1.trans (f3.mono λn hn=>by simp[hn])).trans (g3.mono λ_ z=>(nomatch z))).trans (.set (by simp))
theorem WX(hS:SAt S s l m as st)(ht:Jy t)(h:GB t k st)(hk:k<=16){p q:Nat}{x:Rat}(hc:Can t st (.Me p q x)):∃S',G9 [t.d,.ref s,(Ab.Me p q x).d] S=Fk (.non,S')/\SAt S' s l m as (step t st (.Me p q x))/\Cj (s::l::m::as) S S':=by
 obtain⟨hpq,hp,hq,x1,x2,x3⟩:=hc
 have sz:=h.sz
 have hx:Sz 4 x:=by
  refine⟨?_,by lia⟩
  show x.num.natAbs<16
  lia
 have hdef:step t st (.Me p q x)={st with AE:=st.AE.map λy=>{y with ow:=IT p q x y.ow},hold:=IT p q x st.hold}:=rfl
 rw[hdef]
 obtain⟨o,S2,f1,f2,f3⟩:=SY (f:=λy=>{y with ow:=IT p q x y.ow}) (body:=P1 (AJ HC [eOp (o2 wIx) [eV 8,eC (.int 2)],eV 2]) (eV 8) (eC (.int 2))) (C:=[Fk t.d,Fk (.ref s),Fk (Ab.Me p q x).d,Fk (.ref l),Fk (shD st.hold),Fk (.ref m),uK,uK]) (i8:=8) (o0:=uK) hS rfl (by
  intro S' b y hy hb
  obtain⟨S2,e2,g2⟩:=Ya (S:=S') (p:=p) (q:=q) (x:=x) (ss:=y.ow) (j:=30+170*k) (i:=4) (sz.1 y hy) hx (by lia) (by rw[h.own y hy];exact hp) (by rw[h.own y hy];exact hq) hpq
  have hb2:=g2.get hb (by simp)
  refine⟨S2,?_,g2⟩
  simp[BE hb,Cp,e2,AY hb2])
 obtain⟨S3,e3,g3⟩:=Ya (S:=S2) (p:=p) (q:=q) (x:=x) (ss:=st.hold) (j:=30+170*k) (i:=4) sz.2 hx (by lia) (by rw[h.hold];exact hp) (by rw[h.hold];exact hq) hpq
 have f4:=(f2.Tu g3)
 have rt:=f4.root
 refine⟨S3.set s (.lst [.ref l,shD (IT p q x st.hold),.ref m]),?_,f4.hold _,?_⟩
 .have f1':=f1
  simp only[vS,vH]at f1'
  have rt':Gb S3 s=Fk [.ref l,shD st.hold,.ref m]:=AY rt
  have r0:=AY hS.root
  have sq1:=HW hS.lo
  simp only[Ab.d]at f1' e3⊢
  simp[G9,MV,r0,sq1,f1',e3,rt']
 .exact((f3.mono λn hn=>by simp[hn]).trans (g3.mono λ_ z=>(nomatch z))).trans (.set (by simp))
end
section
variable{S S':Sto}{s l m:Nat}{as:Gc Nat}{st:Stt}{t:Tr}{k:Nat}
theorem T6{ls:Gc Ld}{l:Nat}{n:Int}:less ls l n=ls.set l ⟨(AU ls l).k,(AU ls l).n-n,(AU ls l).ow⟩:=rfl
theorem Ue{P p:Nat}{cond:Int}{C:En}{dd:D}{f:Ev}(hP:P<=50)(hf:∀(i:Nat),f [Fk dd,Fk (.int i)] S=Fk (aD (if i=p then 1 else 0),S)):C8 [] (tNm 1) Cr f (KH 0 P) [] [Fk dd,uK] S=Fk ((WE P p).map aD,S):=by
 have:=Ea (gs:=[]) (t:=tNm 1) (f:=f) (C:=[Fk dd]) (m:=1) (e:=λi:Nat=>D.int (0+(i:Int))) (g:=λi=>aD (if i=p then 1 else 0)) (S:=S) Aw (xs:=uc P) (acc:=[]) (os:=[uK]) rfl (uW (show _<=50 by simp;lia) (AN (by decide))) (by
  intro i _ os ho
  obtain⟨o,rfl⟩:=YZ ho
  refine⟨[Fk (.int i)],rfl,by simp,hf i⟩)
 simp only[vS,vH]at this
 rw[WE,vh]
 exact this
theorem Z3(hS:SAt S s l m as st)(ht:Jy t)(h:GB t k st)(hk:k<=16){p kd:Nat}{n:Int}(hc:Can t st (.Ip p kd n)):∃S' as',BI [t.d,.ref s,(Ab.Ip p kd n).d] S=Fk (.non,S')/\SAt S' s l m as' (step t st (.Ip p kd n))/\Cj (s::l::m::as) S S'/\∀n∈as',n∈as\/S.length<=n:=by
 have tp:=ht.2.1
 have e:=Ue (S:=S) (P:=t.p) (p:=p) (cond:=0) (C:=[]) (dd:=(Ab.Ip p kd n).d) (f:=Cm [eOp (o1 Zz) [eOp (o2 wEq) [eV 1,eOp (o2 wIx) [eV 0,eC (.int 1)]]],eC (.int 1)]) (by lia) (by
  intro i
  by_cases hi:i=p
  .subst hi;simp[Ab.d];rfl
  .have:((i:Int)==(p:Int))=false:=by simp;lia
   simp[Ab.d,this,hi];rfl)
 have rn:Jq (t.p:Int)=true:=DZ (by lia) (by lia)
 have hz:as.length<sizeLine:=uO (show as.length<50 by rw[hS.len];have:=h.len;lia) (AN (by decide))
 refine⟨_,_,?_,hS.app ⟨kd,n,WE t.p p⟩,?_,?_⟩
 .have r0:=AY hS.root
  have c0:=AY hS.lo
  have c1:Gb (S++[Cp ⟨kd,n,WE t.p p⟩]) l=Fk (as.map D.ref):=AY (by rw[uP (Ae hS.lo)];exact hS.lo)
  simp only[Cp]at c1⊢
  simp only[Ab.d]at e⊢
  simp[BI,IJ,r0,Tr.d,rn,e,c0,shD]at c1⊢
  simp[c1,hz]
 .exact Cj.app.trans (.set (by simp))
 .intro n hn
  rcases uk.mp hn with w|w
  .exact .inl w
  .simp at w;exact .inr (by lia)
theorem Zg(hS:SAt S s l m as st)(ht:Jy t)(h:GB t k st)(hk:k<=16){i:Nat}{n:Int}(hc:Can t st (.Jr i n)):∃S' as',BI [t.d,.ref s,(Ab.Jr i n).d] S=Fk (.non,S')/\SAt S' s l m as' (step t st (.Jr i n))/\Cj (s::l::m::as) S S'/\∀n∈as',n∈as\/S.length<=n:=by
 obtain⟨hi,h1,h2⟩:=hc
 obtain⟨a,a1,a2,a3⟩:=hS.at hi
 refine⟨_,as,?_,hS.Tn (y:=⟨(AU st.AE i).k,(AU st.AE i).n-n,(AU st.AE i).ow⟩) a1,.set (by simp[uh a1]),λn hn=>.inl hn⟩
 have r0:=AY hS.root
 have lo:=BE hS.lo
 have xx:=BE a2
 have c2:=AY a2
 simp only[Cp]at c2 xx⊢
 simp[BI,IJ,Ab.d,r0,lo,a3,xx,c2]
theorem jL(hS:SAt S s l m as st)(ht:Jy t)(h:GB t k st)(hk:k<=16){i:Nat}{n:Int}{ws:Gc Int}(hc:Can t st (.thr i n ws)):∃S' as',BI [t.d,.ref s,(Ab.thr i n ws).d] S=Fk (.non,S')/\SAt S' s l m as' (step t st (.thr i n ws))/\Cj (s::l::m::as) S S'/\∀n∈as',n∈as\/S.length<=n:=by
 obtain⟨S',e,g1,g2⟩:=au hS ht h hk hc
 refine⟨S',as,?_,g1,g2,λn hn=>.inl hn⟩
 have r0:=AY hS.root
 simp only[Ab.d]at e⊢
 simp[BI,IJ,r0,e]
theorem dm(hS:SAt S s l m as st)(ht:Jy t)(h:GB t k st)(hk:k<=16){p q:Nat}{x:Rat}(hc:Can t st (.Me p q x)):∃S' as',BI [t.d,.ref s,(Ab.Me p q x).d] S=Fk (.non,S')/\SAt S' s l m as' (step t st (.Me p q x))/\Cj (s::l::m::as) S S'/\∀n∈as',n∈as\/S.length<=n:=by
 obtain⟨S',e,g1,g2⟩:=WX hS ht h hk hc
 refine⟨S',as,?_,g1,g2,λn hn=>.inl hn⟩
 have r0:=AY hS.root
 simp only[Ab.d]at e⊢
 simp[BI,IJ,r0,e]
theorem gI(hS:SAt S s l m as st)(ht:Jy t)(h:GB t k st)(hk:k<=16){i kd:Nat}{g n:Int}(hc:Can t st (.swap i g kd n)):∃S' as',BI [t.d,.ref s,(Ab.swap i g kd n).d] S=Fk (.non,S')/\SAt S' s l m as' (step t st (.swap i g kd n))/\Cj (s::l::m::as) S S'/\∀n∈as',n∈as\/S.length<=n:=by
 obtain⟨hi,h1,h2,h3,h4,h5,h6⟩:=hc
 obtain⟨a,a1,a2,a3⟩:=hS.at hi
 have hS1:=hS.Tn (y:=⟨(AU st.AE i).k,(AU st.AE i).n-g,(AU st.AE i).ow⟩) a1
 have hS2:=hS1.app ⟨kd,n,(AU st.AE i).ow⟩
 have hz:as.length<sizeLine:=uO (show as.length<50 by rw[hS.len];have:=h.len;lia) (AN (by decide))
 have hz2:st.nums.length<=sizeLine:=uW (show _<=20 by have:=h.nm;lia) (AN (by decide))
 refine⟨_,_,?_,hS2,?_,?_⟩
 .have r0:=AY hS.root
  have lo:=BE hS.lo
  have xx:=BE a2
  have c2:=AY a2
  have lo1:=BE hS1.lo
  have co1:=AY hS1.lo
  have x1:=BE (ua (a:=Cp ⟨(AU st.AE i).k,(AU st.AE i).n-g,(AU st.AE i).ow⟩) (Ae a2))
  have c4:Gb ((S.set a (Cp ⟨(AU st.AE i).k,(AU st.AE i).n-g,(AU st.AE i).ow⟩))++[Cp ⟨kd,n,(AU st.AE i).ow⟩]) l=Fk (as.map D.ref):=AY (by rw[uP (Ae hS1.lo)];exact hS1.lo)
  have nu:=hS2.nu
  have c5:=AY nu
  have st5:∀{T:Sto},T[m]?=Fk (.lst (st.nums.map D.int))->T.set m (.lst (st.nums.map D.int))=T:=λh=>set_same h
  have st6:=st5 nu
  simp only[Cp]at c2 xx lo1 co1 x1 c4 c5 st6⊢
  have hz':(as.map D.ref).length<sizeLine:=by simpa using hz
  generalize (as.map D.ref)=refs at*
  simp[BI,IJ,Ab.d,r0,lo,a3,xx,c2,lo1,x1,co1]at c4 c5 st6⊢
  simp[c4,hz',c5,hz2,st6]
 .exact((Cj.set (by simp[uh a1])).trans .app).trans (.set (by simp))
 .intro n hn
  rcases uk.mp hn with w|w
  .exact .inl w
  .simp at w;exact .inr (by lia)
theorem Z8(hS:SAt S s l m as st)(ht:Jy t)(h:GB t k st)(hk:k<=16){i kd:Nat}{u g n:Int}(hc:Can t st (.Hw u i g kd n)):∃S' as',BI [t.d,.ref s,(Ab.Hw u i g kd n).d] S=Fk (.non,S')/\SAt S' s l m as' (step t st (.Hw u i g kd n))/\Cj (s::l::m::as) S S'/\∀n∈as',n∈as\/S.length<=n:=by
 obtain⟨hi,h1,h2,h3,h4,h5,h6,h7,h8⟩:=hc
 obtain⟨a,a1,a2,a3⟩:=hS.at hi
 have hS1:=hS.Tn (y:=⟨(AU st.AE i).k,(AU st.AE i).n-g,(AU st.AE i).ow⟩) a1
 have hS2:=hS1.app ⟨kd,n,(AU st.AE i).ow⟩
 have hz:as.length<sizeLine:=uO (show as.length<50 by rw[hS.len];have:=h.len;lia) (AN (by decide))
 have hz2:st.nums.length+1<=sizeLine:=uW (show _<=20 by have:=h.nm;lia) (AN (by decide))
 refine⟨_,_,?_,hS2.nums (st.nums++[u]),?_,?_⟩
 .have r0:=AY hS.root
  have lo:=BE hS.lo
  have xx:=BE a2
  have c2:=AY a2
  have lo1:=BE hS1.lo
  have co1:=AY hS1.lo
  have x1:=BE (ua (a:=Cp ⟨(AU st.AE i).k,(AU st.AE i).n-g,(AU st.AE i).ow⟩) (Ae a2))
  have c4:Gb ((S.set a (Cp ⟨(AU st.AE i).k,(AU st.AE i).n-g,(AU st.AE i).ow⟩))++[Cp ⟨kd,n,(AU st.AE i).ow⟩]) l=Fk (as.map D.ref):=AY (by rw[uP (Ae hS1.lo)];exact hS1.lo)
  have nu:=hS2.nu
  have c5:=AY nu
  simp only[Cp]at c2 xx lo1 co1 x1 c4 c5⊢
  have hz':(as.map D.ref).length<sizeLine:=by simpa using hz
  generalize (as.map D.ref)=refs at*
  simp[BI,IJ,Ab.d,r0,lo,a3,xx,c2,lo1,x1,co1]at c4 c5⊢
  simp[c4,hz',c5,hz2]
 .exact(((Cj.set (by simp[uh a1])).trans .app).trans (.set (by simp))).trans (.set (by simp))
 .intro n hn
  rcases uk.mp hn with w|w
  .exact .inl w
  .simp at w;exact .inr (by lia)
theorem gY(hS:SAt S s l m as st)(ht:Jy t)(h:GB t k st)(hk:k<=16){i j:Nat}(hc:Can t st (.LC i j)):∃S' as',BI [t.d,.ref s,(Ab.LC i j).d] S=Fk (.non,S')/\SAt S' s l m as' (step t st (.LC i j))/\Cj (s::l::m::as) S S'/\∀n∈as',n∈as\/S.length<=n:=by
 obtain⟨hij,hi,hj,h1,h2,h3⟩:=hc
 obtain⟨a,a1,a2,a3⟩:=hS.at hi
 obtain⟨b,b1,b2,b3⟩:=hS.at hj
 have sz:=h.sz
 have pi:=h.pcs _ (A4 hi)
 have pj:=h.pcs _ (A4 hj)
 obtain⟨S1,e1,g1⟩:=XS (S:=S) (x:=AU st.AE i) (y:=AU st.AE j) (j:=30+170*k) (i:=131+k) a2 b2 (sz.1 _ (A4 hi)) (sz.1 _ (A4 hj)) (IS pi.1 pi.2) (IS pj.1 pj.2) (by lia) (by lia) (by lia) (by rw[h.own _ (A4 hi)];have:=ht.2.1;lia)
 have hS1:=hS.Tu g1
 have hab:a≠b:=by
  rintro rfl
  exact hij ((ym (uU.mp a1).1 hS.ne.2.2.2.2.2.2).mp (a1.trans b1.symm))
 have hS2:=hS1.app ⟨(AU st.AE i).k,(AU st.AE i).n+(AU st.AE j).n,DF (AU st.AE i).n (AU st.AE j).n (AU st.AE i).ow (AU st.AE j).ow⟩
 have ai:i<as.length:=(uU.mp a1).1
 have bj:j<as.length:=(uU.mp b1).1
 have a1':(as++[S1.length])[i]?=Fk a:=by rw[uP ai];exact a1
 have b1':(as++[S1.length])[j]?=Fk b:=by rw[uP bj];exact b1
 have hS3:=hS2.Tn (y:=⟨(AU st.AE i).k,0,(AU st.AE i).ow⟩) a1'
 have hS4:=hS3.Tn (y:=⟨(AU st.AE j).k,0,(AU st.AE j).ow⟩) b1'
 have hz:as.length<sizeLine:=uO (show as.length<50 by rw[hS.len];have:=h.len;lia) (AN (by decide))
 have est:step t st (.LC i j)={st with AE:=((st.AE++[Ld.mk (AU st.AE i).k ((AU st.AE i).n+(AU st.AE j).n) (DF (AU st.AE i).n (AU st.AE j).n (AU st.AE i).ow (AU st.AE j).ow)]).set i ⟨(AU st.AE i).k,0,(AU st.AE i).ow⟩).set j ⟨(AU st.AE j).k,0,(AU st.AE j).ow⟩}:=by
  have e0:AU (less st.AE i (AU st.AE i).n) j=AU st.AE j:=by
   unfold AU less
   rw[uT,uS hij,<-uT]
  have e1:less st.AE i (AU st.AE i).n=st.AE.set i ⟨(AU st.AE i).k,0,(AU st.AE i).ow⟩:=by
   unfold less
   rw[Int.sub_self]
  have e2:less (less st.AE i (AU st.AE i).n) j (AU st.AE j).n=(st.AE.set i ⟨(AU st.AE i).k,0,(AU st.AE i).ow⟩).set j ⟨(AU st.AE j).k,0,(AU st.AE j).ow⟩:=by
   rw[T6 (ls:=less st.AE i (AU st.AE i).n),e0,Int.sub_self,e1]
  show{st with AE:=less (less st.AE i (AU st.AE i).n) j (AU st.AE j).n++_}=_
  rw[e2,ABB _ _ hi,ABB _ _ (by simpa using hj)]
 refine⟨_,_,?_,est▸hS4,?_,?_⟩
 .have r0:=AY hS.root
  have lo:=BE hS.lo
  have c0:=AY hS.lo
  have xa:=BE a2
  have xb:=BE b2
  have c1:=AY hS1.lo
  have c4:Gb (S1++[Cp ⟨(AU st.AE i).k,(AU st.AE i).n+(AU st.AE j).n,DF (AU st.AE i).n (AU st.AE j).n (AU st.AE i).ow (AU st.AE j).ow⟩]) l=Fk (as.map D.ref):=AY (by rw[uP (Ae hS1.lo)];exact hS1.lo)
  have c5:=AY (hS2.ld i a (AU st.AE i) a1' (by show(st.AE++_)[i]?=_;rw[uP hi];exact G4 hi))
  have c6:=AY (hS3.ld j b (AU st.AE j) b1' (by show((st.AE++_).set i _)[j]?=_;rw[uS hij,uP hj];exact G4 hj))
  simp only[Cp]at xa xb c4 c5 c6⊢
  have hz':(as.map D.ref).length<sizeLine:=by simpa using hz
  generalize (as.map D.ref)=refs at*
  generalize DF (AU st.AE i).n (AU st.AE j).n (AU st.AE i).ow (AU st.AE j).ow=pr at*
  simp[BI,IJ,Ab.d,r0,lo,a3,b3,xa,xb,c0,e1]at c4 c5 c6⊢
  simp[c4,hz',c5,c6]
 .exact(((g1.mono λ_ z=>(nomatch z)).trans .app).trans (.set (by simp))).trans ((Cj.set (by simp[uh a1])).trans (.set (by simp[uh b1])))
 .intro n hn
  rcases uk.mp hn with w|w
  .exact .inl w
  .simp at w;subst w;exact .inr g1.len
theorem aF(hS:SAt S s l m as st)(ht:Jy t)(h:GB t k st)(hk:k<=16){d:Ab}(hc:Can t st d):∃S' as',BI [t.d,.ref s,d.d] S=Fk (.non,S')/\SAt S' s l m as' (step t st d)/\Cj (s::l::m::as) S S'/\∀n∈as',n∈as\/S.length<=n:=by
 cases d with
 |Ip=>exact Z3 hS ht h hk hc
 |LC=>exact gY hS ht h hk hc
 |swap=>exact gI hS ht h hk hc
 |Hw=>exact Z8 hS ht h hk hc
 |Jr=>exact Zg hS ht h hk hc
 |thr=>exact jL hS ht h hk hc
 |Me=>exact dm hS ht h hk hc
end
section
variable{st:Stt}{t:Tr}{k:Nat}
theorem Ke{a b:Nat}(h:a<=b):2^a<=2^b:=uz (by decide) h
theorem OE{a b:Nat}(h:a<=b):(2:Int)^a<=2^b:=by
 have:=Ke h
 exact_mod_cast this
theorem KN{c:Int}(h:0<=c):((c.toNat:Nat):Rat)=(c:Rat):=by
 have:((c.toNat:Nat):Int)=c:=vX h
 have:(((c.toNat:Nat):Int):Rat)=(c:Rat):=by rw[this]
 exact this
theorem XT{B T k j:Nat}(hB:B<2^(30+170*k))(hT:T<2^j)(hj:j<=170):B*T<2^(30+170*(k+1)):=by
 have:=Cz hB hT
 exact uO this (Ke (by lia))
theorem cK{G B P p:Nat}(h:G<=B):∀r∈WE P p,Ok G B r:=by
 intro r hr
 obtain⟨i,_,rfl⟩:=ux.mp hr
 split
 .exact Ok.one h
 .exact Ok.zero
theorem R3{G B:Nat}{n m:Int}{ss os:Gc Rat}(hn:0<n)(hm:0<m)(hs:∀r∈ss,Ok G B r)(ho:∀r∈os,Ok G B r):∀r∈DF n m ss os,Ok (G*(n+m).toNat) (B*(n+m).toNat) r:=by
 intro r hr
 unfold DF at hr
 rw[xO]at hr
 obtain⟨i,hi'⟩:=hr
 rw[zB]at hi'
 obtain⟨x,y,hx,hy,rfl⟩:=hi'
 have:=Ok.mix (a:=n.toNat) (b:=m.toNat) (t:=(n+m).toNat) (hs x (uh hx)) (ho y (uh hy)) (by lia) (by lia)
 rwa [KN (by lia),KN (by lia),KN (by lia)]at this
theorem Q7{G B p q:Nat}{x:Rat}{ss:Gc Rat}(hp:p<ss.length)(hq:q<ss.length)(x1:0<x.num)(x2:x.num<=x.den)(hs:∀r∈ss,Ok G B r):∀r∈IT p q x ss,Ok (G*x.den) (2*B*x.den) r:=by
 have dp:=x.den_pos
 have hsp:=hs _ (getD_mem (d:=0) hp)
 have hsq:=hs _ (getD_mem (d:=0) hq)
 have xs:=FZ x
 have ex:(x.num:Rat)=((x.num.toNat:Nat):Rat):=(KN (by lia)).symm
 have nz:=LG x
 intro r hr
 unfold IT at hr
 rcases xR hr with hr|hr
 .rcases xR hr with hr|hr
  .exact(hs r hr).up (by rw[y7];lia)
  .rw[hr]
   obtain⟨z,e,hz⟩:=Ok.mix (a:=x.den-x.num.toNat) (b:=x.num.toNat) (t:=x.den) hsp (Ok.zero (G:=G) (B:=B)) (by lia) dp
   refine⟨z,?_,uW hz (by rw[y7];lia)⟩
   rw[<-e]
   have e2:((x.den-x.num.toNat:Nat):Rat)=(x.den:Rat)-(x.num:Rat):=by
    have:(((x.den-x.num.toNat:Nat):Int):Rat)=((x.den-x.num:Int):Rat):=by
     congr 1;lia
    push_cast at this
    exact this
   rw[e2]
   generalize ss.getD p 0=sp at*
   congr 1
   grind
 .rw[hr]
  obtain⟨z,e1,hz⟩:=hsp
  obtain⟨y,e2,hy⟩:=hsq
  refine⟨y*x.den+z*x.num.toNat,?_,?_⟩
  .generalize ss.getD p 0=sp at*
   generalize ss.getD q 0=sq at*
   push_cast
   rw[<-ex,<-e1,<-e2]
   grind
  .have h1:y*x.den<=B*x.den:=vI _ hy
   have h2:z*x.num.toNat<=B*x.den:=zl hz (by lia)
   rw[y7];lia
theorem Fq{f:Rat->Rat->Rat}{a b:Gc Rat}{n:Nat}(h:a.length=n)(g:b.length=n):(zO f a b).length=n:=by rw[List.length_zipWith,h,g];lia
theorem EY{P:Ld->Prop}{i:Nat}{n:Int}(hi:i<st.AE.length)(h:∀x∈st.AE,P x)(g:P ⟨(AU st.AE i).k,(AU st.AE i).n-n,(AU st.AE i).ow⟩):∀x∈less st.AE i n,P x:=by
 intro x hx
 rcases Qe hx hi with h1|h1
 .exact h x h1
 .rw[h1];exact g
theorem KU{P:Ld->Prop}{ls:Gc Ld}{y:Ld}(h:∀x∈ls,P x)(g:P y):∀x∈ls++[y],P x:=by
 intro x hx
 rcases uk.mp hx with w|w
 .exact h x w
 .simp at w;rw[w];exact g
structure LOk(t:Tr)(k G B:Nat)(x:Ld):Prop where
 kd:x.k<t.k
 n0:0<=x.n
 n1:x.n<2^(131+k)
 own:x.ow.length=t.p
 ok:∀r∈x.ow,Ok G B r
theorem LOk.up{G B T B':Nat}{x:Ld}(h:LOk t k G B x)(hT:B*T<=B'):LOk t (k+1) (G*T) B' x:=⟨h.kd,h.n0,zo h.n1 (OE (by lia)),h.own,λr hr=>(h.ok r hr).up hT⟩
theorem LOk.up1{G B:Nat}{x:Ld}(h:LOk t k G B x):LOk t (k+1) G B x:=⟨h.kd,h.n0,zo h.n1 (OE (by lia)),h.own,h.ok⟩
theorem LOk.less{G B:Nat}{x:Ld}{n:Int}(h:LOk t k G B x)(h0:0<=n)(h1:n<=x.n):LOk t k G B ⟨x.k,x.n-n,x.ow⟩:=⟨h.kd,show 0<=x.n-n by lia,show x.n-n<_ by have:=h.n1;lia,h.own,h.ok⟩
theorem GB.of{G B:Nat}(h1:st.AE.length<=4+k)(h2:∀x∈st.AE,LOk t k G B x)(h3:st.hold.length=t.p)(h4:st.nums.length<=k)(g0:0<G)(g1:G<=B)(g2:B<2^(30+170*k))(h5:∀r∈st.hold,Ok G B r):GB t k st:=⟨h1,λx hx=>(h2 x hx).kd,λx hx=>⟨(h2 x hx).n0,(h2 x hx).n1⟩,λx hx=>(h2 x hx).own,h3,h4,G,B,g0,g1,g2,λx hx=>(h2 x hx).ok,h5⟩
theorem gD{n:Int}(h:n<2^131):n<2^(131+k):=zo h (OE (by lia))
theorem Uu(ht:Jy t)(h:GB t k st)(hk:k<=16){d:Ab}(hc:Can t st d):GB t (k+1) (step t st d):=by
 obtain⟨G,B,g0,g1,g2,hl,hh⟩:=h.gb
 have L:∀x∈st.AE,LOk t k G B x:=λx hx=>⟨h.kind x hx,(h.pcs x hx).1,(h.pcs x hx).2,h.own x hx,hl x hx⟩
 have g2':B<2^(30+170*(k+1)):=uO g2 (Ke (by lia))
 have hlen:=h.len
 have hnm:=h.nm
 cases d with
 |Ip p kd n=>
  obtain⟨h1,h2,h3,h4⟩:=hc
  refine GB.of (G:=G) (B:=B) (by simp[step];lia) (KU (λx hx=>(L x hx).up1) ⟨h2,by show 0<=n;lia,gD h4,by simp[WE],cK g1⟩) h.hold (vk hnm) g0 g1 g2' hh
 |LC i j=>
  obtain⟨hij,hi,hj,h1,h2,h3⟩:=hc
  have li:=L _ (A4 hi)
  have lj:=L _ (A4 hj)
  have tl:((AU st.AE i).n+(AU st.AE j).n).toNat<2^(132+k):=by
   have a:=li.n1;have b:=lj.n1
   have e:(2:Int)^(132+k)=2^(131+k)*2:=by rw[show 132+k=(131+k)+1 by lia,AAd]
   have:(((AU st.AE i).n+(AU st.AE j).n).toNat:Int)<((2^(132+k):Nat):Int):=by
    rw[vX (by lia)]
    push_cast
    rw[e];lia
   exact_mod_cast this
  have t0:0<((AU st.AE i).n+(AU st.AE j).n).toNat:=by lia
  refine GB.of (G:=G*((AU st.AE i).n+(AU st.AE j).n).toNat) (B:=B*((AU st.AE i).n+(AU st.AE j).n).toNat) (by simp[step,Ca];lia) (KU ?_ ⟨li.kd,by show 0<=(AU st.AE i).n+(AU st.AE j).n;lia,?_,?_,R3 h1 h2 li.ok lj.ok⟩) h.hold (vk hnm) (yH g0 t0) (vI _ g1) (XT g2 tl (by lia)) (λr hr=>(hh r hr).up (uV _))
  .have e0:AU (less st.AE i (AU st.AE i).n) j=AU st.AE j:=by
    unfold AU less
    rw[uT,uS hij,<-uT]
   have A:=EY (P:=LOk t (k+1) (G*((AU st.AE i).n+(AU st.AE j).n).toNat) (B*((AU st.AE i).n+(AU st.AE j).n).toNat)) (n:=(AU st.AE i).n) hi (λx hx=>(L x hx).up (uV _)) ((li.up (uV _)).less (by lia) (zy _))
   have A2:=EY (st:={st with AE:=less st.AE i (AU st.AE i).n}) (i:=j) (n:=(AU st.AE j).n) (by simpa[Ca]using hj) A (by
    show LOk _ _ _ _ ⟨(AU (less st.AE i (AU st.AE i).n) j).k,(AU (less st.AE i (AU st.AE i).n) j).n-_,(AU (less st.AE i (AU st.AE i).n) j).ow⟩
    rw[e0]
    exact(lj.up (uV _)).less (by lia) (zy _))
   exact A2
  .show(AU st.AE i).n+(AU st.AE j).n<2^(131+(k+1))
   have a:=li.n1;have b:=lj.n1
   rw[show 131+(k+1)=(131+k)+1 by lia,AAd];lia
  .exact Fq li.own lj.own
 |swap i g kd n=>
  obtain⟨hi,h1,h2,h3,h4,h5,h6⟩:=hc
  have li:=L _ (A4 hi)
  refine GB.of (G:=G) (B:=B) (by simp[step,Ca];lia) (KU (EY hi (λx hx=>(L x hx).up1) (li.up1.less (by lia) h2)) ⟨h3,by show 0<=n;lia,gD h6,li.own,li.ok⟩) h.hold (vk hnm) g0 g1 g2' hh
 |Hw u i g kd n=>
  obtain⟨hi,h1,h2,h3,h4,h5,h6,h7⟩:=hc
  have li:=L _ (A4 hi)
  refine GB.of (G:=G) (B:=B) (by simp[step,Ca];lia) (KU (EY hi (λx hx=>(L x hx).up1) (li.up1.less (by lia) h2)) ⟨h3,by show 0<=n;lia,gD h6,li.own,li.ok⟩) h.hold (by simp[step];lia) g0 g1 g2' hh
 |Jr i n=>
  obtain⟨hi,h1,h2⟩:=hc
  have li:=L _ (A4 hi)
  refine GB.of (G:=G) (B:=B) (by simp[step,Ca];lia) (EY hi (λx hx=>(L x hx).up1) (li.up1.less (by lia) h2)) h.hold (vk hnm) g0 g1 g2' hh
 |thr i n ws=>
  obtain⟨hi,h1,h2,h3,h4⟩:=hc
  have li:=L _ (A4 hi)
  have W:=Kv ht h (by lia) h3 h4
  have wl:(EH t st.AE ws).toNat<2^(145+k):=by
   have:((EH t st.AE ws).toNat:Int)<((2^(145+k):Nat):Int):=by
    rw[vX (by lia)];push_cast;exact W.2
   exact_mod_cast this
  have bo:=λ{ss:Gc Rat} (hs:∀r∈ss,Ok G B r)=>R0 ht h (by lia) h3 h4 hi h1 h2 li.ok hs
  refine GB.of (G:=G*(EH t st.AE ws).toNat) (B:=B*(EH t st.AE ws).toNat) (by simp[step,Ca];lia) ?_ (Fq h.hold li.own) (vk hnm) (yH g0 (by lia)) (vI _ g1) (XT g2 wl (by lia)) (bo hh)
  intro x hx
  obtain⟨y,hy,rfl⟩:=ux.mp hx
  have ly:=EY (P:=LOk t k G B) hi L (li.less (n:=n) (by lia) h2) y hy
  exact⟨ly.kd,ly.n0,ly.up1.n1,Fq ly.own li.own,bo ly.ok⟩
 |Me p q x=>
  obtain⟨h1,h2,h3,h4,h5,h6⟩:=hc
  have dp:=x.den_pos
  refine GB.of (G:=G*x.den) (B:=2*B*x.den) (by simp[step];lia) ?_ (by simp[step,IT,h.hold]) (vk hnm) (yH g0 dp) (vI _ (by lia)) ?_ (Q7 (by rw[h.hold];exact h2) (by rw[h.hold];exact h3) h4 h5 hh)
  .intro y hy
   obtain⟨z,hz,rfl⟩:=ux.mp hy
   have lz:=L z hz
   exact⟨lz.kd,lz.n0,lz.up1.n1,by simp[IT,lz.own],Q7 (by rw[lz.own];exact h2) (by rw[lz.own];exact h3) h4 h5 lz.ok⟩
  .have:=XT (B:=B) (T:=2*x.den) (j:=5) g2 (by lia) (by lia)
   rw[show 2*B*x.den=B*(2*x.den) by rw[<-y7,xW 2 B]]
   exact this
end
theorem Lg{α:Type}{f:α->D}:∀{xs:Gc α},(∀x∈xs,(f x).lay=true)->D.QP (xs.map f)=true
 | [],_=>rfl
 |x::xs,h=>by
  show((f x).lay && D.QP (xs.map f))=true
  rw[h x uX,Lg λy hy=>h y (uR _ hy)]
  rfl
theorem af{ds:Gc D}(h:D.QP ds=true):EE (.lst ds) (.lst [])=true:=by
 unfold EE
 show(D.QP ds && true && _)=true
 rw[h]
 simp only[Bool.true_and,xZ]
 exact uW (Nat.min_le_right _ _) (by decide)
noncomputable def Hv(is:Gc Nat):Gc D:=is.map λ(i:Nat)=>D.int i
theorem L7{is:Gc Nat}:EE (.lst (Hv is)) (.lst [])=true:=af (Lg λ_ _=>rfl)
theorem aE{d:D}{ds:Gc D}:deq (.lst (d::ds)) (.lst [])=false:=rfl
theorem gj:deq (.lst []) (.lst [])=true:=rfl
theorem Ng{is:Gc Nat}:deq (.lst (Hv is)) (.lst [])=is.isEmpty:=by
 cases is with
 |nil=>exact gj
 |cons i is=>exact aE
theorem MK{ds:Gc D}:RX 0 ds=(uc ds.length).map λ(i:Nat)=>D.tup [.int i,ds.getD i .non]:=by
 apply zx
 intro i
 rw[Na,uY]
 by_cases h:i<ds.length
 .rw[tz h,yO h]
  simp[tz h]
 .rw[AAs (by lia),AAs (by simp;lia)]
  rfl
theorem KG{is:Gc Nat}:(Hv is).length=is.length:=by simp[Hv]
theorem Li{is:Gc Nat}{r:Int}(h0:0<=r)(h1:r<is.length):∃i∈is,atI (Hv is) r=Fk (.int (i:Nat)):=by
 have h2:r.toNat<is.length:=by lia
 refine⟨is[r.toNat],wI h2,?_⟩
 have:=dQ (xs:=Hv is) h0 (by rw[KG];exact h1)
 rw[this]
 simp[Hv]
theorem WW{x K:Int}(h0:0<=x)(h1:x<2*K):x % K=if x<K then x else x-K:=by
 split
 .exact Int.emod_eq_of_lt h0 (by assumption)
 .have:x % K=(x-K) % K:=by rw[Int.sub_emod_right]
  rw[this]
  exact Int.emod_eq_of_lt (by lia) (by lia)
section
variable{S:Sto}{p s l m:Nat}{as:Gc Nat}{st:Stt}{t:Tr}{k:Nat}
noncomputable def B3(st:Stt):Gc Nat:=(uc st.AE.length).filter λi=>decide (0<(AU st.AE i).n)
theorem Wq(hS:SAt S s l m as st)(hl:st.AE.length<=50):C8 [(l,as.map D.ref)] (tTp [tNm 0,tNm 1]) (eOp (o2 wGt) [eOp (o2 wIx) [eV 1,eC (.int 1)],eC (.int 0)]) (eV 0) (RX 0 (as.map D.ref)) [] [uK,uK] S=Fk (Hv (B3 st),S):=by
 have:=Hm (gs:=[(l,as.map D.ref)]) (t:=tTp [tNm 0,tNm 1]) (c:=eOp (o2 wGt) [eOp (o2 wIx) [eV 1,eC (.int 1)],eC (.int 0)]) (f:=eV 0) (C:=[]) (m:=2) (e:=λi:Nat=>D.tup [.int i,(as.map D.ref).getD i .non]) (g:=λi:Nat=>D.int i) (b:=λi=>decide (0<(AU st.AE i).n)) (S:=S) hS.guard (xs:=uc st.AE.length) (acc:=[]) (os:=[uK,uK]) rfl (uW (show _<=50 by simp;lia) (AN (by decide))) (by
  intro i hi os ho
  obtain⟨o1,o2,rfl⟩:=iE ho
  obtain⟨a,a1,a2,a3⟩:=hS.at (zR.mp hi)
  have e:(as.map D.ref).getD i .non=.ref a:=by simp[a1]
  rw[e]
  refine⟨[Fk (.int i),Fk (.ref a)],rfl,by simp,?_,by simp⟩
  simp[BE a2,Cp])
 rw[MK,vT,hS.len]
 exact this
theorem Lf{i:Nat}(h:i∈B3 st):i<st.AE.length/\0<(AU st.AE i).n:=by
 unfold B3 at h
 rw[xC]at h
 exact⟨zR.mp h.1,by simpa using h.2⟩
noncomputable def Gx(st:Stt)(j:Nat):Gc Nat:=(B3 st).filter λi=> !(i==j) && ((AU st.AE i).k==(AU st.AE j).k)
theorem Nr:(B3 st).length<=st.AE.length:=by
 unfold B3
 exact uW (xP _ _) (by simp)
theorem Z4{a b:Nat}:((a:Int)==(b:Int))=(a==b):=by
 by_cases h:a=b
 .subst h;simp
 .have:((a:Int)==(b:Int))=false:=by simp;lia
  rw[this];simp[h]
theorem gL(hS:SAt S s l m as st)(hl:st.AE.length<=50){j:Nat}(hj:j∈B3 st):C8 [] (tNm 2) (Hu (eOp (o2 wNe) [eV 2,eV 1]) (eOp (o2 wEq) [eOp (o2 wIx) [eOp (o2 wIx) [eV 0,eV 2],eC (.int 0)],eOp (o2 wIx) [eOp (o2 wIx) [eV 0,eV 1],eC (.int 0)]])) (eV 2) (Hv (B3 st)) [] [Fk (.ref l),Fk (.int j),uK] S=Fk (Hv (Gx st j),S):=by
 have fl:=Nr (st:=st)
 exact Hm (gs:=[]) (t:=tNm 2) (f:=eV 2) (C:=[Fk (.ref l),Fk (.int j)]) (m:=1) (e:=λi:Nat=>D.int i) (g:=λi:Nat=>D.int i) (b:=λi=> !(i==j) && ((AU st.AE i).k==(AU st.AE j).k)) (S:=S) Aw (xs:=B3 st) (acc:=[]) (os:=[uK]) rfl (uW (show _<=50 by simp;lia) (AN (by decide))) (by
  intro i hi os ho
  obtain⟨o1,rfl⟩:=YZ ho
  obtain⟨a,a1,a2,a3⟩:=hS.at (Lf hi).1
  obtain⟨b,b1,b2,b3⟩:=hS.at (Lf hj).1
  refine⟨[Fk (.int i)],rfl,by simp,?_,by simp⟩
  by_cases e:i=j
  .subst e
   simp
  .have e':((i:Int)==(j:Int))=false:=by simp;lia
   have e2:(i==j)=false:=by simp[e]
   simp[e',e2,BE hS.lo,a3,b3,BE a2,BE b2,Cp,Z4])
theorem ZX{i j:Nat}(h:i∈Gx st j):i∈B3 st/\i≠j/\(AU st.AE i).k=(AU st.AE j).k:=by
 unfold Gx at h
 rw[xC]at h
 simp at h
 exact⟨h.1,h.2.1,h.2.2⟩
noncomputable def Hc(st:Stt):Gc Nat:=(uc 10).filter λi=> !(st.nums.any λu=>u==(i:Int))
theorem UX{us:Gc Int}{i:Int}:inD (.int i) (us.map D.int)=us.any λu=>u==i:=by
 unfold inD
 rw[List.any_map]
 rfl
@[simp] theorem nK{b:Bool}{w:Wv}{r:List D}:wIn b w (.own r)=if(Kg (fz w) && r.all Kg)=true then some (.val (.bl (if b then !inD (fz w) r else inD (fz w) r)))else none:=nr rfl
@[simp] theorem oF{b:Bool}{w:Wv}{r:List D}:wIn b w (.val (.lst r))=if(Kg (fz w) && r.all Kg)=true then some (.val (.bl (if b then !inD (fz w) r else inD (fz w) r)))else none:=nr rfl
theorem SG{us:Gc Int}:(us.map D.int).all Kg=true:=by
 rw[AAX,List.all_eq_true]
 intro x _;rfl
@[simp] theorem qm{i:Int}:Kg (.int i)=true:=nr rfl
theorem fW(hS:SAt S s l m as st):C8 [] (tNm 1) (eOp (o2 (wIn true)) [eV 1,eV 0]) (eV 1) (KH 0 10) [] [Fk (.ref m),uK] S=Fk (Hv (Hc st),S):=by
 exact Hm (gs:=[]) (t:=tNm 1) (f:=eV 1) (C:=[Fk (.ref m)]) (m:=1) (e:=λi:Nat=>D.int (0+(i:Int))) (g:=λi:Nat=>D.int i) (b:=λi=> !(st.nums.any λu=>u==(i:Int))) (S:=S) Aw (xs:=uc 10) (acc:=[]) (os:=[uK]) rfl (uW (show _<=50 by simp) (AN (by decide))) (by
  intro i hi os ho
  obtain⟨o1,rfl⟩:=YZ ho
  refine⟨[Fk (.int i)],rfl,by simp,?_,by simp⟩
  have nu:=BE hS.nu
  have fi:=SG (us:=st.nums)
  have ii:=UX (us:=st.nums) (i:=(i:Int))
  generalize st.nums.map D.int=ud at*
  generalize (st.nums.any λu=>u==(i:Int))=bb at*
  simp[nu,fi,ii])
theorem Zr{i:Nat}(h:i∈Hc st):(i:Int)∉st.nums/\i<=9:=by
 unfold Hc at h
 rw[xC]at h
 have h1:=zR.mp h.1
 refine⟨?_,by lia⟩
 intro z
 have h2:=h.2
 have:(st.nums.any λu=>u==(i:Int))=true:=AAK.mpr ⟨_,z,by simp⟩
 rw[this]at h2
 cases h2
theorem ZJ:(Hc st).length<=10:=by
 unfold Hc
 exact uW (xP _ _) (by simp)
theorem aG{j:Nat}:(Gx st j).length<=st.AE.length:=by
 unfold Gx
 exact uW (xP _ _) Nr
end
section
variable{S:Sto}{p s l m:Nat}{as:Gc Nat}{st:Stt}{t:Tr}{k:Nat}
def Xi:Ex:=(Aa (xIf (Hu (eOp (o2 wEq) [eV 7,eC (.int 7)]) (eOp (o2 wNe) [eV 12,Fe []])) (BJ (Cm [eC (.str "trade"),eOp (o2 wIx) [eV 12,AJ AI [eV 0,eOp (o1 Jo) [eV 12]]],eV 8,eV 9,eV 11,AJ BF [eV 0]])) D5)
    (BJ (Cm [eC (.str "swap"),eV 8,eV 9,eV 11,AJ BF [eV 0]])))
def Vk:Ex:=(Aa (xIf (eOp (o2 wEq) [eV 7,eC (.int 8)]) (BJ (Cm [eC (.str "spoil"),eV 8,eV 9])) D5)
    (Aa (xIf (Hu (eOp (o2 wEq) [eV 7,eC (.int 9)]) (eOp (o2 wGt) [eOp (o2 wIx) [eV 1,eC (.int 0)],eC (.int 1)])) (Aa (BQ 13 (AJ AI [eV 0,eOp (o2 wIx) [eV 1,eC (.int 0)]]))
    (BJ (Cm [eC (.str "sell"),eV 13,eOp (o2 TN) [eOp (o2 CK) [eOp (o2 CK) [eV 13,eC (.int 1)],AJ AI [eV 0,eOp (o2 OQ) [eOp (o2 wIx) [eV 1,eC (.int 0)],eC (.int 1)]]],eOp (o2 wIx) [eV 1,eC (.int 0)]],AJ HY [eV 0]]))) D5)
    (BJ (Cm [eC (.str "throw"),eV 8,eV 9,AJ Cb [eV 0,eOp (o2 CK) [eOp (o2 wIx) [eV 1,eC (.int 1)],eC (.int 1)]]]))))
def TK:Ex:=(Aa (xIf (Hu (eOp (o2 wLt) [eV 7,eC (.int 8)]) (eOp (o2 wGt) [eOp (o2 wIx) [eV 1,eC (.int 1)],eC (.int 1)])) (Aa (BQ 11 (eOp (o2 TN) [eOp (o2 CK) [eOp (o2 CK) [eOp (o2 wIx) [eOp (o2 wIx) [eV 3,eV 8],eC (.int 0)],eC (.int 1)],AJ AI [eV 0,eOp (o2 OQ) [eOp (o2 wIx) [eV 1,eC (.int 1)],eC (.int 1)]]],eOp (o2 wIx) [eV 1,eC (.int 1)]]))
    (Aa (BQ 12 (C9 [5] 1 (PJ [eC (.int 10)]) (tNm 1) (eOp (o2 (wIn true)) [eV 1,eV 0]) (eV 1)))
    Xi)) D5) Vk)
def Xp:Ex:=(xIf (eOp (o2 wLt) [eV 7,eC (.int 5)]) (Aa (BQ 10 (C9 [3,8] 1 (Js (eV 6)) (tNm 2) (Hu (eOp (o2 wNe) [eV 2,eV 1]) (eOp (o2 wEq) [eOp (o2 wIx) [eOp (o2 wIx) [eV 0,eV 2],eC (.int 0)],eOp (o2 wIx) [eOp (o2 wIx) [eV 0,eV 1],eC (.int 0)]])) (eV 2)))
    (xIf (eOp (o2 wNe) [eV 10,Fe []]) (BJ (Cm [eC (.str "pool"),eV 8,eOp (o2 wIx) [eV 10,AJ AI [eV 0,eOp (o1 Jo) [eV 10]]]])) D5)) D5)
def Sm:Ab->Prop
 | .Hw _ _ g _ n=>g<=2000/\n<2^130
 |_=>AAm
def aX:Ex:=(Aa (xIf (eOr (eOp (o2 wLt) [eV 7,eC (.int 2)]) (eOp (o2 wEq) [eV 6,Fe []])) (BJ (Cm [eC (.str "bring"),AJ AI [eV 0,eOp (o2 wIx) [eV 1,eC (.int 0)]],AJ AI [eV 0,eOp (o2 wIx) [eV 1,eC (.int 1)]],AJ BF [eV 0]])) D5)
    (Aa (BQ 8 (eOp (o2 wIx) [eV 6,AJ AI [eV 0,eOp (o1 Jo) [eV 6]]]))
    (Aa (BQ 9 (eOp (o2 CK) [eC (.int 1),AJ AI [eV 0,eOp (o2 bV) [eOp (o2 wIx) [eOp (o2 wIx) [eV 3,eV 8],eC (.int 1)],eC (.int 2000)]]]))
    (Aa Xp TK))))
theorem aw:P6=(Aa (Qa (tTp [tNm 3,tNm 4,tNm 5]) (eV 2)) (Aa (BQ 6 (C9 [] 2 (Xe (eV 3)) (tTp [tNm 0,tNm 1]) (eOp (o2 wGt) [eOp (o2 wIx) [eV 1,eC (.int 1)],eC (.int 0)]) (eV 0))) (Aa (BQ 7 (AJ AI [eV 0,eC (.int 12)])) aX))):=rfl
theorem bL(hp:CD p S)(hS:SAt S s l m as st)(hps:p∉s::l::m::as)(ht:Jy t)(h:GB t k st)(hk:k<=16):∃d S',Fj [.ref p,t.d,.ref s] S=Fk (Ab.d d,S')/\Pn p S S'/\Can t st d/\Sm d:=by
 obtain⟨t1,t2,t3,t4,t5,t6⟩:=ht
 have hlen:=h.len
 have st':∀{S':Sto},Pn p S S'->SAt S' s l m as st:=λg=>hS.same g.same (by simpa using hps)
 have r0:=AY hS.root
 have cf:=Wq hS (by lia)
 have fl:=Nr (st:=st)
 have sq:=HW hS.lo
 obtain⟨way,S1,e1,a1,b1,p1⟩:=Aj hp (n:=12) (by decide) (by decide)
 have okF:=L7 (is:=B3 st)
 have dqF:=Ng (is:=B3 st)
 have pr0:Fj [.ref p,t.d,.ref s] S=(aX [Fk (.ref p),Fk t.d,Fk (.ref s),Fk (.ref l),Fk (shD st.hold),Fk (.ref m),Fk (.lst (Hv (B3 st))),Fk (.int way),uK,uK,uK,uK,uK,uK] S1).map λr=>(flD r.1,r.2.2):=by
  simp[Fj,aw,r0,sq,cf,e1]
 by_cases hb:way<2\/(B3 st).isEmpty=true
 .obtain⟨x2,S2,e2,a2,b2,p2⟩:=Aj p1.pen (n:=t.p) (by lia) (by lia)
  obtain⟨x3,S3,e3,a3,b3,p3⟩:=Aj p2.pen (n:=t.k) (by lia) (by lia)
  obtain⟨x4,S4,e4,p4,a4,b4⟩:=Lo p3.pen
  obtain⟨x2,rfl⟩:=HN a2
  obtain⟨x3,rfl⟩:=HN a3
  refine⟨.Ip x2 x3 x4,S4,?_,((p1.trans p2).trans p3).trans p4,⟨by lia,by lia,a4,b4⟩,trivial⟩
  rw[pr0]
  have ho:∀(x y:Ex),xIf (eOr (eOp (o2 wLt) [eV 7,eC (.int 2)]) (eOp (o2 wEq) [eV 6,Fe []])) x y [Fk (.ref p),Fk t.d,Fk (.ref s),Fk (.ref l),Fk (shD st.hold),Fk (.ref m),Fk (.lst (Hv (B3 st))),Fk (.int way),uK,uK,uK,uK,uK,uK] S1=x [Fk (.ref p),Fk t.d,Fk (.ref s),Fk (.ref l),Fk (shD st.hold),Fk (.ref m),Fk (.lst (Hv (B3 st))),Fk (.int way),uK,uK,uK,uK,uK,uK] S1:=by
   intro x y
   by_cases hw:way<2
   .simp[hw]
   .simp[hw,okF,dqF,hb.resolve_left hw]
  simp[aX,-Qp,ho]
  simp[Tr.d,e2,e3,e4,Ab.d]
 .have hw2:¬way<2:=λz=>hb (.inl z)
  have hf:(B3 st).isEmpty=false:=by
   cases z:(B3 st).isEmpty with
   |true=>exact absurd (.inr z) hb
   |false=>rfl
  have hfl:0<(B3 st).length:=by
   cases z:B3 st with
   |nil=>rw[z]at hf;cases hf
   |cons a b=>simp
  obtain⟨rl,S2,e2,a2,b2,p2⟩:=Aj p1.pen (n:=(B3 st).length) (by lia) (by lia)
  obtain⟨i,mi,ei⟩:=Li a2 b2
  have fi:=Lf mi
  have hS1:=st' p1
  have hS2:=st' (p1.trans p2)
  obtain⟨a,x1,x2,x3⟩:=hS2.at fi.1
  have n1:=fi.2
  obtain⟨rs,S3,e3,a3,b3,p3⟩:=Aj p2.pen (n:=if 2000<(AU st.AE i).n then 2000 else(AU st.AE i).n) (by split<;>lia) (by split<;>lia)
  have hsome:1<=1+rs/\1+rs<=(AU st.AE i).n:=by split at b3<;>lia
  have p23:=(p1.trans p2).trans p3
  have hS3:=st' p23
  have lo2:=BE hS2.lo
  have lo3:=BE hS3.lo
  have x2':=BE x2
  have x4:S3[a]?=Fk (Cp (AU st.AE i)):=hS3.ld i a _ x1 (G4 fi.1)
  have x4':=BE x4
  have kd:=h.kind _ (A4 fi.1)
  have nl:=KG (is:=B3 st)
  have cs:=gL hS3 (by lia) mi
  have okS:=L7 (is:=Gx st i)
  have dqS:=Ng (is:=Gx st i)
  have sl:=aG (st:=st) (j:=i)
  have nls:=KG (is:=Gx st i)
  have pre:Fj [.ref p,t.d,.ref s] S=((Xp [Fk (.ref p),Fk t.d,Fk (.ref s),Fk (.ref l),Fk (shD st.hold),Fk (.ref m),Fk (.lst (Hv (B3 st))),Fk (.int way),Fk (.int i),Fk (.int (1+rs)),uK,uK,uK,uK] S3).bind (iD TK)).map λr=>(flD r.1,r.2.2):=by
   rw[pr0]
   simp[aX,hw2,okF,dqF,hf,nl,e2,ei,lo2,x3,x2',e3]
  have tail:∀o10,(way<5->(Gx st i).isEmpty=true)->∃d S',(TK [Fk (.ref p),Fk t.d,Fk (.ref s),Fk (.ref l),Fk (shD st.hold),Fk (.ref m),Fk (.lst (Hv (B3 st))),Fk (.int way),Fk (.int i),Fk (.int (1+rs)),o10,uK,uK,uK] S3).map (λr=>(flD r.1,r.2.2))=Fk (Ab.d d,S')/\Pn p S S'/\Can t st d/\Sm d:=by
   intro o10 _
   generalize hE:([Fk (.ref p),Fk t.d,Fk (.ref s),Fk (.ref l),Fk (shD st.hold),Fk (.ref m),Fk (.lst (Hv (B3 st))),Fk (.int way),Fk (.int i),Fk (.int (1+rs)),o10,uK,uK,uK]:En)=E
   clear pre cs okS dqS
   by_cases hsw:way<8/\1<t.k
   .obtain⟨hw8,hk1⟩:=hsw
    have hk1':(1:Int)<t.k:=by lia
    obtain⟨rk,S4,e4,a4,b4,p4⟩:=Aj p3.pen (n:=(t.k:Int)-1) (by lia) (by lia)
    have hS4:=st' (p23.trans p4)
    have hmod:=WW (x:=((AU st.AE i).k:Int)+1+rk) (K:=t.k) (by lia) (by lia)
    obtain⟨kd2,ekd⟩:∃q:Nat,((AU st.AE i).k+1+rk) % (t.k:Int)=(q:Int):=⟨_,(vX (xU _ (by lia))).symm⟩
    have hkd:kd2<t.k/\kd2≠(AU st.AE i).k:=by
     rw[ekd]at hmod
     split at hmod<;>lia
    have kp:0<t.k:=by lia
    have cl:=fW hS4
    have okL:=L7 (is:=Hc st)
    have dqL:=Ng (is:=Hc st)
    have ll:=ZJ (st:=st)
    have nll:=KG (is:=Hc st)
    have rt:Jq 10=true:=DZ (by decide) (by decide)
    have mid:TK E S3=(Xi [Fk (.ref p),Fk t.d,Fk (.ref s),Fk (.ref l),Fk (shD st.hold),Fk (.ref m),Fk (.lst (Hv (B3 st))),Fk (.int way),Fk (.int i),Fk (.int (1+rs)),o10,Fk (.int kd2),Fk (.lst (Hv (Hc st))),uK] S4).bind (iD Vk):=by
     subst hE
     simp[TK,Tr.d,x3,hw8,hk1',lo3,x4',e4,kp,ekd,rt,cl]
    rw[mid]
    clear mid hE
    by_cases htr:way=7/\(Hc st).isEmpty=false
    .obtain⟨hw7,hle⟩:=htr
     have hll:0<(Hc st).length:=by
      cases z:Hc st with
      |nil=>rw[z]at hle;cases hle
      |cons a b=>simp
     obtain⟨ru,S5,e5,a5,b5,p5⟩:=Aj p4.pen (n:=(Hc st).length) (by lia) (by lia)
     obtain⟨u,mu,eu⟩:=Li a5 b5
     obtain⟨x6,S6,e6,p6,a6,b6⟩:=Py p5.pen
     have fu:=Zr mu
     refine⟨.Hw u i (1+rs) kd2 x6,S6,?_,((p23.trans p4).trans p5).trans p6,⟨fi.1,hsome.1,hsome.2,hkd.1,hkd.2,a6,Int.lt_trans b6 (by decide),fu.1,by lia,by lia⟩,by split at b3<;>lia,b6⟩
     subst hw7
     simp[Xi,okL,dqL,hle,nll,e5,eu,e6,Ab.d]
    .obtain⟨x6,S6,e6,p6,a6,b6⟩:=Lo p4.pen
     refine⟨.swap i (1+rs) kd2 x6,S6,?_,(p23.trans p4).trans p6,⟨fi.1,hsome.1,hsome.2,hkd.1,hkd.2,a6,b6⟩,trivial⟩
     by_cases h7:way=7
     .subst h7
      have hle:(Hc st).isEmpty=true:=by
       cases z:(Hc st).isEmpty with
       |true=>rfl
       |false=>exact absurd ⟨rfl,z⟩ htr
      simp[Xi,okL,dqL,hle,e6,Ab.d]
     .have h7':(way==7)=false:=by simpa using h7
      simp[Xi,h7',e6,Ab.d]
   .have sw:TK E S3=Vk E S3:=by
     subst hE
     by_cases w8:way<8
     .have hk1:¬(1:Int)<t.k:=by lia
      simp[TK,Tr.d,w8,hk1]
     .simp[TK,w8]
    rw[sw]
    clear sw
    by_cases h8:way=8
    .subst h8
     refine⟨.Jr i (1+rs),S3,?_,p23,⟨fi.1,hsome.1,hsome.2⟩,trivial⟩
     subst hE
     simp[Vk,Ab.d]
    .have h8':(way==8)=false:=by simpa using h8
     by_cases h9:way=9/\1<t.p
     .obtain⟨h9,hP⟩:=h9
      subst h9
      have hP':(1:Int)<t.p:=by lia
      obtain⟨rp,S4,e4,a4,b4,p4⟩:=Aj p3.pen (n:=t.p) (by lia) (by lia)
      obtain⟨rq,S5,e5,a5,b5,p5⟩:=Aj p4.pen (n:=(t.p:Int)-1) (by lia) (by lia)
      obtain⟨sh,S6,e6,p6,a6,b6,c6⟩:=ZL p5.pen
      have hmod:=WW (x:=rp+1+rq) (K:=t.p) (by lia) (by lia)
      obtain⟨q,eq⟩:∃q:Nat,(rp+1+rq) % (t.p:Int)=(q:Int):=⟨_,(vX (xU _ (by lia))).symm⟩
      obtain⟨rp,rfl⟩:=HN a4
      have hq:q<t.p/\q≠rp:=by
       rw[eq]at hmod
       split at hmod<;>lia
      have pp:0<t.p:=by lia
      refine⟨.Me rp q sh,S6,?_,((p23.trans p4).trans p5).trans p6,⟨λz=>hq.2 z.symm,by lia,hq.1,a6,b6,c6⟩,trivial⟩
      subst hE
      simp[Vk,Tr.d,hP',e4,e5,pp,eq,e6,Ab.d]
     .have s9:∀(x y:Ex) (T:Sto),xIf (Hu (eOp (o2 wEq) [eV 7,eC (.int 9)]) (eOp (o2 wGt) [eOp (o2 wIx) [eV 1,eC (.int 0)],eC (.int 1)])) x y E T=y E T:=by
       intro x y T
       subst hE
       by_cases z:way=9
       .have hP:¬(1:Int)<t.p:=by have:¬1<t.p:=λw=>h9 ⟨z,w⟩;lia
        subst z
        simp[Tr.d,hP]
       .have z':(way==9)=false:=by simpa using z
        simp[z']
      obtain⟨ws,S4,e4,p4,a4,b4⟩:=Rp p3.pen (n:=t.k+1) (by lia)
      have e4':Cb [.ref p,.int ((t.k:Int)+1)] S3=Fk (.tup (ws.map .int),S4):=e4
      refine⟨.thr i (1+rs) ws,S4,?_,p23.trans p4,⟨fi.1,hsome.1,hsome.2,a4,b4⟩,trivial⟩
      have s8:∀(x y:Ex) (T:Sto),xIf (eOp (o2 wEq) [eV 7,eC (.int 8)]) x y E T=y E T:=by
       intro x y T
       subst hE
       simp[h8']
      simp[Vk,-Qp,s8,s9]
      subst hE
      simp[Tr.d,e4',Ab.d]
  by_cases hpool:way<5/\(Gx st i).isEmpty=false
  .obtain⟨hw5,hse⟩:=hpool
   have hsl:0<(Gx st i).length:=by
    cases z:Gx st i with
    |nil=>rw[z]at hse;cases hse
    |cons a b=>simp
   obtain⟨rj,S4,e4,a4,b4,p4⟩:=Aj p3.pen (n:=(Gx st i).length) (by lia) (by lia)
   obtain⟨j,mj,ej⟩:=Li a4 b4
   have fj:=ZX mj
   have fj':=Lf fj.1
   refine⟨.LC i j,S4,?_,p23.trans p4,⟨λz=>fj.2.1 z.symm,fi.1,fj'.1,n1,fj'.2,fj.2.2.symm⟩,trivial⟩
   rw[pre]
   simp[Xp,hw5,cs,okS,dqS,hse,nls,e4,ej,Ab.d]
  .by_cases w5:way<5
   .have hse:(Gx st i).isEmpty=true:=by
     cases z:(Gx st i).isEmpty with
     |true=>rfl
     |false=>exact absurd ⟨w5,z⟩ hpool
    obtain⟨d,S',e,pn,hc⟩:=tail (Fk (.lst (Hv (Gx st i)))) (λ_=>hse)
    refine⟨d,S',?_,pn,hc⟩
    rw[pre,<-e]
    simp[Xp,w5,cs,okS,dqS,hse]
   .obtain⟨d,S',e,pn,hc⟩:=tail uK (λz=>absurd z w5)
    refine⟨d,S',?_,pn,hc⟩
    rw[pre,<-e]
    simp[Xp,w5]
end
noncomputable def runs(t:Tr)(st:Stt)(ds:Gc Ab):Stt:=ds.foldl (step t) st
def Pc(t:Tr):Stt->Gc Ab->Prop
 |_,[]=>AAm
 |st,d::ds=>Can t st d/\Pc t (step t st d) ds
theorem Ma{t:Tr}{d:Ab}:∀{ds:Gc Ab} {st:Stt},Pc t st ds->Can t (runs t st ds) d->Pc t st (ds++[d])
 | [],st,_,h=>⟨h,trivial⟩
 |x::ds,st,h,g=>⟨h.1,Ma h.2 g⟩
theorem GC{t:Tr}:∀{ds:Gc Ab} {st:Stt} {i:Nat} {d:Ab},Pc t st ds->ds[i]?=Fk d->Can t (runs t st (ds.take i)) d
 |x::ds,st,0,d,h,g=>by
  simp at g;subst g
  exact h.1
 |x::ds,st,i+1,d,h,g=>by
  simp at g
  show Can t (runs t (step t st x) (ds.take i)) d
  exact GC h.2 g
theorem OY{t:Tr}{st:Stt}{ds:Gc Ab}{d:Ab}:runs t st (ds++[d])=step t (runs t st ds) d:=by simp[runs]
theorem Kh{t:Tr}{st:Stt}{ds:Gc Ab}{i:Nat}{d:Ab}(h:ds[i]?=Fk d):runs t st (ds.take (i+1))=step t (runs t st (ds.take i)) d:=by
 rw[List.take_succ,h]
 exact OY
theorem RB{t:Tr}(ht:Jy t):∀{ds:Gc Ab} {st:Stt} {k:Nat},GB t k st->Pc t st ds->k+ds.length<=17->GB t (k+ds.length) (runs t st ds)
 | [],st,k,h,_,_=>h
 |d::ds,st,k,h,g,hl=>by
  have:=RB ht (ds:=ds) (Uu ht h (by simp at hl;lia) g.1) g.2 (by simp at hl;lia)
  rw[show k+(d::ds).length=k+1+ds.length by simp;lia]
  exact this
theorem Mb{t:Tr}:∀{ds:Gc Ab} {st:Stt} {i:Nat},Pc t st ds->Pc t st (ds.take i)
 | [],st,i,h=>by simp;exact trivial
 |d::ds,st,0,h=>trivial
 |d::ds,st,i+1,h=>⟨h.1,Mb h.2⟩
noncomputable def st0(t:Tr)(ls:Gc Ld):Stt:=⟨ls,t.ho,[]⟩
structure BO(t:Tr)(ls:Gc Ld)(ds:Gc Ab):Prop where
 tr:Jy t
 inv:GB t 0 (st0 t ls)
 good:Pc t (st0 t ls) ds
 len:ds.length<=16
theorem BO.at{t:Tr}{ls:Gc Ld}{ds:Gc Ab}(h:BO t ls ds)(i:Nat):GB t (ds.take i).length (runs t (st0 t ls) (ds.take i)):=by
 have:=RB h.tr (ds:=ds.take i) h.inv (Mb h.good) (by have:=h.len;simp;lia)
 rwa [AAa]at this
noncomputable def Ad(t:Tr)(ls:Gc Ld)(ds:Gc Ab):D:=.tup [t.d,.tup (ls.map Ld.d),.tup (ds.map Ab.d)]
theorem YY{t:Tr}{ls:Gc Ld}(h:JY t ls)(hl:ls.length<=4)(h1:t.ho.length=t.p){g:Nat}(g0:0<g)(g1:g<=32)(g2:∀r∈t.ho,Ok g g r):GB t 0 (st0 t ls):=by
 obtain⟨ha,G,G0,G1,G2⟩:=h
 have hG:G<=32^4:=uW G1 (uz (by decide) hl)
 have hB:G*g<2^30:=by
  have:=zl hG g1
  lia
 refine GB.of (G:=G*g) (B:=G*g) (by simpa[st0]using hl) ?_ h1 (uV _) (yH G0 g0) (uV _) hB ?_
 .intro x hx
  have:=ha x hx
  exact⟨this.1,by lia,gD this.2.2.1,this.2.2.2.1,λr hr=>(G2 x hx r hr).up (uV _)⟩
 .intro r hr
  have:=(g2 r hr).up (t:=G) (B':=G*g) (by rw[xW];exact uV _)
  rwa [xW g G]at this
noncomputable def Gs:Ab->vL
 | .thr .. =>true
 |_=>false
section
variable{S:Sto}{p:Nat}
theorem ZU(d:Ab)(E:En)(h:E=[Fk d.d]):eOp (o2 wEq) [eOp (o2 wIx) [eV 0,eC (.int 0)],eC (.str "throw")] E S=Fk (.bl (Gs d),S):=by
 subst h
 cases d<;>simp[Ab.d,Gs]
theorem qP{q:Nat}{ds:Gc Ab}(hq:S[q]?=Fk (.lst (ds.map Ab.d)))(hl:ds.length<=50):C8 [(q,ds.map Ab.d)] (tNm 0) (eOp (o2 wEq) [eOp (o2 wIx) [eV 0,eC (.int 0)],eC (.str "throw")]) (eV 0) (ds.map Ab.d) [] [uK] S=Fk ((ds.filter Gs).map Ab.d,S):=
 Hm (gs:=[(q,ds.map Ab.d)]) (t:=tNm 0) (f:=eV 0) (C:=[]) (m:=1) (e:=Ab.d) (g:=Ab.d) (b:=Gs) (S:=S) (λg hg=>by rw[uy.mp hg];exact AY hq) (xs:=ds) (acc:=[]) (os:=[uK]) rfl (uW (show _<=50 by simp;lia) (AN (by decide))) (by
  intro d _ os ho
  obtain⟨o1,rfl⟩:=YZ ho
  exact⟨[Fk d.d],rfl,by simp,ZU d _ rfl,by simp⟩)
theorem Z7{M:Nat}(hM:M<=16)(h:CD p S):∃t ls ds S',HA [.ref p,.int M] S=Fk (Ad t ls ds,S')/\(BO t ls ds/\ds.length<=M/\∀d∈ds,Sm d)/\((∀l∈ls,l.ow.sum=1)/\t.ho.sum=1)/\CD p S'/\∀n c,S[n]?=Fk c->n≠p->S'[n]?=Fk c:=by
 obtain⟨t,S1,e1,p1,ht,hh,g,g0,g1,g2⟩:=bq h
 obtain⟨ls,S2,e2,p2,hf,hl⟩:=bY p1.pen ht
 have hi:=YY hf hl hh.1 g0 g1 g2
 obtain⟨s,l,m,as,S3,e3,hS,sm,hn⟩:=RI (S:=S2) (t:=t) (ls:=ls) (x:=.tup []) (by lia)
 have lp:=p2.pen.lt
 have l02:S.length<=S2.length:=uW p1.same.len p2.same.len
 have pen3:CD p S3:=by
  obtain⟨ds,e,hp⟩:=p2.pen
  exact⟨ds,sm.get e (by simp),hp⟩
 have hq:(S3++[Cl.lst []])[S3.length]?=Fk (.lst []):=uj
 obtain⟨rn,S4,e4,a4,b4,p4⟩:=Aj (pen3.app [Cl.lst []]) (n:=(M:Int)+1) (by lia) (by lia)
 have lt3:=hS.lts
 have pn:p∉s::l::m::as:=λz=>by have:=hn p z;lia
 have qn:S3.length∉s::l::m::as:=λz=>by have:=lt3 _ z;lia
 have hpq:S3.length≠p:=by have:=pen3.lt;lia
 have hS4:SAt S4 s l m as (st0 t ls):=(hS.Tu (.app)).same p4.same (by simpa using pn)
 have hq4:S4[S3.length]?=Fk (.lst []):=p4.get hq hpq
 obtain⟨rn,rfl⟩:=HN a4
 have rk:Jq (rn:Int)=true:=DZ (by lia) (by lia)
 have lqS:S.length<=S3.length:=uW l02 sm.len
 generalize hQ:S3.length=q at*
 obtain⟨E',S',ef,ds,as',o6,o7,rfl,f1,f2,f3,f4,f5,f6,f7,f8,f9,f10⟩:=EJ (gs:=[]) (t:=tNm 6) (b:=Aa (BQ 7 (AJ Fj [eV 0,eV 2,eV 4]))
  (xIf (eOr (eOp (o2 wNe) [eOp (o2 wIx) [eV 7,eC (.int 0)],eC (.str "throw")]) (eOp (o2 wLt) [eOp (o1 Jo) [C9 [] 1 (Js (eV 5)) (tNm 0) (eOp (o2 wEq) [eOp (o2 wIx) [eV 0,eC (.int 0)],eC (.str "throw")]) (eV 0)],eC (.int 3)])) (Aa (Bl (AJ BI [eV 2,eV 4,eV 7]))
  (Bl (Lc Le (eV 5) [eV 7]))) D5))
  (I:=λrs E S'=>∃(ds:Gc Ab) (as':Gc Nat) (o6 o7:uL D),E=[Fk (.ref p),Fk (.int M),Fk t.d,Fk (.tup (ls.map Ld.d)),Fk (.ref s),Fk (.ref q),o6,o7]/\S'[q]?=Fk (.lst (ds.map Ab.d))/\CD p S'/\SAt S' s l m as' (runs t (st0 t ls) ds)/\Pc t (st0 t ls) ds/\ds.length+rs.length<=M/\p∉s::l::m::as'/\q∉s::l::m::as'/\(∀n∈s::l::m::as',S.length<=n)/\(∀n c,S[n]?=Fk c->n≠p->S'[n]?=Fk c)/\∀d∈ds,Sm d)
  (λ_ _ _ _=>Aw) (ds:=KH 0 rn) (E:=[Fk (.ref p),Fk (.int M),Fk t.d,Fk (.tup (ls.map Ld.d)),Fk (.ref s),Fk (.ref q),uK,uK]) (S:=S4)
  ⟨[],as,uK,uK,rfl,hq4,p4.pen,hS4,trivial,by rw[D7];simp;lia,pn,qn,λn z=>uW l02 (hn n z),λn c e ne=>p4.get (Cj.get (A:=[]) .app (sm.get (p2.get (p1.get e ne) ne) (by simp)) (by simp)) ne,λ_ z=>nomatch z⟩ (by
    rintro dd rs E T ⟨ds,as',o6,o7,rfl,i1,i2,i3,i4,i5,i6,i7,i8,i9,i10⟩
    simp only[vR]at i5
    have inv:=RB ht hi i4 (by lia)
    rw[AAa]at inv
    obtain⟨d,T1,d1,d2,d3,d4⟩:=bL i2 i3 i6 ht inv (by lia)
    have lS:S.length<=T1.length:=by have:=i8 s uX;have:=Ae i3.root;have:=d2.same.len;lia
    have j3:=i3.same d2.same (by simpa using i6)
    have j1:T1[q]?=Fk (.lst (ds.map Ab.d)):=d2.get i1 hpq
    have tc:=qP j1 (by lia)
    have w1:∀(c:Ev),eOr (eOp (o2 wNe) [eOp (o2 wIx) [eV 7,eC (.int 0)],eC (.str "throw")]) c [Fk (.ref p),Fk (.int M),Fk t.d,Fk (.tup (ls.map Ld.d)),Fk (.ref s),Fk (.ref q),Fk dd,Fk d.d] T1=if Gs d=true then c [Fk (.ref p),Fk (.int M),Fk t.d,Fk (.tup (ls.map Ld.d)),Fk (.ref s),Fk (.ref q),Fk dd,Fk d.d] T1 else Fk (.bl true,T1):=by
     intro c
     cases d<;>simp[Ab.d,Gs]
    by_cases hb:Gs d=false\/(ds.filter Gs).length<3
    .obtain⟨T2,as2,k1,k2,k3,k4⟩:=aF j3 ht inv (by lia) d3
     have lt:=j3.lts
     have q2:T2[q]?=Fk (.lst (ds.map Ab.d)):=k3.get j1 i7
     have hz:ds.length<sizeLine:=uO (show ds.length<50 by lia) (AN (by decide))
     refine⟨_,[Fk (.ref p),Fk (.int M),Fk t.d,Fk (.tup (ls.map Ld.d)),Fk (.ref s),Fk (.ref q),Fk dd,Fk d.d],T2.set q (.lst ((ds++[d]).map Ab.d)),by simp;rfl,?_,ds++[d],as2,Fk dd,Fk d.d,rfl,ua (Ae q2),?_,?_,Ma i4 d3,by simp;lia,?_,?_,?_,?_,λx hx=>(uk.mp hx).elim (i10 x) λz=>by rw[uy.mp z];exact d4⟩
     .have kk:=AY q2
      have sq:=HW j1
      have hz':(ds.map Ab.d).length<sizeLine:=by simpa using hz
      have hfin:(ds++[d]).map Ab.d=ds.map Ab.d++[d.d]:=by simp
      rw[hfin]
      generalize hDD:ds.map Ab.d=DD at*
      cases ht':Gs d with
      |false=>
       simp[d1,-Tz,w1,ht',k1,kk,hz']
      |true=>
       have h3:((ds.filter Gs).length:Int)<3:=by
        have:=hb.resolve_left (by rw[ht'];simp)
        lia
       simp[d1,-Tz,w1,ht',sq,tc,h3,k1,kk,hz']
     .obtain⟨pd,pe,ph⟩:=d2.pen
      exact⟨pd,by rw[uS hpq];exact k3.get pe i6,ph⟩
     .rw[OY]
      exact k2.same (A:=[q]) (.set (by simp)) (by
       intro n hn z
       simp at hn;subst hn
       simp only[uQ]at z i7
       rcases z with z|z|z|z
       .exact i7 (.inl z)
       .exact i7 (.inr (.inl z))
       .exact i7 (.inr (.inr (.inl z)))
       .rcases k4 _ z with w|w
        .exact i7 (.inr (.inr (.inr w)))
        .have:=Ae j1;lia)
     .intro z
      simp only[uQ]at z i6
      rcases z with z|z|z|z
      .exact i6 (.inl z)
      .exact i6 (.inr (.inl z))
      .exact i6 (.inr (.inr (.inl z)))
      .rcases k4 _ z with w|w
       .exact i6 (.inr (.inr (.inr w)))
       .have:=d2.pen.lt;lia
     .intro z
      simp only[uQ]at z i7
      rcases z with z|z|z|z
      .exact i7 (.inl z)
      .exact i7 (.inr (.inl z))
      .exact i7 (.inr (.inr (.inl z)))
      .rcases k4 _ z with w|w
       .exact i7 (.inr (.inr (.inr w)))
       .have:=Ae j1;lia
     .intro n z
      simp only[uQ]at z i8
      rcases z with z|z|z|z
      .exact i8 n (.inl z)
      .exact i8 n (.inr (.inl z))
      .exact i8 n (.inr (.inr (.inl z)))
      .rcases k4 _ z with w|w
       .exact i8 n (.inr (.inr (.inr w)))
       .exact uW lS w
     .intro n c e ne
      have ln:n<S.length:=Ae e
      rw[uS (λz=>by have:=lqS;lia)]
      exact k3.get (d2.get (i9 n c e ne) ne) λz=>by have:=i8 n z;lia
    .have ht':Gs d=true:=by
      cases z:Gs d with
      |true=>rfl
      |false=>exact absurd (.inl z) hb
     have h3:¬((ds.filter Gs).length:Int)<3:=by
      have:¬(ds.filter Gs).length<3:=λz=>hb (.inr z)
      lia
     refine⟨_,[Fk (.ref p),Fk (.int M),Fk t.d,Fk (.tup (ls.map Ld.d)),Fk (.ref s),Fk (.ref q),Fk dd,Fk d.d],T1,by simp;rfl,?_,ds,as',Fk dd,Fk d.d,rfl,j1,d2.pen,j3,i4,by lia,i6,i7,i8,λn c e ne=>d2.get (i9 n c e ne) ne,i10⟩
     have sq:=HW j1
     generalize hDD:ds.map Ab.d=DD at*
     simp[d1,-Tz,w1,ht',sq,tc,h3])
 refine⟨t,ls,ds,S',?_,⟨⟨ht,hi,f4,by simp at f5;lia⟩,by simpa using f5,f10⟩,⟨λx hx=>(hf.1 x hx).2.2.2.2,hh.2⟩,f2,f9⟩
 have df:=BE f1
 simp[HA,QL,e1,e2,e3,hQ,e4,rk,ef,df,Ad]
theorem bP{M:Nat}(hM:M<=16)(h:CD p S):∃t ls ds S',HA [.ref p,.int M] S=Fk (Ad t ls ds,S')/\(BO t ls ds/\ds.length<=M)/\((∀l∈ls,l.ow.sum=1)/\t.ho.sum=1)/\CD p S'/\∀n c,S[n]?=Fk c->n≠p->S'[n]?=Fk c:=by
 obtain⟨t,ls,ds,S',a,b,c⟩:=Z7 hM h
 exact⟨t,ls,ds,S',a,⟨b.1,b.2.1⟩,c⟩
end
noncomputable def stD(st:Stt):D:=.tup [.lst (st.AE.map Ld.d),shD st.hold]
section
variable{S:Sto}{s l m:Nat}{as:Gc Nat}{st:Stt}
theorem gv(hS:SAt S s l m as st)(hl:st.AE.length<=50):C8 [(l,as.map D.ref)] (tNm 0) Cr (eOp (o1 CS) [eV 0]) (as.map D.ref) [] [uK] S=Fk (st.AE.map Ld.d,S):=by
 have e:=Ea (gs:=[(l,as.map D.ref)]) (t:=tNm 0) (f:=eOp (o1 CS) [eV 0]) (C:=[]) (m:=1) (e:=λz:Nat×Ld=>D.ref z.1) (g:=λz=>Ld.d z.2) hS.guard (xs:=as.zip st.AE) (acc:=[]) (os:=[uK]) rfl (uW (show _<=50 by simp;lia) (AN (by decide))) (by
  intro z hz os ho
  obtain⟨q1,rfl⟩:=YZ ho
  refine⟨[Fk (.ref z.1)],rfl,by simp,?_⟩
  simp[BE (hS.ql hz),Ld.d])
 rw[<-Ur hS.len,<-Ww hS.len Ld.d]at e
 exact e
theorem UI{rs:Gc Rat}:D.tup (rs.map aD)=shD rs:=rfl
def Wy:Ev:=Cm [C9 [] 1 (Js (eOp (o2 wIx) [eV 1,eC (.int 0)])) (tNm 0) Cr (eOp (o1 CS) [eV 0]),eOp (o1 CS) [eOp (o2 wIx) [eV 1,eC (.int 1)]]]
theorem U1{E:En}(hS:SAt S s l m as st)(hl:st.AE.length<=50)(hE:at? E 1=Fk (.ref s)):Wy E S=Fk (stD st,S):=by
 have r:=BE hS.root
 have sq:=HW hS.lo
 have e:=gv hS hl
 simp[Wy,hE,r,sq,e,UI,stD]
theorem V0{t:Tr}{ls:Gc Ld}{ds:Gc Ab}(h:BO t ls ds):∃q S',GD [Ad t ls ds] S=Fk (.ref q,S')/\S'[q]?=Fk (.lst ((uc (ds.length+1)).map λj=>stD (runs t (st0 t ls) (ds.take j))))/\Cj [] S S':=by
 have hl0:=h.inv.len
 have hl1:ls.length<=4:=hl0
 obtain⟨s,l,m,as,S1,e1,hS,sm,hn⟩:=RI (S:=S) (t:=t) (ls:=ls) (x:=.tup (ds.map Ab.d)) (by lia)
 have hS:SAt S1 s l m as (st0 t ls):=hS
 have lt:=hS.lts
 have hS1:SAt (S1++[Cl.lst [stD (st0 t ls)]]) s l m as (st0 t ls):=hS.Tu .app
 have hq:(S1++[Cl.lst [stD (st0 t ls)]])[S1.length]?=Fk (.lst [stD (st0 t ls)]):=uj
 have qn:S1.length∉s::l::m::as:=λz=>by have:=lt _ z;lia
 have sn0:=λ{E:En} (hE:at? E 1=Fk (.ref s))=>U1 (E:=E) hS (show ls.length<=50 by lia) hE
 have lSq:=sm.len
 generalize hQ:S1.length=q at*
 obtain⟨E',S',ef,i,as',o,f1,f2,rfl,f3,f4,f5,f6,f7⟩:=EJ (gs:=[]) (t:=tNm 3) (b:=Aa (Bl (AJ BI [eOp (o2 wIx) [eV 0,eC (.int 0)],eV 1,eV 3]))
  (Bl (Lc Le (eV 2) [Wy])))
  (I:=λrs E S'=>∃(i:Nat) (as':Gc Nat) (o:uL D),rs=(ds.drop i).map Ab.d/\i<=ds.length/\E=[Fk (Ad t ls ds),Fk (.ref s),Fk (.ref q),o]/\S'[q]?=Fk (.lst ((uc (i+1)).map λj=>stD (runs t (st0 t ls) (ds.take j))))/\SAt S' s l m as' (runs t (st0 t ls) (ds.take i))/\q∉s::l::m::as'/\(∀n∈s::l::m::as',S.length<=n)/\Cj [] S S')
  (λ_ _ _ _=>Aw) (ds:=ds.map Ab.d) (E:=[Fk (Ad t ls ds),Fk (.ref s),Fk (.ref q),uK]) (S:=S1++[Cl.lst [stD (st0 t ls)]])
  ⟨0,as,uK,by simp,we _,rfl,by rw[hq];rfl,hS1,qn,hn,sm.trans .app⟩ (by
    rintro dd rs E T ⟨i,as',o,i1,i2,rfl,i3,i4,i5,i6,i7⟩
    have hlt:i<ds.length:=by
     rcases xY i ds.length with w|w
     .exact w
     .rw[vf w]at i1;cases i1
    rw[vG hlt,uv]at i1
    injection i1 with z1 z2
    subst z1 z2
    have inv:=h.at i
    have il:(ds.take i).length<=16:=by have:=h.len;simp;lia
    have can:=GC h.good (tz hlt)
    obtain⟨T2,as2,k1,k2,k3,k4⟩:=aF i4 h.tr inv il can
    have q2:=k3.get i3 i5
    rw[<-Kh (tz hlt)]at k2
    have inv2:=(h.at (i+1)).len
    have il2:(ds.take (i+1)).length<=16:=by have:=h.len;simp;lia
    have sn:=U1 (E:=[Fk (Ad t ls ds),Fk (.ref s),Fk (.ref q),Fk ds[i].d]) k2 (by lia) rfl
    have kk:=AY q2
    have q5:q∉s::l::m::as2:=by
     intro z
     simp only[uQ]at z i5
     rcases z with z|z|z|z
     .exact i5 (.inl z)
     .exact i5 (.inr (.inl z))
     .exact i5 (.inr (.inr (.inl z)))
     .rcases k4 _ z with w|w
      .exact i5 (.inr (.inr (.inr w)))
      .have:=Ae i3;lia
    have q6:∀n∈s::l::m::as2,S.length<=n:=by
     intro n hz
     simp only[uQ]at hz i6
     rcases hz with z|z|z|z
     .exact i6 n (.inl z)
     .exact i6 n (.inr (.inl z))
     .exact i6 n (.inr (.inr (.inl z)))
     .rcases k4 _ z with w|w
      .exact i6 n (.inr (.inr (.inr w)))
      .exact uW i7.len w
    have q7:Cj [] S T2:=Cj.new (A:=[]) i7 k3 i6
    refine⟨_,[Fk (Ad t ls ds),Fk (.ref s),Fk (.ref q),Fk ds[i].d],T2.set q (.lst ((uc (i+1+1)).map λj=>stD (runs t (st0 t ls) (ds.take j)))),by simp;rfl,?_,i+1,as2,Fk ds[i].d,rfl,hlt,rfl,ua (Ae q2),k2.same (A:=[q]) (.set (by simp)) (by simpa using q5),q5,q6,Cj.new (A:=[]) (B:=[q]) q7 (.set (by simp)) (by intro n hn';simp at hn';lia)⟩
    have hz:((uc (i+1)).map λj=>stD (runs t (st0 t ls) (ds.take j))).length<sizeLine:=uO (show _<50 by have:=h.len;simp;lia) (AN (by decide))
    have hfin:((uc (i+1+1)).map λj=>stD (runs t (st0 t ls) (ds.take j)))=((uc (i+1)).map λj=>stD (runs t (st0 t ls) (ds.take j)))++[stD (runs t (st0 t ls) (ds.take (i+1)))]:=by
     rw[AAl,wg];rfl
    rw[hfin]
    generalize ((uc (i+1)).map λj=>stD (runs t (st0 t ls) (ds.take j)))=DD at*
    generalize stD (runs t (st0 t ls) (ds.take (i+1)))=d2 at*
    simp only[Ad]at sn⊢
    simp[k1,kk,sn,hz])
 have hz:i=ds.length:=by
  have:=congrArg xp f1
  simp at this
  lia
 subst hz
 refine⟨q,S',?_,f3,f7⟩
 have eb:NG=(Aa (BQ 1 (AJ Dq [eV 0]))
  (Aa (BQ 2 (Kz [Wy]))
  (Aa (Lj (Js (eOp (o2 wIx) [eV 0,eC (.int 2)])) (tNm 3) (Aa (Bl (AJ BI [eOp (o2 wIx) [eV 0,eC (.int 0)],eV 1,eV 3]))
  (Bl (Lc Le (eV 2) [Wy]))))
  (BJ (eV 2))))):=rfl
 have s1:=sn0 (E:=[Fk (Ad t ls ds),Fk (.ref s),uK,uK]) rfl
 unfold GD
 rw[eb]
 simp only[Ad]at s1 ef⊢
 simp[e1,s1,hQ,ef]
end
theorem UN{n m d:Nat}(h:n<=m):HT.sIx m d (Fk (n:Int))=n:=by
 unfold HT.sIx
 have:¬((n:Int)<0):=by lia
 simp[this]
 lia
theorem Ni{α:Type}{ds:Gc α}{n:Nat}(h:n<=ds.length):IZ ds uK (Fk (n:Int))=ds.take n:=by
 unfold IZ
 rw[UN h]
 simp[HT.sIx]
theorem Zi{α:Type}{ds:Gc α}{n:Nat}(h:n<=ds.length):IZ ds (Fk (n:Int)) uK=ds.drop n:=by
 unfold IZ
 rw[UN h]
 simp[HT.sIx]
 exact yk (by simp)
noncomputable def hD(x:Ld):D:=.tup [.int x.k,.int x.n]
noncomputable def Bm(ls:Gc Ld):D:=.lst (ls.map hD)
noncomputable def K1(ls:Gc Ld):D:=.lst (ls.map λx=>shD x.ow)
section
variable{S:Sto}{ls:Gc Ld}{i j:Nat}{n:Int}
@[simp] theorem oA:dr S (Bm ls)=.val (Bm ls):=nr rfl
@[simp] theorem rE:dr S (K1 ls)=.val (K1 ls):=nr rfl
@[simp] theorem mF:asS (.val (Bm ls))=some (ls.map hD):=nr rfl
@[simp] theorem mX:asS (.val (K1 ls))=some (ls.map λx=>shD x.ow):=nr rfl
@[simp] theorem mP:Jo (.val (Bm ls))=some (.val (.int ls.length)):=by
  show Jo (.val (.lst (ls.map hD)))=_
  rw[aM,vT]
theorem Gn(hi:i<ls.length):atI (ls.map hD) (i:Int)=Fk (hD (AU ls i)):=CF (by rw[uY,G4 hi];rfl)
theorem O4(hi:i<ls.length):atI (ls.map λx=>shD x.ow) (i:Int)=Fk (shD (AU ls i).ow):=CF (by rw[uY,G4 hi];rfl)
@[simp] theorem sP{x:Ld}:dr S (hD x)=.val (.tup [.int x.k,.int x.n]):=nr rfl
@[simp] theorem qD{ts:List Tf}{x:Ld}{E:En}:tTp ts (hD x) E S=tMs ts [.int x.k,.int x.n] E S:=nr rfl
theorem Rv(hi:i<ls.length)(hn:n<=(AU ls i).n):Cq [Bm ls,.int i,.int n] S=Fk (.bl true,S):=by
 have hi':(i:Int)<ls.length:=by lia
 simp[Cq,K7,hi',hi,Gn hi,hn]
theorem UT(hi:i<ls.length)(hj:j<ls.length)(h1:0<(AU ls i).n)(h2:0<(AU ls j).n)(hk:(AU ls i).k=(AU ls j).k):IE [Bm ls,.int i,.int j] S=Fk (.bl true,S):=by
 have e1:=Rv (S:=S) (n:=1) hi (by lia)
 have e2:=Rv (S:=S) (n:=1) hj (by lia)
 simp[IE,NT,e1,e2,Gn hi,Gn hj,hk]
theorem Oe{k:Nat}(hi:i<ls.length)(hn:n<=(AU ls i).n)(hk:k≠(AU ls i).k):GI [Bm ls,.int i,.int n,.int k] S=Fk (.bl true,S):=by
 have e1:=Rv (S:=S) hi hn
 have e2:(((AU ls i).k:Int)==(k:Int))=false:=by simp;lia
 simp[GI,NJ,e1,Gn hi,e2]
theorem bZ{lo hi:uL Int}:wSl lo hi (.val (Bm ls))=Fk (.own (IZ (ls.map hD) lo hi)):=nr rfl
theorem HE(hi:i<ls.length)(hl:ls.length<=60):B9 [Bm ls,.int i,.int n] S=Fk (Bm (less ls i n),S):=by
 have c1:=Ni (ds:=ls.map hD) (n:=i) (by simp;lia)
 have c2:IZ (ls.map hD) (Fk ((i:Int)+1)) uK=(ls.map hD).drop (i+1):=by
  have:=Zi (ds:=ls.map hD) (n:=i+1) (by simp;lia)
  simpa using this
 have ef:Bm (less ls i n)=.lst ((ls.map hD).take i++[.tup [.int (AU ls i).k,.int ((AU ls i).n-n)]]++(ls.map hD).drop (i+1)):=by
  rw[T6,Bm,yK,List.set_eq_take_append_cons_drop,vM (by simpa using hi)]
  simp[hD]
 have z1:(List.take i (ls.map hD)).length+1<=sizeLine:=uW (show _<=100 by simp;lia) (AN (by decide))
 have z2:(List.take i (ls.map hD)++[D.tup [.int (AU ls i).k,.int ((AU ls i).n-n)]]).length+(List.drop (i+1) (ls.map hD)).length<=sizeLine:=uW (show _<=100 by simp;lia) (AN (by decide))
 rw[ef]
 have ah:=Gn hi
 have ws:=λ{lo hi:uL Int}=>bZ (ls:=ls) (lo:=lo) (hi:=hi)
 generalize List.take i (ls.map hD)=A at*
 generalize List.drop (i+1) (ls.map hD)=B at*
 simp only[vm,vR,yV]at z2
 simp[B9,Jj,ah,ws,c1,c2,z1,z2]
end
section
variable{S:Sto}{st:Stt}{t:Tr}{k:Nat}
@[simp] theorem GR{ls:List Ld}{r:List D}:CK (.val (Bm ls)) (.val (.lst r))=if(ls.map hD).length+r.length<=sizeLine then some (.own (ls.map hD++r))else none:=nr rfl
theorem Nd{ls:Gc Ld}{y:Ld}:D.lst (ls.map hD++[.tup [.int y.k,.int y.n]])=Bm (ls++[y]):=by simp[Bm,hD]
theorem OZ(h:GB t k st)(hk:k<=17){d:Ab}(hc:Can t st d):Au [Bm st.AE,d.d] S=Fk (Bm (step t st d).AE,S):=by
 have hlen:=h.len
 have hz:(st.AE.map hD).length+1<=sizeLine:=uW (show _<=100 by simp;lia) (AN (by decide))
 have hz2:∀{i:Nat} {n:Int},((less st.AE i n).map hD).length+1<=sizeLine:=λ{i n}=>uW (show _<=100 by simp[Ca];lia) (AN (by decide))
 cases d with
 |Ip p kd n=>
  have e:=Nd (ls:=st.AE) (y:=⟨kd,n,WE t.p p⟩)
  show _=Fk (Bm (st.AE++[⟨kd,n,WE t.p p⟩]),S)
  rw[<-e]
  have wA:=GR (ls:=st.AE) (r:=[.tup [.int kd,.int n]])
  rw[vM (by simpa using hz)]at wA
  simp[Au,By,Ab.d,-GR,wA]
 |LC i j=>
  obtain⟨hij,hi,hj,h1,h2,h3⟩:=hc
  have e0:AU (less st.AE i (AU st.AE i).n) j=AU st.AE j:=by
   unfold AU less
   rw[uT,uS hij,<-uT]
  have w1:=HE (S:=S) (n:=(AU st.AE i).n) hi (by lia)
  have w2:=HE (S:=S) (ls:=less st.AE i (AU st.AE i).n) (i:=j) (n:=(AU st.AE j).n) (by rw[Ca];exact hj) (by rw[Ca];lia)
  have z3:((less (less st.AE i (AU st.AE i).n) j (AU st.AE j).n).map hD).length+1<=sizeLine:=uW (show _<=100 by simp[Ca];lia) (AN (by decide))
  have e:=Nd (ls:=less (less st.AE i (AU st.AE i).n) j (AU st.AE j).n) (y:=⟨(AU st.AE i).k,(AU st.AE i).n+(AU st.AE j).n,DF (AU st.AE i).n (AU st.AE j).n (AU st.AE i).ow (AU st.AE j).ow⟩)
  show _=Fk (Bm (less (less st.AE i (AU st.AE i).n) j (AU st.AE j).n++[_]),S)
  rw[<-e]
  have a1:=Gn hi
  have a2:=Gn hj
  have wA:=GR (ls:=less (less st.AE i (AU st.AE i).n) j (AU st.AE j).n) (r:=[.tup [.int (AU st.AE i).k,.int ((AU st.AE i).n+(AU st.AE j).n)]])
  rw[vM (by simpa using z3)]at wA
  generalize (less (less st.AE i (AU st.AE i).n) j (AU st.AE j).n).map hD=A at*
  simp[Au,By,Ab.d,a1,a2,w1,w2,-GR,wA]
 |swap i g kd n=>
  obtain⟨hi,h1,h2,h3,h4,h5,h6⟩:=hc
  have w1:=HE (S:=S) (n:=g) hi (by lia)
  have e:=Nd (ls:=less st.AE i g) (y:=⟨kd,n,(AU st.AE i).ow⟩)
  show _=Fk (Bm (less st.AE i g++[⟨kd,n,(AU st.AE i).ow⟩]),S)
  rw[<-e]
  have wA:=GR (ls:=less st.AE i g) (r:=[.tup [.int kd,.int n]])
  rw[vM (by simpa using hz2)]at wA
  simp[Au,By,Ab.d,w1,-GR,wA]
 |Hw u i g kd n=>
  obtain⟨hi,h1,h2,h3,h4,h5,h6,h7⟩:=hc
  have w1:=HE (S:=S) (n:=g) hi (by lia)
  have e:=Nd (ls:=less st.AE i g) (y:=⟨kd,n,(AU st.AE i).ow⟩)
  show _=Fk (Bm (less st.AE i g++[⟨kd,n,(AU st.AE i).ow⟩]),S)
  rw[<-e]
  have wA:=GR (ls:=less st.AE i g) (r:=[.tup [.int kd,.int n]])
  rw[vM (by simpa using hz2)]at wA
  simp[Au,By,Ab.d,w1,-GR,wA]
 |Jr i n=>
  obtain⟨hi,h1,h2⟩:=hc
  have w1:=HE (S:=S) (n:=n) hi (by lia)
  show _=Fk (Bm (less st.AE i n),S)
  simp[Au,By,Ab.d,w1]
 |thr i n ws=>
  obtain⟨hi,h1,h2,h3,h4⟩:=hc
  have w1:=HE (S:=S) (n:=n) hi (by lia)
  have e:Bm (step t st (.thr i n ws)).AE=Bm (less st.AE i n):=by
   show D.lst (((less st.AE i n).map _).map hD)=_
   rw[vh];rfl
  rw[e]
  simp[Au,By,Ab.d,w1]
 |Me p q x=>
  have e:Bm (step t st (.Me p q x)).AE=Bm st.AE:=by
   show D.lst ((st.AE.map _).map hD)=_
   rw[vh];rfl
  rw[e]
  simp[Au,By,Ab.d]
noncomputable def Jl:Ab->uL Int
 | .Hw u .. =>Fk u
 |_=>uK
theorem X1{ls:Gc Ld}:∀{ds:Gc Ab},(runs t (st0 t ls) ds).nums=ds.filterMap Jl:=by
 intro ds
 have:∀(ds:Gc Ab) (st:Stt),(runs t st ds).nums=st.nums++ds.filterMap Jl:=by
  intro ds
  induction ds with
  |nil=>intro st;simp[runs]
  |cons d ds ih=>
   intro st
   show(runs t (step t st d) ds).nums=_
   rw[ih]
   cases d<;>simp[step,Jl,vB]
 rw[this];rfl
theorem Mw:∀{ds:Gc Ab} {acc:Gc D} {o:uL D},acc.length+ds.length<=100->C8 [] (tNm 0) (eOp (o2 wEq) [eOp (o2 wIx) [eV 0,eC (.int 0)],eC (.str "trade")]) (eOp (o2 wIx) [eV 0,eC (.int 1)]) (ds.map Ab.d) acc [o] S=Fk (acc++(ds.filterMap Jl).map D.int,S)
 | [],acc,o,h=>by rw[wG,FL Aw];simp
 |d::ds,acc,o,h=>by
  have hz:acc.length<sizeLine:=uO (show acc.length<101 by simp at h;lia) (AN (by decide))
  have ht:tNm 0 d.d [o] S=Fk [Fk d.d]:=by simp
  rw[uv]
  cases d with
  |Hw u i g kd n=>
   rw[JH Aw hz ht (S1:=S) (by simp[Ab.d])]
   have:eOp (o2 wIx) [eV 0,eC (.int 1)] [Fk (Ab.Hw u i g kd n).d] S=Fk (.int u,S):=by simp[Ab.d]
   rw[this,Bx,Mw (by simp at h ⊢; lia)]
   simp[Jl,vB]
  |Ip=>rw[LP Aw hz ht (S1:=S) (by simp[Ab.d]),Mw (by simp at h ⊢; lia)];simp[Jl,vB]
  |LC=>rw[LP Aw hz ht (S1:=S) (by simp[Ab.d]),Mw (by simp at h ⊢; lia)];simp[Jl,vB]
  |swap=>rw[LP Aw hz ht (S1:=S) (by simp[Ab.d]),Mw (by simp at h ⊢; lia)];simp[Jl,vB]
  |Jr=>rw[LP Aw hz ht (S1:=S) (by simp[Ab.d]),Mw (by simp at h ⊢; lia)];simp[Jl,vB]
  |thr=>rw[LP Aw hz ht (S1:=S) (by simp[Ab.d]),Mw (by simp at h ⊢; lia)];simp[Jl,vB]
  |Me=>rw[LP Aw hz ht (S1:=S) (by simp[Ab.d]),Mw (by simp at h ⊢; lia)];simp[Jl,vB]
theorem YB{ds:Gc Ab}{d:Ab}(hd:ds.length<=50)(hn:st.nums=ds.filterMap Jl)(hc:Can t st d):C4 [Bm st.AE,.tup (ds.map Ab.d),d.d] S=Fk (.bl true,S):=by
 cases d with
 |Ip p kd n=>simp[C4,Ey,Ab.d]
 |LC i j=>
  obtain⟨hij,hi,hj,h1,h2,h3⟩:=hc
  have e:=UT (S:=S) hi hj h1 h2 h3
  simp[C4,Ey,Ab.d,e]
 |swap i g kd n=>
  obtain⟨hi,h1,h2,h3,h4,h5,h6⟩:=hc
  have e:=Oe (S:=S) (k:=kd) hi h2 h4
  simp[C4,Ey,Ab.d,e]
 |Hw u i g kd n=>
  obtain⟨hi,h1,h2,h3,h4,h5,h6,h7,h8⟩:=hc
  have e:=Oe (S:=S) (k:=kd) hi h2 h4
  have tc:=Mw (S:=S) (ds:=ds) (acc:=[]) (o:=uK) (by simp;lia)
  rw[<-hn]at tc
  have fi:=SG (us:=st.nums)
  have ii:=UX (us:=st.nums) (i:=u)
  have iu:(st.nums.any λx=>x==u)=false:=by
   rw[List.any_eq_false]
   intro x hx z
   have:x=u:=by simpa using z
   exact h7 (this▸hx)
  rw[iu]at ii
  generalize st.nums.map D.int=ud at*
  simp[C4,Ey,Ab.d,tc,fi,ii,e]
 |Jr i n=>
  obtain⟨hi,h1,h2⟩:=hc
  have e:=Rv (S:=S) hi h2
  simp[C4,Ey,Ab.d,e]
 |thr i n ws=>
  obtain⟨hi,h1,h2,h3,h4⟩:=hc
  have e:=Rv (S:=S) hi h2
  simp[C4,Ey,Ab.d,e]
 |Me p q x=>simp[C4,Ey,Ab.d]
end
section
variable{S:Sto}{st:Stt}{t:Tr}{k:Nat}
theorem av{ss os:Gc Rat}:Nb (ss.map aD) (os.map aD)=(ss.zip os).map λz=>D.tup [aD z.1,aD z.2]:=by
 unfold Nb
 rw[List.zip_map,vh]
 rfl
noncomputable def gd(w m:Int)(ss os:Gc Rat):Gc Rat:=zO (λs o=>(s*w+o*m) / (w+m)) ss os
theorem Hh{w m:Int}{ss os:Gc Rat}{j n:Nat}(hs:∀r∈ss,Sz j r)(ho:∀r∈os,Sz j r)(hw:w.natAbs<2^n)(hm:m.natAbs<2^n)(h:0<w+m)(hj:2*j+n+1<=7990)(hl:ss.length<=50):DX [shD ss,.int w,shD os,.int m] S=Fk (shD (gd w m ss os),S):=by
 have e:=Ea (gs:=[]) (t:=tTp [tNm 2,tNm 3]) (f:=AJ J6 [eV 2,eV 0,eV 3,eV 1]) (C:=[Fk (.int w),Fk (.int m)]) (m:=2) (e:=λz:Rat×Rat=>D.tup [aD z.1,aD z.2]) (g:=λz=>aD ((z.1*w+z.2*m) / (w+m))) (S:=S) Aw (xs:=ss.zip os) (acc:=[]) (os:=[uK,uK]) rfl (uW (show _<=50 by simp;lia) (AN (by decide))) (by
  intro z hz os' ho'
  obtain⟨q1,q2,rfl⟩:=iE ho'
  have hm2:=wF (a:=z.1) (b:=z.2) hz
  have l:=iq (S:=S) (hs _ hm2.1) (ho _ hm2.2) hw hm h (by lia)
  refine⟨[Fk (aD z.1),Fk (aD z.2)],rfl,by simp,?_⟩
  simp[l])
 rw[<-av]at e
 have em:(ss.zip os).map (λz=>aD ((z.1*w+z.2*m) / (w+m)))=(gd w m ss os).map aD:=by
  unfold gd
  rw[<-List.map_uncurry_zip_eq_zipWith,vh]
  rfl
 rw[em]at e
 simp only[vS,vH]at e
 simp[DX,Jk,e,UI]
theorem RQ{P p:Nat}(hP:P<=50):F8 [.int P,.int p] S=Fk (shD (WE P p),S):=by
 have e:=Ue (S:=S) (P:=P) (p:=p) (cond:=0) (C:=[]) (dd:=.int p) (f:=eIf (eOp (o2 wEq) [eV 1,eV 0]) (eC XB) (eC GX)) hP (by
  intro i
  by_cases hi:i=p
  .subst hi;simp;rfl
  .have:((i:Int)==(p:Int))=false:=by simp;lia
   simp[this,hi];rfl)
 have rn:Jq (P:Int)=true:=DZ (by lia) (by lia)
 simp[F8,LA,rn,e,UI]
theorem Oz{n m:Int}{ss os:Gc Rat}:gd n m ss os=DF n m ss os:=by
 unfold gd DF
 congr 1
 funext s o
 push_cast
 rfl
theorem UA{n m:Int}{ss os:Gc Rat}:DF n m ss os=DF m n os ss:=by
 unfold DF
 rw[List.zipWith_comm]
 congr 1
 funext o s
 push_cast
 grind
@[simp] theorem YR{a b:Int}:PU [a,b]=if a<=b then [a,b]else [b,a]:=by
  unfold PU
  simp[List.mergeSort,ABd,List.merge]
@[simp] theorem gF{a b:Int}:Qq (.val (.lst [.int a,.int b]))=some (.own ((if a<=b then [a,b]else [b,a]).map D.int)):=by
  have:Qq (.val (.lst [.int a,.int b]))=Fk (.own ((PU [a,b]).map D.int)):=rfl
  rw[this,YR]
@[simp] theorem m9{a b c d e:D}:atI [a,b,c,d,e] (-4)=some b:=nr rfl
@[simp] theorem lV{a b c d e f:D}:atI [a,b,c,d,e,f] (-4)=some c:=nr rfl
theorem XC{i j:Nat}(ht:Jy t)(h:GB t k st)(hk:k<=17)(hc:Can t st (.LC i j)):Bj [Bm st.AE,K1 st.AE,(Ab.LC i j).d] S=Fk (shD (DF (AU st.AE i).n (AU st.AE j).n (AU st.AE i).ow (AU st.AE j).ow),S):=by
 obtain⟨hij,hi,hj,h1,h2,h3⟩:=hc
 have sz:=h.sz
 have pi:=h.pcs _ (A4 hi)
 have pj:=h.pcs _ (A4 hj)
 have ti:=h.own _ (A4 hi)
 have tj:=h.own _ (A4 hj)
 have zi:=sz.1 _ (A4 hi)
 have zj:=sz.1 _ (A4 hj)
 have hp:t.p<=10:=by have:=ht.2.1;lia
 .by_cases hle:i<=j
  .have hle':(i:Int)<=j:=by lia
   have e:=Hh (S:=S) (j:=30+170*k) (n:=131+k) zi zj (IS pi.1 pi.2) (IS pj.1 pj.2) (by lia) (by lia) (by lia)
   rw[Oz]at e
   have a1:=Gn hi
   have a2:=Gn hj
   have b1:=O4 hi
   have b2:=O4 hj
   have mf:Cf [(Ab.LC i j).d] S=Fk (.lst [.int i,.int j],S):=by
    simp[Cf,FW,Ab.d,hle,hle']
   simp only[Ab.d]at mf⊢
   simp[Bj,D0,mf,a1,a2,b1,b2,e]
  .have hle':¬(i:Int)<=j:=by lia
   have e:=Hh (S:=S) (j:=30+170*k) (n:=131+k) zj zi (IS pj.1 pj.2) (IS pi.1 pi.2) (by lia) (by lia) (by lia)
   rw[Oz,UA]at e
   have a1:=Gn hi
   have a2:=Gn hj
   have b1:=O4 hi
   have b2:=O4 hj
   have mf:Cf [(Ab.LC i j).d] S=Fk (.lst [.int j,.int i],S):=by
    simp[Cf,FW,Ab.d,hle,hle']
   simp only[Ab.d]at mf⊢
   simp[Bj,D0,mf,a1,a2,b1,b2,e]
theorem YW{i kd:Nat}{g n:Int}(hi:i<st.AE.length):Bj [Bm st.AE,K1 st.AE,(Ab.swap i g kd n).d] S=Fk (shD (AU st.AE i).ow,S):=by
 have b1:=O4 hi
 simp[Bj,D0,Cf,FW,Ab.d,b1]
theorem Vb{i kd:Nat}{u g n:Int}(hi:i<st.AE.length):Bj [Bm st.AE,K1 st.AE,(Ab.Hw u i g kd n).d] S=Fk (shD (AU st.AE i).ow,S):=by
 have b1:=O4 hi
 simp[Bj,D0,Cf,FW,Ab.d,b1]
theorem Z2{ws:Gc Int}(h:GB t k st)(hk:k<=17)(hl:ws.length=t.k+1)(hw:∀w∈ws,1<=w/\w<=99):EV [t.d,Bm st.AE,.tup (ws.map D.int)] S=Fk (.int (EH t st.AE ws),S):=by
 have hlen:=h.len
 have e:=Ea (gs:=[]) (t:=tTp [tNm 1,tNm 2]) (f:=eOp (o2 CG) [eV 2,eOp (o2 wIx) [eV 0,eV 1]]) (C:=[Fk (.tup (ws.map D.int))]) (m:=2) (e:=hD) (g:=λx=>D.int (x.n*ws.getD x.k 0)) (S:=S) Aw (xs:=st.AE) (acc:=[]) (os:=[uK,uK]) rfl (uW (show _<=50 by simp;lia) (AN (by decide))) (by
  intro x hx os ho
  obtain⟨q1,q2,rfl⟩:=iE ho
  have hkk:=h.kind _ hx
  have w1:=U0 (ws:=ws) (i:=x.k) (by lia)
  have w2:=N3 hw (i:=x.k) (by lia)
  have m1:Dc x.n (ws.getD x.k 0)=true:=mulR (by lia) (by lia)
  generalize ws.getD x.k 0=wz at*
  refine⟨[Fk (.int x.k),Fk (.int x.n)],rfl,by simp,?_⟩
  simp[w1,m1])
 simp only[vS,vH]at e
 have es:NZ (st.AE.map λx=>D.int (x.n*ws.getD x.k 0))=Fk (st.AE.map λx=>x.n*ws.getD x.k 0):=by
  have:=Ic (st.AE.map λx=>x.n*ws.getD x.k 0)
  rwa [vh]at this
 have w2:=RO hl
 have w4:=N3 hw (i:=t.k) (by lia)
 have m2:Dc (t.b:Int) (ws.getD t.k 0)=true:=mulR (by lia) (by lia)
 have e2:EH t st.AE ws=(st.AE.map λx=>x.n*ws.getD x.k 0).sum+t.b*ws.getD t.k 0:=rfl
 rw[e2]
 have sq:sqD S (Bm st.AE)=Fk (st.AE.map hD,[]):=rfl
 generalize (st.AE.map λx=>x.n*ws.getD x.k 0)=es' at*
 generalize (st.AE.map λx=>D.int (x.n*ws.getD x.k 0))=es2 at*
 generalize ws.getD t.k 0=wb at*
 simp[EV,Jc,Tr.d,sq,e,es,w2,m2]
theorem Wx{i:Nat}{n:Int}{ws:Gc Int}(ht:Jy t)(h:GB t k st)(hk:k<=17)(hc:Can t st (.thr i n ws)):Dp [t.d,Bm st.AE,(Ab.thr i n ws).d] S=Fk (aD (KZ t st.AE i n ws),S):=by
 obtain⟨hi,h1,h2,hl,hw⟩:=hc
 have a:=Kv ht h (by lia) hl hw
 have w1:=U0 (ws:=ws) (i:=(AU st.AE i).k) (by have:=h.kind _ (A4 hi);lia)
 have w3:=N3 hw (i:=(AU st.AE i).k) (by have:=h.kind _ (A4 hi);lia)
 have m1:Dc n (ws.getD (AU st.AE i).k 0)=true:=mulR (by lia) (by lia)
 have l1:=XD (S:=S) (t:=n*ws.getD (AU st.AE i).k 0) a.1 (ER (IS (by lia) a.2) (by lia))
 have wo:=Z2 (S:=S) h hk hl hw
 have ah:=Gn hi
 rw[Np hi]
 generalize aD (((n*ws.getD (AU st.AE i).k 0:Int):Rat) / (EH t st.AE ws:Rat))=R at*
 generalize ws.getD (AU st.AE i).k 0=wa at*
 simp[Dp,J9,Ab.d,ah,w1,m1,wo,l1]
theorem WQ{X:Rat}{ss os:Gc Rat}:gd ((X.den:Int)-X.num) X.num ss os=Jp X os ss:=by
 unfold gd Jp
 congr 1
 funext s o
 have h1:=FZ X
 have h2:=LG X
 push_cast
 have e:((X.den:Rat)-(X.num:Rat)+(X.num:Rat))=(X.den:Rat):=by grind
 rw[e]
 grind
theorem WU{i:Nat}{n:Int}{ws:Gc Int}{ss:Gc Rat}(ht:Jy t)(h:GB t k st)(hk:k<=17)(hc:Can t st (.thr i n ws))(hs:∀r∈ss,Sz (30+170*k) r)(hl:ss.length<=50):D9 [t.d,Bm st.AE,K1 st.AE,(Ab.thr i n ws).d,shD ss] S=Fk (shD (Jp (KZ t st.AE i n ws) (AU st.AE i).ow ss),S):=by
 have pt:=Wx (S:=S) ht h hk hc
 obtain⟨hi,h1,h2,hl',hw⟩:=hc
 have cz:=X0 ht h (by lia) hl' hw hi h1 h2
 have b1:=O4 hi
 generalize KZ t st.AE i n ws=X at*
 have d0:=den_pos X
 have c2:=cz.2
 have e:=Hh (S:=S) (w:=(X.den:Int)-X.num) (m:=X.num) (j:=30+170*k) (n:=146+k) hs (h.sz.1 _ (A4 hi)) (by
  have c1:=cz.1
  have:2^(146+k)=2^(145+k)*2:=by rw[show 146+k=(145+k)+1 by lia,AAc]
  generalize 2^(145+k)=P at*
  lia) (gQ cz.1 (by lia)) (by lia) (by lia) hl
 rw[WQ]at e
 generalize Jp X (AU st.AE i).ow ss=rs at*
 simp only[aD,Ab.d]at pt⊢
 simp[D9,JA,pt,b1,e]
theorem WS{p q:Nat}{x:Rat}{ss:Gc Rat}{j i:Nat}(hs:∀r∈ss,Sz j r)(hx:Sz i x)(hj:2*j+i<=7900)(hp:p<ss.length)(hq:q<ss.length)(hpq:p≠q):∃S',FD [(Ab.Me p q x).d,shD ss] S=Fk (shD (IT p q x ss),S')/\Cj [] S S':=by
 have sp:=hs _ (getD_mem (d:=0) hp)
 have sq:=hs _ (getD_mem (d:=0) hq)
 have l1:∀S,EM [aD (ss.getD p 0),aD x] S=Fk (aD (ss.getD p 0*x),S):=λS=>Wr sp hx (by lia)
 have s1:=P5 sp hx
 have l2:∀S,Lp [aD (ss.getD p 0),aD (ss.getD p 0*x)] S=Fk (aD (ss.getD p 0-ss.getD p 0*x),S):=λS=>pB sp s1 (by lia)
 have l3:∀S,Gz [aD (ss.getD q 0),aD (ss.getD p 0*x)] S=Fk (aD (ss.getD q 0+ss.getD p 0*x),S):=λS=>eA sq s1 (by lia)
 have a1:=WY hp
 have a2:=WY hq
 have i1:=da hp
 have i2:ixN (((ss.map aD).set p (aD (ss.getD p 0-ss.getD p 0*x))).length) (q:Int)=Fk q:=RP (by simpa using hq)
 refine⟨S++[.lst ((IT p q x ss).map aD)],?_,.app⟩
 simp only[xE,vT]at i1 i2
 have em:(IT p q x ss).map aD=((ss.map aD).set p (aD (ss.getD p 0-ss.getD p 0*x))).set q (aD (ss.getD q 0+ss.getD p 0*x)):=by rw[IT,yK,yK]
 unfold shD
 rw[em]
 generalize aD (ss.getD p 0-ss.getD p 0*x)=d1 at*
 generalize aD (ss.getD q 0+ss.getD p 0*x)=d2 at*
 generalize aD (ss.getD p 0*x)=d3 at*
 generalize aD (ss.getD p 0)=d4 at*
 generalize aD (ss.getD q 0)=d5 at*
 simp[FD,J0,Ab.d,a1,a2,l1,l2,l3,i1,i2]
end
theorem SF{α:Type}{gs:Gd}{t:Tf}{f:Ev}{C:En}{m:Nat}{e g:α->D}(hg:∀S,gOk gs S):∀{xs:Gc α} {acc:Gc D} {os:En} {S:Sto},os.length=m->acc.length+xs.length<=sizeLine->(∀x∈xs,∀os S,os.length=m->∃us S',us.length=m/\t (e x) (C++os) S=Fk (C++us)/\f (C++us) S=Fk (g x,S')/\Cj [] S S')->∃S',C8 gs t Cr f (xs.map e) acc (C++os) S=Fk (acc++xs.map g,S')/\Cj [] S S'
 | [],acc,os,S,ho,hz,h=>⟨S,by rw[wG,FL (hg S)];simp,.refl⟩
 |x::xs,acc,os,S,ho,hz,h=>by
  obtain⟨us,S1,hu,e1,e2,s1⟩:=h x uX os S ho
  obtain⟨S2,e3,s2⟩:=SF hg (xs:=xs) (acc:=acc++[g x]) (os:=us) (S:=S1) hu (by simp at hz ⊢; lia) λx' hx=>h x' (uR _ hx)
  refine⟨S2,?_,s1.trans s2⟩
  rw[uv,JH (hg S) (by simp at hz;lia) e1 Hr,e2,Bx,e3]
  simp
section
variable{S:Sto}{st:Stt}{t:Tr}{k:Nat}
noncomputable def shB(t:Tr)(st:Stt):Ab->Gc Rat->Gc Rat
 | .thr i n ws,ss=>Jp (KZ t st.AE i n ws) (AU st.AE i).ow ss
 | .Me p q x,ss=>IT p q x ss
 |_,ss=>ss
theorem Ry{d:Ab}{ss:Gc Rat}(ht:Jy t)(h:GB t k st)(hk:k<=17)(hc:Can t st d)(hs:∀r∈ss,Sz (30+170*k) r)(hl:ss.length=t.p):∃S',Ao [t.d,Bm st.AE,K1 st.AE,d.d,shD ss] S=Fk (shD (shB t st d ss),S')/\Cj [] S S':=by
 have tp:=ht.2.1
 cases d with
 |thr i n ws=>
  have e:=WU (S:=S) ht h hk hc hs (by lia)
  refine⟨S,?_,.refl⟩
  simp only[Ab.d]at e⊢
  simp[Ao,Bb,e,shB]
 |Me p q x=>
  obtain⟨hpq,hp,hq,x1,x2,x3⟩:=hc
  have hx:Sz 4 x:=by
   refine⟨?_,by lia⟩
   show x.num.natAbs<16
   lia
  obtain⟨S',e,sm⟩:=WS (S:=S) (p:=p) (q:=q) hs hx (by lia) (by lia) (by lia) hpq
  refine⟨S',?_,sm⟩
  simp only[Ab.d]at e⊢
  simp[Ao,Bb,e,shB]
 |Ip p kd n=>exact⟨S,by simp[Ao,Bb,Ab.d,shB],.refl⟩
 |LC i j=>exact⟨S,by simp[Ao,Bb,Ab.d,shB],.refl⟩
 |swap i g kd n=>exact⟨S,by simp[Ao,Bb,Ab.d,shB],.refl⟩
 |Hw u i g kd n=>exact⟨S,by simp[Ao,Bb,Ab.d,shB],.refl⟩
 |Jr i n=>exact⟨S,by simp[Ao,Bb,Ab.d,shB],.refl⟩
theorem X6{d:Ab}:(step t st d).hold=shB t st d st.hold:=by cases d<;>rfl
theorem Mh{i:Nat}{n:Int}{ls:Gc Ld}(hi:i<ls.length){β:Type}(f:Gc Rat->β):(less ls i n).map (λx=>f x.ow)=ls.map λx=>f x.ow:=by
 rw[T6,yK]
 have:(ls.map λx=>f x.ow)[i]?=Fk (f (AU ls i).ow):=by rw[uY,G4 hi];rfl
 apply zx
 intro j
 by_cases e:i=j
 .subst e;rw[ua (by simpa using hi),this]
 .rw[uS e]
@[simp] theorem qy{ls:List Ld}:sqD S (K1 ls)=some (ls.map λx=>shD x.ow,[]):=nr rfl
theorem Wk{d:Ab}(ht:Jy t)(h:GB t k st)(hk:k<=17)(hc:Can t st d):∃S',A8 [t.d,Bm st.AE,K1 st.AE,d.d] S=Fk (K1 (step t st d).AE,S')/\Cj [] S S':=by
 have hlen:=h.len
 have sz:=h.sz
 have tp:=ht.2.1
 obtain⟨S',e,sm⟩:=SF (gs:=[]) (t:=tNm 4) (f:=AJ Ao [eV 0,eV 1,eV 2,eV 3,eV 4]) (C:=[Fk t.d,Fk (Bm st.AE),Fk (K1 st.AE),Fk d.d]) (m:=1) (e:=λx:Ld=>shD x.ow) (g:=λx=>shD (shB t st d x.ow)) (λ_=>Aw) (xs:=st.AE) (acc:=[]) (os:=[uK]) (S:=S) rfl (uW (show _<=50 by simp;lia) (AN (by decide))) (by
  intro x hx os S0 ho
  obtain⟨q1,rfl⟩:=YZ ho
  obtain⟨S1,e1,s1⟩:=Ry (S:=S0) (d:=d) (ss:=x.ow) ht h hk hc (sz.1 x hx) (h.own x hx)
  refine⟨[Fk (shD x.ow)],S1,rfl,by simp,?_,s1⟩
  simp[e1])
 simp only[vS,vH]at e
 refine⟨S',?_,sm⟩
 have hz:(st.AE.map λx=>shD (shB t st d x.ow)).length+1<=sizeLine:=uW (show _<=100 by simp;lia) (AN (by decide))
 cases d with
 |Ip p kd n=>
  have a1:=RQ (S:=S') (P:=t.p) (p:=p) (by lia)
  have ef:K1 (step t st (.Ip p kd n)).AE=.lst ((st.AE.map λx=>shD (shB t st (.Ip p kd n) x.ow))++[shD (WE t.p p)]):=by simp[K1,step,shB]
  rw[ef]
  generalize (st.AE.map λx=>shD (shB t st (.Ip p kd n) x.ow))=A at*
  simp only[Ab.d,Tr.d]at e⊢
  simp[A8,BX,e,a1,hz]
 |LC i j=>
  have a1:=XC (S:=S') ht h hk hc
  obtain⟨hij,hi,hj,h1,h2,h3⟩:=hc
  have e0:AU (less st.AE i (AU st.AE i).n) j=AU st.AE j:=by
   unfold AU less
   rw[uT,uS hij,<-uT]
  have ef:K1 (step t st (.LC i j)).AE=.lst ((st.AE.map λx=>shD (shB t st (.LC i j) x.ow))++[shD (DF (AU st.AE i).n (AU st.AE j).n (AU st.AE i).ow (AU st.AE j).ow)]):=by
   show D.lst ((less (less st.AE i (AU st.AE i).n) j (AU st.AE j).n++[_]).map λx:Ld=>shD x.ow)=_
   rw[wg,Mh (by rw[Ca];exact hj),Mh hi]
   rfl
  rw[ef]
  generalize (st.AE.map λx=>shD (shB t st (.LC i j) x.ow))=A at*
  simp only[Ab.d]at e a1⊢
  simp[A8,BX,e,a1,hz]
 |swap i g kd n=>
  have hi:=hc.1
  have a1:=YW (S:=S') (st:=st) (i:=i) (kd:=kd) (g:=g) (n:=n) hi
  have ef:K1 (step t st (.swap i g kd n)).AE=.lst ((st.AE.map λx=>shD (shB t st (.swap i g kd n) x.ow))++[shD (AU st.AE i).ow]):=by
   show D.lst ((less st.AE i g++[_]).map λx:Ld=>shD x.ow)=_
   rw[wg,Mh hi]
   rfl
  rw[ef]
  generalize (st.AE.map λx=>shD (shB t st (.swap i g kd n) x.ow))=A at*
  simp only[Ab.d]at e a1⊢
  simp[A8,BX,e,a1,hz]
 |Hw u i g kd n=>
  have hi:=hc.1
  have a1:=Vb (S:=S') (st:=st) (i:=i) (kd:=kd) (u:=u) (g:=g) (n:=n) hi
  have ef:K1 (step t st (.Hw u i g kd n)).AE=.lst ((st.AE.map λx=>shD (shB t st (.Hw u i g kd n) x.ow))++[shD (AU st.AE i).ow]):=by
   show D.lst ((less st.AE i g++[_]).map λx:Ld=>shD x.ow)=_
   rw[wg,Mh hi]
   rfl
  rw[ef]
  generalize (st.AE.map λx=>shD (shB t st (.Hw u i g kd n) x.ow))=A at*
  simp only[Ab.d]at e a1⊢
  simp[A8,BX,e,a1,hz]
 |Jr i n=>
  have ef:K1 (step t st (.Jr i n)).AE=.lst (st.AE.map λx=>shD (shB t st (.Jr i n) x.ow)):=by
   show D.lst ((less st.AE i n).map λx:Ld=>shD x.ow)=_
   rw[Mh hc.1]
   rfl
  rw[ef]
  generalize (st.AE.map λx=>shD (shB t st (.Jr i n) x.ow))=A at*
  simp only[Ab.d]at e⊢
  simp[A8,BX,e]
 |thr i n ws=>
  have ef:K1 (step t st (.thr i n ws)).AE=.lst (st.AE.map λx=>shD (shB t st (.thr i n ws) x.ow)):=by
   show D.lst (((less st.AE i n).map _).map λx:Ld=>shD x.ow)=_
   rw[vh]
   exact congrArg D.lst (Mh hc.1 (λo=>shD (Jp (KZ t st.AE i n ws) (AU st.AE i).ow o)))
  rw[ef]
  generalize (st.AE.map λx=>shD (shB t st (.thr i n ws) x.ow))=A at*
  simp only[Ab.d]at e⊢
  simp[A8,BX,e]
 |Me p q x=>
  have ef:K1 (step t st (.Me p q x)).AE=.lst (st.AE.map λy=>shD (shB t st (.Me p q x) y.ow)):=by
   show D.lst ((st.AE.map _).map λy:Ld=>shD y.ow)=_
   rw[vh]
   rfl
  rw[ef]
  generalize (st.AE.map λy=>shD (shB t st (.Me p q x) y.ow))=A at*
  simp only[Ab.d]at e⊢
  simp[A8,BX,e]
theorem MP{ls:Gc Ld}{x y:D}(hl:ls.length<=50):CN [.tup [x,.tup (ls.map Ld.d),y]] S=Fk (Bm ls,S):=by
 have e:=Ea (gs:=[]) (t:=tNm 0) (f:=Cm [eOp (o2 wIx) [eV 0,eC (.int 0)],eOp (o2 wIx) [eV 0,eC (.int 1)]]) (C:=[]) (m:=1) (e:=Ld.d) (g:=hD) (S:=S) Aw (xs:=ls) (acc:=[]) (os:=[uK]) rfl (uW (show _<=50 by simp;lia) (AN (by decide))) (by
  intro x hx os ho
  obtain⟨q1,rfl⟩:=YZ ho
  refine⟨[Fk x.d],rfl,by simp,?_⟩
  simp[Ld.d,hD])
 simp only[vH]at e
 simp[CN,Ij,e,Bm]
theorem WL{ls:Gc Ld}(hl:ls.length<=50):C8 [] (tNm 0) Cr (eOp (o2 wIx) [eV 0,eC (.int 2)]) (ls.map Ld.d) [] [uK] S=Fk (ls.map λx=>shD x.ow,S):=
 Ea (gs:=[]) (t:=tNm 0) (f:=eOp (o2 wIx) [eV 0,eC (.int 2)]) (C:=[]) (m:=1) (e:=Ld.d) (g:=λx=>shD x.ow) (S:=S) Aw (xs:=ls) (acc:=[]) (os:=[uK]) rfl (uW (show _<=50 by simp;lia) (AN (by decide))) (by
  intro x hx os ho
  obtain⟨q1,rfl⟩:=YZ ho
  refine⟨[Fk x.d],rfl,by simp,?_⟩
  simp[Ld.d])
theorem Uy{ls:Gc Ld}{ds:Gc Ab}{n:Nat}(h:BO t ls ds)(hn:n<=ds.length):∃S',GK [Ad t ls ds,.int n] S=Fk (.tup [Bm (runs t (st0 t ls) (ds.take n)).AE,K1 (runs t (st0 t ls) (ds.take n)).AE,shD (runs t (st0 t ls) (ds.take n)).hold],S')/\Cj [] S S':=by
 have hl0:ls.length<=4:=h.inv.len
 have ct:IZ (ds.map Ab.d) uK (Fk (n:Int))=(ds.take n).map Ab.d:=by rw[Ni (by simpa using hn),z9]
 obtain⟨E',S',ef,i,o,f1,f2,rfl,f3⟩:=EJ (gs:=[]) (t:=tNm 8) (b:=Aa (BQ 7 (AJ Ao [eV 2,eV 5,eV 6,eV 8,eV 7]))
  (Aa (BQ 6 (AJ A8 [eV 2,eV 5,eV 6,eV 8]))
  (BQ 5 (AJ Au [eV 5,eV 8]))))
  (I:=λrs E S'=>∃(i:Nat) (o:uL D),rs=((ds.take n).drop i).map Ab.d/\i<=n/\E=[Fk (Ad t ls ds),Fk (.int n),Fk t.d,Fk (.tup (ls.map Ld.d)),Fk (.tup (ds.map Ab.d)),Fk (Bm (runs t (st0 t ls) (ds.take i)).AE),Fk (K1 (runs t (st0 t ls) (ds.take i)).AE),Fk (shD (runs t (st0 t ls) (ds.take i)).hold),o]/\Cj [] S S')
  (λ_ _ _ _=>Aw) (ds:=(ds.take n).map Ab.d) (E:=[Fk (Ad t ls ds),Fk (.int n),Fk t.d,Fk (.tup (ls.map Ld.d)),Fk (.tup (ds.map Ab.d)),Fk (Bm ls),Fk (K1 ls),Fk (shD t.ho),uK]) (S:=S)
  ⟨0,uK,by simp,we _,by simp[runs,st0],.refl⟩ (by
    rintro dd rs E T ⟨i,o,i1,i2,rfl,i3⟩
    have hlt:i<(ds.take n).length:=by
     rcases xY i (ds.take n).length with w|w
     .exact w
     .rw[vf w]at i1;cases i1
    rw[vG hlt,uv]at i1
    injection i1 with z1 z2
    subst z1 z2
    have hlt':i<ds.length:=by simp at hlt;lia
    have hin:i<n:=by simp at hlt;lia
    have hg:(ds.take n)[i]=ds[i]:=List.getElem_take
    rw[hg]
    have inv:=h.at i
    have il:(ds.take i).length<=16:=by have:=h.len;simp;lia
    have can:=GC h.good (tz hlt')
    obtain⟨T1,e1,s1⟩:=Ry (S:=T) h.tr inv (by lia) can inv.sz.2 inv.hold
    obtain⟨T2,e2,s2⟩:=Wk (S:=T1) h.tr inv (by lia) can
    have e3:=OZ (S:=T2) inv (by lia) can
    have rt:=Kh (t:=t) (st:=st0 t ls) (tz hlt')
    refine⟨_,[Fk (Ad t ls ds),Fk (.int n),Fk t.d,Fk (.tup (ls.map Ld.d)),Fk (.tup (ds.map Ab.d)),Fk (Bm (runs t (st0 t ls) (ds.take (i+1))).AE),Fk (K1 (runs t (st0 t ls) (ds.take (i+1))).AE),Fk (shD (runs t (st0 t ls) (ds.take (i+1))).hold),Fk ds[i].d],T2,by simp;rfl,?_,i+1,Fk ds[i].d,rfl,hin,rfl,(i3.trans s1).trans s2⟩
    rw[rt]
    rw[<-X6]at e1
    simp[e1,e2,e3])
 have hz:i=n:=by
  have:=congrArg xp f1
  simp at this
  lia
 subst hz
 refine⟨S',?_,f3⟩
 have fh:=MP (S:=S) (ls:=ls) (x:=t.d) (y:=.tup (ds.map Ab.d)) (by lia)
 have fo:=WL (S:=S) (ls:=ls) (by lia)
 have fo':D.lst (ls.map λx=>shD x.ow)=K1 ls:=rfl
 have th:atI [D.int t.p,D.int t.k,D.int t.b,shD t.ho,D.int t.h,D.int t.l] 3=Fk (shD t.ho):=by simp
 simp only[Ad]at ef⊢
 have td:wIx (.val t.d) (.val (.int 3))=Fk (.val (shD t.ho)):=by simp[Tr.d]
 have dt:dr S t.d=.val t.d:=rfl
 rw[z9]at ef ct
 simp[GK,NR,fh,fo,fo',-gW,td,dt,ct,ef]
theorem Ph{ls:Gc Ld}{ds:Gc Ab}(h:BO t ls ds):FF [Ad t ls ds] S=Fk (.non,S):=by
 have hl0:ls.length<=4:=h.inv.len
 have hd:=h.len
 obtain⟨E',S',ef,i,o1,o2,f1,f2,rfl,rfl⟩:=EJ (gs:=[]) (t:=tTp [tNm 3,tNm 4]) (b:=Aa (xIf (UC (AJ C4 [eV 1,eOp (Kn false true) [eV 2,eV 3],eV 4])) (BJ (eV 3)) D5)
  (BQ 1 (AJ Au [eV 1,eV 4])))
  (I:=λrs E S'=>∃(i:Nat) (o1 o2:uL D),rs=(RX 0 (ds.map Ab.d)).drop i/\i<=ds.length/\E=[Fk (Ad t ls ds),Fk (Bm (runs t (st0 t ls) (ds.take i)).AE),Fk (.tup (ds.map Ab.d)),o1,o2]/\S'=S)
  (λ_ _ _ _=>Aw) (ds:=RX 0 (ds.map Ab.d)) (E:=[Fk (Ad t ls ds),Fk (Bm ls),Fk (.tup (ds.map Ab.d)),uK,uK]) (S:=S)
  ⟨0,uK,uK,by simp,we _,by simp[runs,st0],rfl⟩ (by
    rintro dd rs E T ⟨i,o1,o2,i1,i2,rfl,rfl⟩
    have el:(RX 0 (ds.map Ab.d)).length=ds.length:=by rw[MK];simp
    have hlt:i<ds.length:=by
     rcases xY i ds.length with w|w
     .exact w
     .rw[vf (by lia)]at i1;cases i1
    rw[vG (by lia)]at i1
    injection i1 with z1 z2
    have hd1:dd=.tup [.int i,ds[i].d]:=by
     have:=Na (ds:=ds.map Ab.d) (k:=0) (i:=i)
     rw[tz (by lia),<-z1,uY,tz hlt]at this
     simpa using this
    subst z2
    subst hd1
    have inv:=h.at i
    have il:(ds.take i).length<=16:=by simp;lia
    have can:=GC h.good (tz hlt)
    have cd:=YB (S:=T) (ds:=ds.take i) (by lia) X1 can
    have e3:=OZ (S:=T) inv (by lia) can
    have rt:=Kh (t:=t) (st:=st0 t ls) (tz hlt)
    have ct:=Ni (ds:=ds.map Ab.d) (n:=i) (by simp;lia)
    rw[z9]at cd
    refine⟨_,[Fk (Ad t ls ds),Fk (Bm (runs t (st0 t ls) (ds.take (i+1))).AE),Fk (.tup (ds.map Ab.d)),Fk (.int i),Fk ds[i].d],T,by simp;rfl,?_,i+1,Fk (.int i),Fk ds[i].d,rfl,hlt,rfl,rfl⟩
    rw[rt]
    simp[ct,cd,e3])
 have fh:=MP (S:=S') (ls:=ls) (x:=t.d) (y:=.tup (ds.map Ab.d)) (by lia)
 simp only[Ad]at ef⊢
 simp[FF,Kl,fh,ef]
theorem Ii{ls:Gc Ld}{ds:Gc Ab}(h:BO t ls ds):Ay [Ad t ls ds] S=Fk (.non,S):=by
 have e:=Ph (S:=S) h
 simp[Ay,Io,e,isN]
end
section
variable{S:Sto}
theorem eW{ns:Gc Int}{k:Nat}:∃c,EG [.scr ns,.int k] S=Fk (.int c,S):=by
 by_cases h:k<ns.length
 .have h':(k:Int)<ns.length:=by lia
  refine⟨ns[k],?_⟩
  have e:atI (ns.map D.int) (k:Int)=Fk (.int ns[k]):=CF (by rw[uY,tz h];rfl)
  simp[EG,Ja,h,h',e]
 .have h':¬(k:Int)<ns.length:=by lia
  exact⟨0,by simp[EG,Ja,h,h']⟩
end
theorem Ok.add{G B C:Nat}{r q:Rat}(h:Ok G B r)(g:Ok G C q):Ok G (B+C) (r+q):=by
 obtain⟨z,e1,h1⟩:=h
 obtain⟨y,e2,h2⟩:=g
 refine⟨z+y,?_,Nat.add_le_add h1 h2⟩
 push_cast
 rw[<-e1,<-e2]
 grind
theorem Ok.mono{G B C:Nat}{r:Rat}(h:Ok G B r)(g:B<=C):Ok G C r:=by
 obtain⟨z,e,hz⟩:=h
 exact⟨z,e,uW hz g⟩
theorem Ok.pf{G B N:Nat}{r:Rat}{n:Int}(h:Ok G B r)(h0:0<=n)(h1:n<=N):Ok G (B*N) ((n:Rat)*r):=by
 obtain⟨z,e,hz⟩:=h
 refine⟨z*n.toNat,?_,zl hz (by lia)⟩
 push_cast
 rw[KN h0,<-e]
 grind
theorem Ok.int{G:Nat}{n:Int}{N:Nat}(h0:0<=n)(h1:n<=N):Ok G (G*N) (n:Rat):=by
 have:=(Ok.one (G:=G) (B:=G) (uV _)).pf (N:=N) h0 h1
 have e:(n:Rat)*1=(n:Rat):=by grind
 rwa [e]at this
theorem Qn{F:Fn}(hF:∀{j k:Nat} {p q:Rat} (S:Sto),Sz j p->Sz k q->j+k<=7990->F [aD p,aD q] S=Fk (aD (p+q),S)){gs:Gd}{S:Sto}(hg:gOk gs S){X:uL D}{G B K:Nat}(hG:0<G)(gK:G<2^K)(hK:2*K<=7990):∀{rs:Gc Rat} {acc:Rat} {m:Nat} {o:uL D},Ok G (m*B) acc->(∀r∈rs,Ok G B r)->(m+rs.length)*B<2^K->∃o',Nc gs (tNm 2) (BQ 1 (AJ F [eV 1,eV 2])) (rs.map aD) [X,Fk (aD acc),o] S=Fk (.nx,[X,Fk (aD (acc+rs.sum)),o'],S)
 | [],acc,m,o,ha,hr,hb=>⟨o,by
     rw[wG,Qs hg,List.sum_nil]
     have:acc+0=acc:=by grind
     rw[this]⟩
 |r::rs,acc,m,o,ha,hr,hb=>by
  have h1:=hr r uX
  have b1:(m+1)*B<=(m+(r::rs).length)*B:=vI _ (by simp)
  have mb:(m+1)*B=m*B+B:=by rw[Nat.succ_mul]
  have za:Sz K acc:=ha.sz hG gK (by lia)
  have zr:Sz K r:=h1.sz hG gK (by lia)
  have e:=hF S za zr (by lia)
  have ha2:Ok G ((m+1)*B) (acc+r):=by rw[mb];exact ha.add h1
  obtain⟨o',ih⟩:=Qn hF hg hG gK hK (X:=X) (B:=B) (rs:=rs) (acc:=acc+r) (m:=m+1) (o:=Fk (aD r)) ha2 (λq hq=>hr q (uR _ hq)) (by
   have:m+1+rs.length=m+(r::rs).length:=by simp;lia
   rw[this];exact hb)
  refine⟨o',?_⟩
  have ea:acc+(r::rs).sum=acc+r+rs.sum:=by rw[wq];grind
  rw[uv,MZ hg,ea,<-ih]
  simp[e]
theorem XH:aD 0=.tup [.int 0,.int 1]:=rfl
noncomputable def ownAt(x:Ld)(p:Nat):Rat:=x.ow.getD p 0
structure Bd(ls:Gc Ld)(G B N K:Nat):Prop where
 g0:0<G
 gK:G<2^K
 hK:2*K<=7000
 own:∀l∈ls,∀r∈l.ow,Ok G B r
 pcs:∀l∈ls,0<=l.n/\l.n<=N
 hB:B<2^K
 hN:N<2^K
 hb:200*(B*N)<2^K
 len:ls.length<=30
section
variable{S:Sto}{ls:Gc Ld}{G B N K:Nat}
theorem Bd.at(h:Bd ls G B N K){x:Ld}(hx:x∈ls)(p:Nat):Ok G B (ownAt x p):=by
 unfold ownAt
 rw[uT]
 cases e:x.ow[p]? with
 |none=>exact Ok.zero
 |some r=>exact h.own x hx r (uh e)
theorem Bd.mul(h:Bd ls G B N K){x:Ld}(hx:x∈ls)(p:Nat):Ok G (B*N) ((x.n:Rat)*ownAt x p):=(h.at hx p).pf (h.pcs x hx).1 (h.pcs x hx).2
theorem Bd.nSz(h:Bd ls G B N K){x:Ld}(hx:x∈ls):Sz K (x.n:Rat):=by
 have o:=Ok.int (G:=1) (h.pcs x hx).1 (h.pcs x hx).2
 refine o.sz (by decide) ?_ (by rw[Nat.one_mul];exact h.hN)
 have:=h.gK;have:=h.g0;lia
theorem WR{n:Nat}:KH 0 (n:Int).toNat=(uc n).map λ(i:Nat)=>D.int i:=by simp[KH]
end
section
variable{S:Sto}{t:Tr}{ls:Gc Ld}{ds:Gc Ab}{n:Nat}
theorem dJ{x:Ld}{p:Nat}(h:p<x.ow.length):atI (x.ow.map aD) (p:Int)=Fk (aD (ownAt x p)):=CF (by
 rw[uY,tz h]
 simp[ownAt,uT,tz h])
end
section
variable{S:Sto}
theorem aV{rs:Gc Rat}{G B K:Nat}(hG:0<G)(gK:G<2^K)(hK:2*K<=7990)(hr:∀r∈rs,Ok G B r)(hb:rs.length*B<2^K):Lr [.lst (rs.map aD)] S=Fk (aD rs.sum,S):=by
 obtain⟨o',e⟩:=Qn (F:=Gz) (λS h1 h2 h3=>eA h1 h2 h3) (gs:=[]) (S:=S) Aw (X:=Fk (.lst (rs.map aD))) (B:=B) hG gK hK (rs:=rs) (acc:=0) (m:=0) (o:=uK) (by rw[Nat.zero_mul];exact Ok.zero) hr (by simpa using hb)
 have ez:(0:Rat)+rs.sum=rs.sum:=by grind
 rw[ez,XH]at e
 simp[Lr,SA,GX,e]
end
section
variable{S:Sto}
theorem gH{rs:Gc Rat}{G B K:Nat}(hG:0<G)(gK:G<2^K)(hK:2*K<=7990)(hr:∀r∈rs,Ok G B r)(hb:rs.length*B<2^K):Lx [.lst (rs.map aD)] S=Fk (aD rs.sum,S):=by
 obtain⟨o',e⟩:=Qn (F:=CO) (λS h1 h2 h3=>RU h1 h2 h3) (gs:=[]) (S:=S) Aw (X:=Fk (.lst (rs.map aD))) (B:=B) hG gK hK (rs:=rs) (acc:=0) (m:=0) (o:=uK) (by rw[Nat.zero_mul];exact Ok.zero) hr (by simpa using hb)
 have ez:(0:Rat)+rs.sum=rs.sum:=by grind
 rw[ez,XH]at e
 simp[Lx,SU,e]
end
noncomputable def wl(ws:Gc Int)(L:Gc Ld):Gc Ld:=L.map λx=>{x with n:=x.n*ws.getD x.k 0}
noncomputable def c7(L:Gc Ld)(p:Nat):Rat:=(L.map λx=>(x.n:Rat)*ownAt x p).sum
noncomputable def bw(t:Tr)(ws:Gc Int):Int:=t.b*ws.getD t.k 0
noncomputable def FP(t:Tr)(s:Stt)(ws:Gc Int)(p:Nat):Rat:=c7 (wl ws s.AE) p+(bw t ws:Rat)*s.hold.getD p 0
structure US(t:Tr)(ws:Gc Int):Prop where
 len:ws.length=t.k+1
 b:∀w∈ws,1<=w/\w<=99
section
variable{S:Sto}{t:Tr}{ls L:Gc Ld}{ds:Gc Ab}{s:Stt}{ws:Gc Int}{k n p:Nat}
theorem US.at(h:US t ws){j:Nat}(hj:j<=t.k):atI (ws.map D.int) (j:Int)=Fk (.int (ws.getD j 0))/\1<=ws.getD j 0/\ws.getD j 0<=99:=by
 have hl:j<ws.length:=by rw[h.len];omega
 have e:ws.getD j 0=ws[j]:=by rw[uT,tz hl];rfl
 refine⟨CF (by rw[uY,tz hl,e];rfl),?_⟩
 rw[e]
 exact h.b _ (wI hl)
theorem US.last(h:US t ws):atI (ws.map D.int) (-1)=Fk (.int (ws.getD t.k 0)):=by
 have ix:ixN (ws.map D.int).length (-1)=Fk t.k:=by
  rw[vT,h.len]
  unfold ixN
  simp
  omega
 have hl:t.k<ws.length:=by rw[h.len];omega
 unfold atI
 rw[ix]
 show(ws.map D.int)[t.k]?=_
 rw[uY,tz hl,uT,tz hl]
 rfl
structure WBd(t:Tr)(s:Stt)(ws:Gc Int)(G B N K:Nat):Prop where
 bd:Bd (wl ws s.AE) G B N K
 ho:∀r∈s.hold,Ok G B r
 n2:2000<=N
theorem GB.wbd(h:GB t k s)(hk:k<=16)(hw:US t ws):∃G B N K,WBd t s ws G B N K:=by
 obtain⟨G,B,g0,gb,b,h1,h2⟩:=h.gb
 have hB:B<2^2750:=uO b (uz (by decide) (by omega))
 have hB':B<2^3000:=uO hB (uz (by decide) (by decide))
 have hN:(2^154:Nat)<2^155:=ABC (by decide) (by decide)
 refine⟨G,B,2^154,3000,⟨g0,vb gb hB',by decide,λl hl=>?_,λl hl=>?_,hB',uO hN (uz (by decide) (by decide)),?_,by have:=h.len;simp[wl];omega⟩,h2,by decide⟩
 .obtain⟨x,hx,rfl⟩:=ux.mp hl
  exact h1 x hx
 .obtain⟨x,hx,rfl⟩:=ux.mp hl
  have:=h.pcs x hx
  obtain⟨_,w1,w2⟩:=hw.at (j:=x.k) (by have:=h.kind x hx;omega)
  have e:(2:Int)^(131+k)<=2^147:=by
   have:(2:Nat)^(131+k)<=2^147:=uz (by decide) (by omega)
   exact_mod_cast this
  generalize ws.getD x.k 0=w at*
  refine⟨yt this.1 (by omega),?_⟩
  have:x.n*w<=2^147*99:=yu (by omega) w2 (by omega) (by decide)
  have h3:(2:Int)^147*99<=((2^154:Nat):Int):=by exact_mod_cast (show(2:Nat)^147*99<=2^154 by decide)
  exact Int.le_trans this h3
 .have:=Cz (show 200<2^8 by decide) (Cz hB hN)
  exact uO this (uz (by decide) (by decide))
theorem YE{x:Ld}:c7 (x::L) p=(x.n:Rat)*ownAt x p+c7 L p:=by
 unfold c7
 rw[uv,wq]
theorem Wa{G C:Nat}:∀{L:Gc Ld},(∀l∈L,Ok G C ((l.n:Rat)*ownAt l p))->Ok G (L.length*C) (c7 L p)
 | [],_=>Ok.zero
 |x::L,h=>by
  rw[YE]
  have ih:=Wa (L:=L) λl hl=>h l (uR _ hl)
  have:=(h x uX).add ih
  rw[vR,Nat.succ_mul,AAV]
  exact this
theorem WBd.all{G B N K:Nat}(h:WBd t s ws G B N K):Ok G (30*(B*N)) (c7 (wl ws s.AE) p):=(Wa λl hl=>h.bd.mul hl p).mono (vI _ h.bd.len)
theorem WBd.hAt{G B N K:Nat}(h:WBd t s ws G B N K):Ok G B (s.hold.getD p 0):=by
 rw[uT]
 cases e:s.hold[p]? with
 |none=>exact Ok.zero
 |some r=>exact h.ho r (uh e)
theorem bT(ht:Jy t)(hw:US t ws):0<=bw t ws/\bw t ws<=2000:=by
 obtain⟨t1,t2,t3,t4,t5,t6⟩:=ht
 obtain⟨_,w1,w2⟩:=hw.at (j:=t.k) (uV _)
 unfold bw
 generalize ws.getD t.k 0=w at*
 refine⟨yt (by omega) (by omega),?_⟩
 have:(t.b:Int)*w<=20*99:=yu (by omega) w2 (by omega) (by decide)
 omega
theorem WBd.hol{G B N K:Nat}(h:WBd t s ws G B N K)(ht:Jy t)(hw:US t ws):Ok G (B*N) ((bw t ws:Rat)*s.hold.getD p 0):=h.hAt.pf (N:=N) (bT ht hw).1 (by have:=(bT ht hw).2;have:=h.n2;omega)
theorem WBd.worth{G B N K:Nat}(h:WBd t s ws G B N K)(ht:Jy t)(hw:US t ws):Ok G (31*(B*N)) (FP t s ws p):=by
 have:=h.all (p:=p)|>.add (h.hol ht hw (p:=p))
 rw[show 31*(B*N)=30*(B*N)+B*N by omega]
 exact this
theorem Sl{G B N K:Nat}(ht:Jy t)(hw:US t ws)(hv:GB t k s)(h:WBd t s ws G B N K)(hp:p<t.p):B8 [t.d,.tup [Bm s.AE,K1 s.AE,shD s.hold],.tup (ws.map .int),.int p] S=Fk (aD (FP t s ws p),S):=by
 have hK:=h.bd.hK
 have e:=Ea (gs:=[]) (t:=tTp [tTp [tNm 3,tNm 4],tNm 2]) (f:=AJ EM [Cm [eOp (o2 CG) [eV 4,eOp (o2 wIx) [eV 0,eV 3]],eC (.int 1)],eOp (o2 wIx) [eV 2,eV 1]]) (C:=[Fk (.tup (ws.map .int)),Fk (.int p)]) (m:=3) (e:=λx:Ld=>D.tup [hD x,shD x.ow]) (g:=λx=>aD (((x.n*ws.getD x.k 0:Int):Rat)*ownAt x p)) (S:=S) Aw (xs:=s.AE) (acc:=[]) (os:=[uK,uK,uK]) rfl (uW (show _<=50 by have:=h.bd.len;simp[wl]at this;simp;omega) (AN (by decide))) (by
  intro x hx os ho
  obtain⟨o1,o2,o3,rfl⟩:∃o1 o2 o3,os=[o1,o2,o3]:=by
   match os,ho with
   | [a,b,c],_=>exact⟨a,b,c,rfl⟩
  obtain⟨a1,w1,w2⟩:=hw.at (j:=x.k) (by have:=hv.kind x hx;omega)
  have hy:({x with n:=x.n*ws.getD x.k 0}:Ld)∈wl ws s.AE:=ux.mpr ⟨x,hx,rfl⟩
  have tm:=Wr (S:=S) (h.bd.nSz hy) ((h.bd.at hy p).sz h.bd.g0 h.bd.gK h.bd.hB) (by omega)
  rw[TL]at tm
  have a2:=dJ (x:=x) (p:=p) (by rw[hv.own x hx];exact hp)
  have m1:Dc x.n (ws.getD x.k 0)=true:=mulR (by omega) (by omega)
  refine⟨[Fk (shD x.ow),Fk (.int x.k),Fk (.int x.n)],rfl,by simp,?_⟩
  simp only[shD]at*
  have tm':EM [.tup [.int (x.n*ws.getD x.k 0),.int 1],aD (ownAt x p)] S=Fk (aD (((x.n*ws.getD x.k 0:Int):Rat)*ownAt x p),S):=tm
  generalize aD (((x.n*ws.getD x.k 0:Int):Rat)*ownAt x p)=D1 at*
  generalize aD (ownAt x p)=D2 at*
  generalize ws.getD x.k 0=w at*
  simp[a1,m1,a2,tm'])
 have ez:Nb (s.AE.map hD) (s.AE.map λx=>shD x.ow)=s.AE.map λx=>.tup [hD x,shD x.ow]:=by
  unfold Nb
  rw[List.zip_map',vh]
  rfl
 rw[<-ez]at e
 have em:s.AE.map (λx=>aD (((x.n*ws.getD x.k 0:Int):Rat)*ownAt x p))=((wl ws s.AE).map λx=>(x.n:Rat)*ownAt x p).map aD:=by
  unfold wl
  rw[vh,vh]
  rfl
 rw[em]at e
 have tt:=aV (S:=S) (rs:=(wl ws s.AE).map λx=>(x.n:Rat)*ownAt x p) (B:=B*N) h.bd.g0 h.bd.gK (by omega) (λr hr=>by
  obtain⟨x,hx,rfl⟩:=ux.mp hr
  exact h.bd.mul hx p) (by
  have l1:=h.bd.len
  have:=vI (B*N) l1
  have:=h.bd.hb
  rw[vT]
  omega)
 obtain⟨_,w1,w2⟩:=hw.at (j:=t.k) (uV _)
 have la:=hw.last
 obtain⟨b0,b1⟩:=bT ht hw
 have ah:atI (s.hold.map aD) (p:Int)=Fk (aD (s.hold.getD p 0)):=CF (by
  have hl:p<s.hold.length:=by rw[hv.hold];exact hp
  rw[uY,tz hl,uT,tz hl];rfl)
 have zN:B*N<2^K:=by have:=h.bd.hb;omega
 have t2:=Wr (S:=S) (U6 (n:=bw t ws) (k:=11) (show _<2048 by omega) (by decide)) (h.hAt (p:=p)|>.sz h.bd.g0 h.bd.gK h.bd.hB) (by omega)
 rw[TL]at t2
 have pl:=eA (S:=S) (h.all (p:=p)|>.sz h.bd.g0 h.bd.gK (by have:=h.bd.hb;omega)) (h.hol ht hw (p:=p)|>.sz h.bd.g0 h.bd.gK zN) (by omega)
 have m2:Dc (t.b:Int) (ws.getD t.k 0)=true:=mulR (by omega) (by omega)
 have pl':Gz [aD (((wl ws s.AE).map λx=>(x.n:Rat)*ownAt x p).sum),aD ((bw t ws:Rat)*s.hold.getD p 0)] S=Fk (aD (FP t s ws p),S):=pl
 have dh:∀T,sqD T (Bm s.AE)=Fk (s.AE.map hD,[]):=λ_=>nr rfl
 have dO:∀T,sqD T (K1 s.AE)=Fk (s.AE.map (λx=>shD x.ow),[]):=λ_=>nr rfl
 have t2':EM [.tup [.int ((t.b:Int)*ws.getD t.k 0),.int 1],aD (s.hold.getD p 0)] S=Fk (aD ((bw t ws:Rat)*s.hold.getD p 0),S):=t2
 have as1:asS (.val t.d)=Fk [.int t.p,.int t.k,.int t.b,shD t.ho,.int t.h,.int t.l]:=rfl
 have dt:∀T,dr T t.d=.val t.d:=λ_=>rfl
 simp only[vS,vH]at e
 generalize aD (FP t s ws p)=D1 at*
 generalize aD ((bw t ws:Rat)*s.hold.getD p 0)=D2 at*
 generalize aD (s.hold.getD p 0)=D3 at*
 generalize aD (((wl ws s.AE).map λx=>(x.n:Rat)*ownAt x p).sum)=D4 at*
 generalize ((wl ws s.AE).map λx=>(x.n:Rat)*ownAt x p).map aD=V at*
 generalize ws.getD t.k 0=w at*
 rw[show shD s.hold=.tup (s.hold.map aD)from rfl]
 generalize s.hold.map aD=HM at*
 simp[B8,Je,dh,dO,PZ,e,tt,as1,dt,la,m2,ah,t2',pl']
end
section
variable{S:Sto}{t:Tr}{ls L:Gc Ld}{ds:Gc Ab}{n i l:Nat}{m:Int}{ws:Gc Int}
theorem VY(h:BO t ls ds)(hn:n<=ds.length):JN [Ad t ls ds,.int n] S=Fk (Bm (runs t (st0 t ls) (ds.take n)).AE,S):=by
 have hl0:ls.length<=4:=h.inv.len
 have hd:=h.len
 have ct:=Ni (ds:=ds.map Ab.d) (n:=n) (by simp;omega)
 obtain⟨E',S',ef,i,o,f1,f2,rfl,rfl⟩:=EJ (gs:=[]) (t:=tNm 3) (b:=BQ 2 (AJ Au [eV 2,eV 3]))
  (I:=λrs E S'=>∃(i:Nat) (o:uL D),rs=((ds.take n).drop i).map Ab.d/\i<=n/\E=[Fk (Ad t ls ds),Fk (.int n),Fk (Bm (runs t (st0 t ls) (ds.take i)).AE),o]/\S'=S)
  (λ_ _ _ _=>Aw) (ds:=(ds.take n).map Ab.d) (E:=[Fk (Ad t ls ds),Fk (.int n),Fk (Bm ls),uK]) (S:=S)
  ⟨0,uK,by simp,we _,by simp[runs,st0],rfl⟩ (by
    rintro dd rs E T ⟨i,o,i1,i2,rfl,rfl⟩
    have hlt:i<(ds.take n).length:=by
     rcases xY i (ds.take n).length with w|w
     .exact w
     .rw[vf w]at i1;cases i1
    rw[vG hlt,uv]at i1
    injection i1 with z1 z2
    subst z1 z2
    have hlt':i<ds.length:=by simp at hlt;omega
    have hin:i<n:=by simp at hlt;omega
    have hg:(ds.take n)[i]=ds[i]:=List.getElem_take
    rw[hg]
    have can:=GC h.good (tz hlt')
    have il:(ds.take i).length<=16:=by simp;omega
    have e3:=OZ (S:=T) (h.at i) (by omega) can
    have rt:=Kh (t:=t) (st:=st0 t ls) (tz hlt')
    refine⟨_,[Fk (Ad t ls ds),Fk (.int n),Fk (Bm (runs t (st0 t ls) (ds.take (i+1))).AE),Fk ds[i].d],T,by simp;rfl,?_,i+1,Fk ds[i].d,rfl,hin,rfl,rfl⟩
    rw[rt]
    simp[e3])
 have hz:i=n:=by
  have:=congrArg xp f1
  simp at this
  omega
 subst hz
 have fh:=MP (S:=S') (ls:=ls) (x:=t.d) (y:=.tup (ds.map Ab.d)) (by omega)
 simp only[Ad]at ef⊢
 rw[z9]at ef
 simp[JN,O9,fh,ct,ef]
theorem Vo{n l:Nat}{m:Int}{ws:Gc Int}(h:BO t ls ds)(hn:ds[n]?=Fk (.thr l m ws)):DN [Ad t ls ds,.int n] S=Fk (aD (KZ t (runs t (st0 t ls) (ds.take n)).AE l m ws),S):=by
 have hlt:n<ds.length:=(uU.mp hn).1
 have hb:=VY (S:=S) h (n:=n) (by omega)
 have r1:=Ii (S:=S) h
 have inv:=h.at n
 have il:(ds.take n).length<=16:=by have:=h.len;simp;omega
 have pt:=Wx (S:=S) h.tr inv (by omega) (GC h.good hn)
 have k1:St.Kd.int.isA "int"=true:=by decide
 have k2:St.Kd.int.isA "bool"=false:=by decide
 have h1:(n:Int)<=ds.length-1:=by omega
 have at1:atI (ds.map Ab.d) (n:Int)=Fk (Ab.thr l m ws).d:=CF (by rw[uY,hn];rfl)
 generalize KZ t (runs t (st0 t ls) (ds.take n)).AE l m ws=X at*
 have rf:Ag [Ad t ls ds,.int n] S=Fk (.non,S):=by
  simp[Ag,DH,Bh,Dd,Ez,IM,k1,k2,DM,FY,F7,JK,Cd,GQ,Ad,kdW,h1,at1,Ab.d]
 simp only[Ad]at hb r1 rf⊢
 simp[DN,LK,r1,rf,hb,at1,pt]
theorem PH(hn:ds[i]?=Fk (.thr l m ws)):Ag [Ad t ls ds,.int i] S=Fk (.non,S):=by
 have hlt:i<ds.length:=(uU.mp hn).1
 have k1:St.Kd.int.isA "int"=true:=by decide
 have k2:St.Kd.int.isA "bool"=false:=by decide
 have h1:(i:Int)<=ds.length-1:=by omega
 have at1:atI (ds.map Ab.d) (i:Int)=Fk (Ab.thr l m ws).d:=CF (by rw[uY,hn];rfl)
 simp[Ag,DH,Bh,Dd,Ez,IM,k1,k2,DM,FY,F7,JK,Cd,GQ,Ad,kdW,h1,at1,Ab.d]
noncomputable def pairD(t:Tr)(s s':Stt)(ws:Gc Int)(p:Nat):D:=.tup [aD (FP t s ws p),aD (FP t s' ws p)]
theorem KQ(h:BO t ls ds)(hn:ds[i]?=Fk (.thr l m ws)):∃S',CT [Ad t ls ds,.int i] S=Fk (.tup ((uc t.p).map (pairD t (runs t (st0 t ls) (ds.take i)) (runs t (st0 t ls) (ds.take (i+1))) ws)),S')/\Cj [] S S':=by
 have hlt:i<ds.length:=(uU.mp hn).1
 obtain⟨S1,e1,s1⟩:=Uy (S:=S) h (n:=i) (by omega)
 obtain⟨S2,e2,s2⟩:=Uy (S:=S1) h (n:=i+1) (by omega)
 have can:=GC h.good hn
 have hw:US t ws:=⟨can.2.2.2.1,can.2.2.2.2⟩
 have inv:=h.at i
 have inv':=h.at (i+1)
 have il:(ds.take i).length<=16:=by have:=h.len;simp;omega
 have il':(ds.take (i+1)).length<=16:=by have:=h.len;simp;omega
 obtain⟨G,B,N,K,bd⟩:=inv.wbd il hw
 obtain⟨G',B',N',K',bd'⟩:=inv'.wbd il' hw
 generalize runs t (st0 t ls) (ds.take i)=st at*
 generalize runs t (st0 t ls) (ds.take (i+1))=st' at*
 obtain⟨t1,t2,t3,t4,t5,t6⟩:=h.tr
 have hq:(S2++[Cl.lst []])[S2.length]?=Fk (.lst []):=uj
 have lS:=(s1.trans s2).len
 generalize hQ:S2.length=q at*
 have at1:atI (ds.map Ab.d) (i:Int)=Fk (Ab.thr l m ws).d:=CF (by rw[uY,hn];rfl)
 obtain⟨E',S',ef,j,o,f1,f2,rfl,f3,f4⟩:=EJ (gs:=[]) (t:=tNm 7) (b:=Bl (Lc Le (eV 6) [Cm [AJ B8 [eV 2,eV 4,eV 3,eV 7],AJ B8 [eV 2,eV 5,eV 3,eV 7]]]))
  (I:=λrs E S'=>∃(j:Nat) (o:uL D),rs=((uc t.p).drop j).map (λ(i:Nat)=>D.int i)/\j<=t.p/\E=[Fk (Ad t ls ds),Fk (.int i),Fk t.d,Fk (.tup (ws.map .int)),Fk (.tup [Bm st.AE,K1 st.AE,shD st.hold]),Fk (.tup [Bm st'.AE,K1 st'.AE,shD st'.hold]),Fk (.ref q),o]/\S'[q]?=Fk (.lst ((uc j).map (pairD t st st' ws)))/\Cj [] S S')
  (λ_ _ _ _=>Aw) (ds:=(uc t.p).map λ(i:Nat)=>D.int i) (E:=[Fk (Ad t ls ds),Fk (.int i),Fk t.d,Fk (.tup (ws.map .int)),Fk (.tup [Bm st.AE,K1 st.AE,shD st.hold]),Fk (.tup [Bm st'.AE,K1 st'.AE,shD st'.hold]),Fk (.ref q),uK]) (S:=S2++[Cl.lst []])
  ⟨0,uK,by simp,we _,rfl,by simpa using hq,(s1.trans s2).trans .app⟩ (by
    rintro dd rs E T ⟨j,o,i1,i2,rfl,i3,i4⟩
    have hlt:j<t.p:=by
     rcases xY j t.p with w|w
     .exact w
     .rw[vf (by simpa using w)]at i1;cases i1
    rw[vG (by simpa using hlt),uv,zk]at i1
    injection i1 with z1 z2
    subst z1 z2
    have w1:=Sl (S:=T) h.tr hw inv bd hlt
    have w2:=Sl (S:=T) h.tr hw inv' bd' hlt
    have cq:=AY i3
    have e3:(uc (j+1)).map (pairD t st st' ws)=(uc j).map (pairD t st st' ws)++[pairD t st st' ws j]:=by
     rw[AAl,wg];rfl
    have hz:((uc j).map (pairD t st st' ws)).length<sizeLine:=uO (show _<50 by simp;omega) (AN (by decide))
    have lq:=i4.len
    refine⟨_,[Fk (Ad t ls ds),Fk (.int i),Fk t.d,Fk (.tup (ws.map .int)),Fk (.tup [Bm st.AE,K1 st.AE,shD st.hold]),Fk (.tup [Bm st'.AE,K1 st'.AE,shD st'.hold]),Fk (.ref q),Fk (.int j)],T.set q (.lst ((uc (j+1)).map (pairD t st st' ws))),by simp;rfl,?_,j+1,_,rfl,hlt,rfl,ua (Ae i3),Cj.new (A:=[]) (B:=[q]) i4 (.set (by simp)) (by intro n hn';simp at hn';omega)⟩
    rw[e3]
    unfold pairD at hz cq⊢
    generalize aD (FP t st ws j)=D1 at*
    generalize aD (FP t st' ws j)=D2 at*
    generalize ((uc j).map λp=>D.tup [aD (FP t st ws p),aD (FP t st' ws p)])=V at*
    simp[cq,w1,w2,hz])
 have hz:j=t.p:=by
  have:=congrArg xp f1
  simp at this
  omega
 subst hz
 have df:=BE f3
 refine⟨S',?_,f4⟩
 have rk:Jq (t.p:Int)=true:=DZ (by omega) (by omega)
 have as1:asS (.val t.d)=Fk [.int t.p,.int t.k,.int t.b,shD t.ho,.int t.h,.int t.l]:=rfl
 have dt:∀T,dr T t.d=.val t.d:=λ_=>rfl
 rw[<-WR]at ef
 simp only[x8]at ef
 rw[show((i+1:Nat):Int)=(i:Int)+1 from rfl]at e2
 simp only[Ad]at e1 e2 ef⊢
 simp only[Ab.d]at at1
 generalize (uc t.p).map (pairD t st st' ws)=V at*
 simp[CT,Jf,at1,e1,e2,hQ,as1,dt,rk,ef,df]
theorem V8(h:BO t ls ds)(hn:ds[i]?=Fk (.thr l m ws)):∃S',DK [Ad t ls ds,.int i] S=Fk (.tup ((uc t.p).map (pairD t (runs t (st0 t ls) (ds.take i)) (runs t (st0 t ls) (ds.take (i+1))) ws)),S')/\Cj [] S S':=by
 obtain⟨S1,e1,s1⟩:=KQ (S:=S) h hn
 have r1:=Ii (S:=S) h
 have r2:=PH (S:=S) (t:=t) (ls:=ls) hn
 exact⟨S1,by simp[DK,LO,r1,r2,e1],s1⟩
end
section
variable{S:Sto}{t:Tr}{ls:Gc Ld}{ds:Gc Ab}{st:Stt}{p s l m k q:Nat}{as:Gc Nat}
def W6:Ex:=(Aa (BQ 8 (C9 [] 2 (Xe (eOp (o2 wIx) [eV 5,eC (.int 0)])) (tTp [tNm 0,tNm 1]) (eOp (o2 wGt) [eOp (o2 wIx) [eV 1,eC (.int 1)],eC (.int 0)]) (eV 0)))
    (Aa (BQ 6 (Cm [eC (.str "bring"),AJ AI [eV 0,eOp (o2 wIx) [eV 2,eC (.int 0)]],AJ AI [eV 0,eOp (o2 wIx) [eV 2,eC (.int 1)]],AJ BF [eV 0]]))
    (xIf (eOp (o2 wNe) [eV 8,Fe []]) (Aa (BQ 9 (eOp (o2 wIx) [eV 8,AJ AI [eV 0,eOp (o1 Jo) [eV 8]]]))
    (Aa (BQ 10 (eOp (o2 wIx) [Fe [eOp (o2 CK) [eC (.int 1),AJ AI [eV 0,eOp (o2 bV) [eOp (o2 wIx) [eOp (o2 wIx) [eOp (o2 wIx) [eV 5,eC (.int 0)],eV 9],eC (.int 1)],eC (.int 999)]]],eOp (o2 wIx) [eOp (o2 wIx) [eOp (o2 wIx) [eV 5,eC (.int 0)],eV 9],eC (.int 1)]],AJ AI [eV 0,eC (.int 2)]]))
    (BQ 6 (Cm [eC (.str "throw"),eV 9,eV 10,AJ Cb [eV 0,eOp (o2 CK) [eOp (o2 wIx) [eV 2,eC (.int 1)],eC (.int 1)]]])))) D5)))
theorem fB(hp:CD p S)(hS:SAt S s l m as st)(hps:p∉s::l::m::as)(ht:Jy t)(h:GB t k st)(hk:k<=16){a1 a3 a4 o6 o7 o8 o9 o10:uL D}:∃d u8 u9 u10 S',W6 [Fk (.ref p),a1,Fk t.d,a3,a4,Fk (.ref s),o6,o7,o8,o9,o10] S=Fk (.nx,[Fk (.ref p),a1,Fk t.d,a3,a4,Fk (.ref s),Fk (Ab.d d),o7,u8,u9,u10],S')/\Pn p S S'/\Can t st d:=by
 obtain⟨t1,t2,t3,t4,t5,t6⟩:=ht
 have hlen:=h.len
 have st':∀{S':Sto},Pn p S S'->SAt S' s l m as st:=λg=>hS.same g.same (by simpa using hps)
 have r0:=BE hS.root
 have cf:=Wq hS (by omega)
 have fl:=Nr (st:=st)
 have sq:=HW hS.lo
 have okF:=L7 (is:=B3 st)
 have dqF:=Ng (is:=B3 st)
 obtain⟨x2,S2,e2,a2,b2,p2⟩:=Aj hp (n:=t.p) (by omega) (by omega)
 obtain⟨x3,S3,e3,a3',b3,p3⟩:=Aj p2.pen (n:=t.k) (by omega) (by omega)
 obtain⟨x4,S4,e4,p4,a4',b4⟩:=Lo p3.pen
 obtain⟨x2,rfl⟩:=HN a2
 obtain⟨x3,rfl⟩:=HN a3'
 have p24:=(p2.trans p3).trans p4
 have as1:asS (.val t.d)=Fk [.int t.p,.int t.k,.int t.b,shD t.ho,.int t.h,.int t.l]:=rfl
 have dt:∀T,dr T t.d=.val t.d:=λ_=>rfl
 cases hf:(B3 st).isEmpty with
 |true=>
  refine⟨.Ip x2 x3 x4,Fk (.lst (Hv (B3 st))),o9,o10,S4,?_,p24,by omega,by omega,a4',b4⟩
  simp[W6,r0,sq,PZ,cf,as1,dt,e2,e3,e4,okF,dqF,hf,Ab.d]
 |false=>
  have hfl:0<(B3 st).length:=by
   cases z:B3 st with
   |nil=>rw[z]at hf;cases hf
   |cons a b=>simp
  obtain⟨rl,S5,e5,a5,b5,p5⟩:=Aj p4.pen (n:=(B3 st).length) (by omega) (by omega)
  obtain⟨i,mi,ei⟩:=Li a5 b5
  have fi:=Lf mi
  have n1:=fi.2
  have hS5:=st' (p24.trans p5)
  obtain⟨a,x1,y2,y3⟩:=hS5.at fi.1
  obtain⟨rs,S6,e6,a6,b6,p6⟩:=Aj p5.pen (n:=if 999<(AU st.AE i).n then 999 else(AU st.AE i).n) (by split<;>omega) (by split<;>omega)
  have hS6:=st' ((p24.trans p5).trans p6)
  obtain⟨r2,S7,e7,a7,b7,p7⟩:=Aj p6.pen (n:=2) (by decide) (by decide)
  obtain⟨ws,S8,e8,p8,w1,w2⟩:=Rp p7.pen (n:=t.k+1) (by omega)
  rw[show((t.k+1:Nat):Int)=(t.k:Int)+1 from rfl]at e8
  have lo5:=BE hS5.lo
  have lo6:=BE hS6.lo
  have root5:=BE hS5.root
  have root6:=BE hS6.root
  have y2':=BE y2
  have y4:S6[a]?=Fk (Cp (AU st.AE i)):=hS6.ld i a _ x1 (G4 fi.1)
  have y4':=BE y4
  have nl:=KG (is:=B3 st)
  obtain⟨v,ev,v1,v2⟩:∃v:Int,atI [D.int (1+rs),.int (AU st.AE i).n] r2=Fk (.int v)/\1<=v/\v<=(AU st.AE i).n:=by
   have hr:r2=0\/r2=1:=by omega
   rcases hr with rfl|rfl
   .exact⟨1+rs,by simp,by omega,by split at b6<;>omega⟩
   .exact⟨_,by simp,by omega,zy _⟩
  refine⟨.thr i v ws,Fk (.lst (Hv (B3 st))),Fk (.int i),Fk (.int v),S8,?_,(((p24.trans p5).trans p6).trans p7).trans p8,fi.1,v1,v2,w1,w2⟩
  simp[W6,r0,sq,PZ,cf,as1,dt,e2,e3,e4,okF,dqF,hf,nl,e5,ei,root5,lo5,y3,y2',e6,root6,lo6,y4',Cp,e7,ev,e8,Ab.d]
end
section
variable{S:Sto}{t:Tr}{ls:Gc Ld}{ds:Gc Ab}{st:Stt}{p s l m k q:Nat}{as:Gc Nat}
theorem CD.keep{A:Gc Nat}{S':Sto}(h:CD p S)(g:Cj A S S')(hp:p∉A):CD p S':=by
 obtain⟨ds,e,hd⟩:=h
 exact⟨ds,g.get e hp,hd⟩
theorem L3{as2:Gc Nat}(hp:p∉s::l::m::as)(hl:p<S.length)(h:∀n∈as2,n∈as\/S.length<=n):p∉s::l::m::as2:=by
 intro z
 simp only[uQ]at z hp
 rcases z with z|z|z|z
 .exact hp (.inl z)
 .exact hp (.inr (.inl z))
 .exact hp (.inr (.inr (.inl z)))
 .rcases h _ z with w|w
  .exact hp (.inr (.inr (.inr w)))
  .omega
def aC:Ex:=(Aa (BQ 8 (C9 [] 2 (Xe (eOp (o2 wIx) [eV 5,eC (.int 0)])) (tTp [tNm 0,tNm 1]) (eOp (o2 wGt) [eOp (o2 wIx) [eV 1,eC (.int 1)],eC (.int 0)]) (eV 0)))
    (Aa (BQ 6 (Cm [eC (.str "bring"),AJ AI [eV 0,eOp (o2 wIx) [eV 2,eC (.int 0)]],AJ AI [eV 0,eOp (o2 wIx) [eV 2,eC (.int 1)]],AJ BF [eV 0]]))
    (Aa (xIf (eOp (o2 wNe) [eV 8,Fe []]) (Aa (BQ 9 (eOp (o2 wIx) [eV 8,AJ AI [eV 0,eOp (o1 Jo) [eV 8]]]))
    (Aa (BQ 10 (eOp (o2 wIx) [Fe [eOp (o2 CK) [eC (.int 1),AJ AI [eV 0,eOp (o2 bV) [eOp (o2 wIx) [eOp (o2 wIx) [eOp (o2 wIx) [eV 5,eC (.int 0)],eV 9],eC (.int 1)],eC (.int 999)]]],eOp (o2 wIx) [eOp (o2 wIx) [eOp (o2 wIx) [eV 5,eC (.int 0)],eV 9],eC (.int 1)]],AJ AI [eV 0,eC (.int 2)]]))
    (BQ 6 (Cm [eC (.str "throw"),eV 9,eV 10,AJ Cb [eV 0,eOp (o2 CK) [eOp (o2 wIx) [eV 2,eC (.int 1)],eC (.int 1)]]])))) D5)
    (Aa (Bl (AJ BI [eV 2,eV 5,eV 6]))
    (Bl (Lc Le (eV 4) [eV 6]))))))
theorem seq_assoc{x y z:Ex}{E:En}:Aa (Aa x y) z E S=Aa x (Aa y z) E S:=by
 rw[IG,IG,IG]
 cases e:x E S with
 |none=>rfl
 |some r=>
  obtain⟨f,E1,S1⟩:=r
  cases f with
  |nx=>rw[Bx,Bx,OO,OO,IG]
  |ret w=>rfl
theorem Z9{E:En}:aC E S=Aa W6 (Aa (Bl (AJ BI [eV 2,eV 5,eV 6])) (Bl (Lc Le (eV 4) [eV 6]))) E S:=by
 unfold aC W6
 rw[seq_assoc,IG,IG]
 congr 1
 funext r
 obtain⟨f,E1,S1⟩:=r
 cases f with
 |nx=>rw[OO,OO,seq_assoc]
 |ret w=>rfl
theorem BO.snoc{d:Ab}(h:BO t ls ds)(hl:ds.length<16)(hc:Can t (runs t (st0 t ls) ds) d):BO t ls (ds++[d]):=⟨h.tr,h.inv,Ma h.good hc,by simp;omega⟩
theorem BO.fin(h:BO t ls ds):GB t ds.length (runs t (st0 t ls) ds):=by
 have:=h.at ds.length
 rwa [List.take_length]at this
end
def Pl:Nat->D->Prop
 |0,_=>xB
 |_+1,.int _=>AAm
 |m+1,.tup ds=>ds.length<=1000/\∀d∈ds,Pl m d
 |m+1,.lst ds=>ds.length<=1000/\∀d∈ds,Pl m d
 |_+1,_=>xB
theorem bX{n:Nat}:ID (n+1)=Ar (A1 2 (IL (Ep n))):=rfl
theorem Tg{n:Nat}:Ep (n+1)=Ar (A1 2 (De (ID n))):=rfl
section
variable{S:Sto}
end
section
variable{S:Sto}{t:Tr}{ls L:Gc Ld}{ds:Gc Ab}{s:Stt}{ws:Gc Int}{k l p i:Nat}{n:Int}
theorem Ru{G B N K:Nat}(ht:Jy t)(hw:US t ws)(hv:GB t k s)(h:WBd t s ws G B N K)(hp:p<t.p):Ek [t.d,.lst (s.AE.map Ld.d),shD s.hold,.tup (ws.map .int),.int p] S=Fk (aD (FP t s ws p),S):=by
 have hK:=h.bd.hK
 have e:=Ea (gs:=[]) (t:=tTp [tNm 2,tNm 3,tNm 4]) (f:=AJ Ax [Cm [eOp (o2 CG) [eV 3,eOp (o2 wIx) [eV 0,eV 2]],eC (.int 1)],eOp (o2 wIx) [eV 4,eV 1]]) (C:=[Fk (.tup (ws.map .int)),Fk (.int p)]) (m:=3) (e:=Ld.d) (g:=λx=>aD (((x.n*ws.getD x.k 0:Int):Rat)*ownAt x p)) (S:=S) Aw (xs:=s.AE) (acc:=[]) (os:=[uK,uK,uK]) rfl (uW (show _<=50 by have:=h.bd.len;simp[wl]at this;simp;omega) (AN (by decide))) (by
  intro x hx os ho
  obtain⟨o1,o2,o3,rfl⟩:∃o1 o2 o3,os=[o1,o2,o3]:=by
   match os,ho with
   | [a,b,c],_=>exact⟨a,b,c,rfl⟩
  obtain⟨a1,w1,w2⟩:=hw.at (j:=x.k) (by have:=hv.kind x hx;omega)
  have hy:({x with n:=x.n*ws.getD x.k 0}:Ld)∈wl ws s.AE:=ux.mpr ⟨x,hx,rfl⟩
  have tm:=Kf (S:=S) (h.bd.nSz hy) ((h.bd.at hy p).sz h.bd.g0 h.bd.gK h.bd.hB) (by omega)
  rw[TL]at tm
  have a2:=dJ (x:=x) (p:=p) (by rw[hv.own x hx];exact hp)
  have m1:Dc x.n (ws.getD x.k 0)=true:=mulR (by omega) (by omega)
  refine⟨[Fk (.int x.k),Fk (.int x.n),Fk (shD x.ow)],rfl,by simp[Ld.d],?_⟩
  simp only[shD]at*
  have tm':Ax [.tup [.int (x.n*ws.getD x.k 0),.int 1],aD (ownAt x p)] S=Fk (aD (((x.n*ws.getD x.k 0:Int):Rat)*ownAt x p),S):=tm
  generalize aD (((x.n*ws.getD x.k 0:Int):Rat)*ownAt x p)=D1 at*
  generalize aD (ownAt x p)=D2 at*
  generalize ws.getD x.k 0=w at*
  simp[a1,m1,a2,tm'])
 have em:s.AE.map (λx=>aD (((x.n*ws.getD x.k 0:Int):Rat)*ownAt x p))=((wl ws s.AE).map λx=>(x.n:Rat)*ownAt x p).map aD:=by
  unfold wl
  rw[vh,vh]
  rfl
 rw[em]at e
 obtain⟨_,w1,w2⟩:=hw.at (j:=t.k) (uV _)
 have la:=hw.last
 obtain⟨b0,b1⟩:=bT ht hw
 have tt:=gH (S:=S) (rs:=((wl ws s.AE).map λx=>(x.n:Rat)*ownAt x p)++[(bw t ws:Rat)*s.hold.getD p 0]) (B:=B*N) h.bd.g0 h.bd.gK (by omega) (λr hr=>by
  rcases uk.mp hr with hr|hr
  .obtain⟨x,hx,rfl⟩:=ux.mp hr
   exact h.bd.mul hx p
  .rw[uy.mp hr]
   exact h.hol ht hw) (by
  have l1:=h.bd.len
  have:(((wl ws s.AE).map λx=>(x.n:Rat)*ownAt x p)++[(bw t ws:Rat)*s.hold.getD p 0]).length<=31:=by simp;omega
  have:=vI (B*N) this
  have:=h.bd.hb
  omega)
 have ev:(((wl ws s.AE).map λx=>(x.n:Rat)*ownAt x p)++[(bw t ws:Rat)*s.hold.getD p 0]).sum=FP t s ws p:=by
  rw[List.sum_append]
  show c7 (wl ws s.AE) p+_=c7 (wl ws s.AE) p+_
  rw[wq,List.sum_nil]
  grind
 rw[ev,wg]at tt
 have ah:atI (s.hold.map aD) (p:Int)=Fk (aD (s.hold.getD p 0)):=CF (by
  have hl:p<s.hold.length:=by rw[hv.hold];exact hp
  rw[uY,tz hl,uT,tz hl];rfl)
 have t2:=Kf (S:=S) (U6 (n:=bw t ws) (k:=11) (show _<2048 by omega) (by decide)) (h.hAt (p:=p)|>.sz h.bd.g0 h.bd.gK h.bd.hB) (by omega)
 rw[TL]at t2
 have m2:Dc (t.b:Int) (ws.getD t.k 0)=true:=mulR (by omega) (by omega)
 have t2':Ax [.tup [.int ((t.b:Int)*ws.getD t.k 0),.int 1],aD (s.hold.getD p 0)] S=Fk (aD ((bw t ws:Rat)*s.hold.getD p 0),S):=t2
 have as1:asS (.val t.d)=Fk [.int t.p,.int t.k,.int t.b,shD t.ho,.int t.h,.int t.l]:=rfl
 have dt:∀T,dr T t.d=.val t.d:=λ_=>rfl
 have hz:(((wl ws s.AE).map λx=>(x.n:Rat)*ownAt x p).map aD).length+1<=sizeLine:=uW (show _<=50 by have:=h.bd.len;simp;omega) (AN (by decide))
 simp only[vS,vH,uv,wG]at e tt
 generalize aD (FP t s ws p)=D1 at*
 generalize aD ((bw t ws:Rat)*s.hold.getD p 0)=D2 at*
 generalize aD (s.hold.getD p 0)=D3 at*
 generalize ((wl ws s.AE).map λx=>(x.n:Rat)*ownAt x p).map aD=V at*
 generalize ws.getD t.k 0=w at*
 rw[show shD s.hold=.tup (s.hold.map aD)from rfl]
 generalize s.hold.map aD=HM at*
 generalize s.AE.map Ld.d=LD at*
 simp[Ek,Om,PZ,e,as1,dt,la,m2,ah,t2',hz,tt]
end
section
variable{S:Sto}{t:Tr}{ls:Gc Ld}{ds:Gc Ab}{ws:Gc Int}{l i:Nat}{n:Int}
theorem W7(h:BO t ls ds):∃q S' L,GD [Ad t ls ds] S=Fk (.ref q,S')/\S'[q]?=Fk (.lst L)/\(∀j,j<=ds.length->atI L (j:Int)=Fk (.tup [.lst ((runs t (st0 t ls) (ds.take j)).AE.map Ld.d),shD (runs t (st0 t ls) (ds.take j)).hold]))/\Cj [] S S':=by
 obtain⟨q,S',e,hq,sm⟩:=V0 (S:=S) h
 refine⟨q,S',_,e,hq,λj hj=>CF ?_,sm⟩
 rw[uY,yO (by omega)]
 rfl
theorem To(h:BO t ls ds)(hn:ds[i]?=Fk (.thr l n ws)):∃S',CH [Ad t ls ds,.int i] S=Fk (.tup ((uc t.p).map (pairD t (runs t (st0 t ls) (ds.take i)) (runs t (st0 t ls) (ds.take (i+1))) ws)),S')/\Cj [] S S':=by
 have hlt:i<ds.length:=(uU.mp hn).1
 obtain⟨qs,S1,L,e1,hqs,hL,s1⟩:=W7 (S:=S) h
 have can:=GC h.good hn
 have hw:US t ws:=⟨can.2.2.2.1,can.2.2.2.2⟩
 have inv:=h.at i
 have inv':=h.at (i+1)
 have il:(ds.take i).length<=16:=by have:=h.len;simp;omega
 have il':(ds.take (i+1)).length<=16:=by have:=h.len;simp;omega
 obtain⟨G,B,N,K,bd⟩:=inv.wbd il hw
 obtain⟨G',B',N',K',bd'⟩:=inv'.wbd il' hw
 have L1:=hL i (by omega)
 have L2:=hL (i+1) (by omega)
 rw[show((i+1:Nat):Int)=(i:Int)+1 from rfl]at L2
 generalize runs t (st0 t ls) (ds.take i)=st at*
 generalize runs t (st0 t ls) (ds.take (i+1))=st' at*
 obtain⟨t1,t2,t3,t4,t5,t6⟩:=h.tr
 have hq:(S1++[Cl.lst []])[S1.length]?=Fk (.lst []):=uj
 have lS:=s1.len
 have lqs:=Ae hqs
 have hqs':(S1++[Cl.lst []])[qs]?=Fk (.lst L):=by rw[uP lqs];exact hqs
 generalize hQ:S1.length=q at*
 have hne:qs≠q:=by omega
 have at1:atI (ds.map Ab.d) (i:Int)=Fk (Ab.thr l n ws).d:=CF (by rw[uY,hn];rfl)
 have as1:asS (.val t.d)=Fk [.int t.p,.int t.k,.int t.b,shD t.ho,.int t.h,.int t.l]:=rfl
 have dt:∀T,dr T t.d=.val t.d:=λ_=>rfl
 obtain⟨E',S',ef,j,o,o6,f1,f2,rfl,f3,f4,f5⟩:=EJ (gs:=[]) (t:=tNm 5) (b:=(Aa (BQ 6 (AJ Ek [eOp (o2 wIx) [eV 0,eC (.int 0)],eOp (o2 wIx) [eOp (o2 wIx) [eV 2,eV 1],eC (.int 0)],eOp (o2 wIx) [eOp (o2 wIx) [eV 2,eV 1],eC (.int 1)],eV 3,eV 5]))
  (Bl (Lc Le (eV 4) [Cm [eV 6,AJ Ek [eOp (o2 wIx) [eV 0,eC (.int 0)],eOp (o2 wIx) [eOp (o2 wIx) [eV 2,eOp (o2 CK) [eV 1,eC (.int 1)]],eC (.int 0)],eOp (o2 wIx) [eOp (o2 wIx) [eV 2,eOp (o2 CK) [eV 1,eC (.int 1)]],eC (.int 1)],eV 3,eV 5]]]))))
  (I:=λrs E S'=>∃(j:Nat) (o o6:uL D),rs=((uc t.p).drop j).map (λ(i:Nat)=>D.int i)/\j<=t.p/\E=[Fk (Ad t ls ds),Fk (.int i),Fk (.ref qs),Fk (.tup (ws.map .int)),Fk (.ref q),o,o6]/\S'[q]?=Fk (.lst ((uc j).map (pairD t st st' ws)))/\S'[qs]?=Fk (.lst L)/\Cj [] S S')
  (λ_ _ _ _=>Aw) (ds:=(uc t.p).map λ(i:Nat)=>D.int i) (E:=[Fk (Ad t ls ds),Fk (.int i),Fk (.ref qs),Fk (.tup (ws.map .int)),Fk (.ref q),uK,uK]) (S:=S1++[Cl.lst []])
  ⟨0,uK,uK,by simp,we _,rfl,by simpa using hq,hqs',s1.trans .app⟩ (by
    rintro dd rs E T ⟨j,o,o6,i1,i2,rfl,i3,i4,i5⟩
    have hlt:j<t.p:=by
     rcases xY j t.p with w|w
     .exact w
     .rw[vf (by simpa using w)]at i1;cases i1
    rw[vG (by simpa using hlt),uv,zk]at i1
    injection i1 with z1 z2
    subst z1 z2
    have w1:=Ru (S:=T) h.tr hw inv bd hlt
    have w2:=Ru (S:=T) h.tr hw inv' bd' hlt
    have cq:=AY i3
    have ds':=BE i4
    have e3:(uc (j+1)).map (pairD t st st' ws)=(uc j).map (pairD t st st' ws)++[pairD t st st' ws j]:=by
     rw[AAl,wg];rfl
    have hz:((uc j).map (pairD t st st' ws)).length<sizeLine:=uO (show _<50 by simp;omega) (AN (by decide))
    have lq:=i5.len
    refine⟨_,[Fk (Ad t ls ds),Fk (.int i),Fk (.ref qs),Fk (.tup (ws.map .int)),Fk (.ref q),Fk (.int j),Fk (aD (FP t st ws j))],T.set q (.lst ((uc (j+1)).map (pairD t st st' ws))),by simp;rfl,?_,j+1,_,_,rfl,hlt,rfl,ua (Ae i3),by rw[uS (by omega)];exact i4,Cj.new (A:=[]) (B:=[q]) i5 (.set (by simp)) (by intro n hn';simp at hn';omega)⟩
    rw[e3]
    unfold pairD at hz cq⊢
    generalize aD (FP t st ws j)=D1 at*
    generalize aD (FP t st' ws j)=D2 at*
    generalize ((uc j).map λp=>D.tup [aD (FP t st ws p),aD (FP t st' ws p)])=V at*
    simp only[Ad]
    generalize st.AE.map Ld.d=LD at*
    generalize st'.AE.map Ld.d=LD2 at*
    generalize shD st.hold=HD at*
    generalize shD st'.hold=HD2 at*
    simp[ds',L1,L2,w1,cq,w2,hz])
 have hz:j=t.p:=by
  have:=congrArg xp f1
  simp at this
  omega
 subst hz
 have df:=BE f3
 refine⟨S',?_,f5⟩
 have rk:Jq (t.p:Int)=true:=DZ (by omega) (by omega)
 rw[<-WR]at ef
 simp only[x8]at ef
 simp only[Ad]at e1 ef⊢
 simp only[Ab.d]at at1
 generalize (uc t.p).map (pairD t st st' ws)=V at*
 simp[CH,Lw,e1,at1,hQ,as1,dt,rk,ef,df]
theorem aZ{s s':Stt}(hp:t.p<=4):Pl 4 (.tup ((uc t.p).map (pairD t s s' ws))):=by
 have pa:∀r:Rat,Pl 2 (aD r):=λr=>⟨by simp,λd hd=>by
  simp only[uQ,ug,vd]at hd
  rcases hd with rfl|rfl<;>exact trivial⟩
 refine⟨by simp;omega,λd hd=>?_⟩
 obtain⟨p,_,rfl⟩:=ux.mp hd
 refine⟨by simp,λd hd=>?_⟩
 simp only[uQ,ug,vd]at hd
 rcases hd with rfl|rfl<;>exact pa _
end
theorem kh{gs:Gd}{t:Tf}{b:Ex}{Iv:Nat->En->Sto->Prop}{L:Gc D}(hg:∀i E S,Iv i E S->gOk gs S){E:En}{S:Sto}(h0:Iv 0 E S)(hs:∀i d E S,L[i]?=Fk d->Iv i E S->∃E1 E2 S2,t d E S=Fk E1/\b E1 S=Fk (.nx,E2,S2)/\Iv (i+1) E2 S2):∃E' S',Nc gs t b L E S=Fk (.nx,E',S')/\Iv L.length E' S':=by
 obtain⟨E',S',e,i,f1,f2,f3⟩:=EJ (gs:=gs) (t:=t) (b:=b) (I:=λrs E S=>∃i,rs=L.drop i/\i<=L.length/\Iv i E S) (λds E S ⟨i,_,_,h⟩=>hg i E S h) (ds:=L) (E:=E) (S:=S) ⟨0,rfl,we _,h0⟩ (by
  rintro d ds E S ⟨i,e,hi,h⟩
  have hlt:i<L.length:=by
   rcases xY i L.length with w|w
   .exact w
   .rw[vf w]at e;cases e
  rw[vG hlt]at e
  injection e with z1 z2
  obtain⟨E1,E2,S2,a,b,c⟩:=hs i d E S (by rw[z1];exact tz hlt) h
  exact⟨E1,E2,S2,a,b,i+1,z2,hlt,c⟩)
 have:i=L.length:=by
  have:=congrArg xp f1
  simp at this
  lia
 subst this
 exact⟨E',S',e,f3⟩
theorem iU{n i:Nat}{d:D}(h:(KH 0 n)[i]?=Fk d):d=.int i/\i<n:=by
 unfold KH at h
 have hi:=(uU.mp h).1
 simp at hi
 rw[uY,yO hi]at h
 simp at h
 exact⟨h.symm,hi⟩
section
variable{E:En}{S:Sto}{f g k o:Ev}{d:D}{es:Gc (Key×D)}
@[simp] theorem ni:evP [] E S=some ([],S):=nr rfl
@[simp] theorem lI{r:List (Ev×Ev)}:evP ((k,f)::r) E S=(k E S).bind λa=>(lG a.1).bind λkk=>(f E a.2).bind λb=>(evP r E b.2).map λq=>((kk,b.1)::q.1,q.2):=nr rfl
@[simp] theorem lY{x:Str}:lG (.str x)=some (.inr x):=nr rfl
@[simp] theorem kK{cf:Bool}{fs:List (Ev×Ev)}:Wj cf fs E S=(evP fs E S).map λr=>Zs cf (PD [] r.1) r.2:=nr rfl
@[simp] theorem qj:Zs false es S=(.dct es,S):=nr rfl
end
inductive Pt:D->Prop
 |non:Pt .non
 |bl (b:vL):Pt (.bl b)
 |int (i:Int):Pt (.int i)
 |str (x:Str):Pt (.str x)
 |tup (ds:Gc D):Pt (.tup ds)
 |lst (ds:Gc D):Pt (.lst ds)
 |dct (kvs:Gc (Key×D)):Pt (.dct kvs)
noncomputable def ptI:D->vL
 | .int _=>true
 |_=>false
noncomputable def ptF(lo:Int):D->vL
 | .int i=>decide (lo<=i)
 |_=>false
noncomputable def ptW(lo hi:Int):D->vL
 | .int i=>decide (lo<=i) && decide (i<=hi)
 |_=>false
section
variable{S:Sto}{d:D}{p:Nat}
@[simp] theorem ou:kdW (.val .non)=some .non:=nr rfl
@[simp] theorem qi{b:Bool}:kdW (.val (.bl b))=some .bl:=nr rfl
@[simp] theorem pQ{i:Int}:kdW (.val (.int i))=some .int:=nr rfl
@[simp] theorem nU{x:Str}:kdW (.val (.str x))=some .str:=nr rfl
@[simp] theorem pz{ds:List D}:kdW (.val (.tup ds))=some .tup:=nr rfl
@[simp] theorem om{ds:List D}:kdW (.val (.lst ds))=some .lst:=nr rfl
@[simp] theorem oK{ds:List (Key×D)}:kdW (.val (.dct ds))=some .dct:=nr rfl
theorem Yc(h:Pt d):Cd [d] S=Fk ((.bl (ptI d)),S):=by
 cases h<;>simp[Cd,GQ,St.Kd.isA,ptI]
theorem bA(h:Pt d)(lo:Int):F7 [d,.int lo] S=Fk ((.bl (ptF lo d)),S):=by
 have w:=Yc (S:=S) h
 cases h<;>simp[F7,JK,w,ptI,ptF]
theorem Vu(h:Pt d)(lo hi:Int):DM [d,.int lo,.int hi] S=Fk ((.bl (ptW lo hi d)),S):=by
 have w:=bA (S:=S) h lo
 cases h with
 |int i=>by_cases c:lo<=i<;>simp[DM,FY,w,ptF,ptW,c]
 |_=>simp[DM,FY,w,ptF,ptW]
theorem Ti{n:Nat}:Al (n+1)=Ar (A1 4 (Hl (Al n))):=rfl
noncomputable def Mm:Gc D:=[.non,.bl true,.bl false,.int 0,.int 1,.int (-1),.int 9,.int (10^39),.str "",.str "a",.tup [],.lst []]
theorem Vd:∀x∈Mm,Pt x:=by
 intro x hx
 simp only[Mm,uQ,ug,vd]at hx
 rcases hx with rfl|rfl|rfl|rfl|rfl|rfl|rfl|rfl|rfl|rfl|rfl|rfl
 all_goals constructor
def Ta:Ev:=(Fe [eC .non,eC (.bl true),eC (.bl false),eC (.int 0),eC (.int 1),eOp (o1 Nm) [eC (.int 1)],eC (.int 9),eOp (o2 XN) [eC (.int 10),eC (.int 39)],eC (.str ""),eC (.str "a"),Cm [],Fe []])
theorem rC:XN (.val (.int 10)) (.val (.int 39))=Fk (.val (.int (10^39))):=by with_unfolding_all rfl
theorem Vh{E:En}:Ta E S=Fk (.lst Mm,S):=by
 have n1:Nm (.val (.int 1))=Fk (.val (.int (-1))):=rfl
 have sz:(12:Nat)<=sizeLine:=AN (by decide)
 simp[Ta,n1,rC,Mm,sz]
theorem TC:∀{n d:Nat},d<n->∀{S:Sto},CD p S->∃X S',Al n [.ref p,.int d] S=Fk (X,S')/\Pt X/\Pn p S S'
 |0,d,h,_,_=>absurd h (by omega)
 |n+1,d,h,S,hp=>by
  obtain⟨way,S1,e1,w0,w1,p1⟩:=Aj hp (n:=12) (by decide) (by decide)
  rw[Ti]
  have eb:Hl (Al n)=(Aa (BQ 2 (AJ AI [eV 0,eC (.int 12)]))
  (Aa (xIf (eOr (eOp (o2 wLt) [eV 2,eC (.int 8)]) (eOp (o2 wEq) [eV 1,eC (.int 0)])) (BJ (eOp (o2 wIx) [Ta,AJ AI [eV 0,eC (.int 12)]])) D5)
  (Aa (BQ 3 (C9 [0,1] 1 (PJ [AJ AI [eV 0,eC (.int 4)]]) (tNm 2) Cr (AJ (Al n) [eV 0,eOp (o2 OQ) [eV 1,eC (.int 1)]])))
  (Aa (xIf (eOp (o2 wEq) [eV 2,eC (.int 8)]) (BJ (eV 3)) D5)
  (Aa (xIf (eOp (o2 wEq) [eV 2,eC (.int 9)]) (BJ (fG [((eC (.str "a")),(eV 3))])) D5)
  (BJ (eOp (o1 CS) [eV 3]))))))):=rfl
  rw[eb]
  by_cases c:way<8\/d=0
  .obtain⟨r,S2,e2,r0,r1,p2⟩:=Aj p1.pen (n:=12) (by decide) (by decide)
   obtain⟨x,ax,hx⟩:=pick (xs:=Mm) r0 (by simpa[Mm]using r1)
   refine⟨x,S2,?_,Vd x hx,p1.trans p2⟩
   have k:=λE=>Vh (S:=S1) (E:=E)
   rcases Decidable.em (way<8)with c1|c1
   .simp[e1,c1,k,e2,ax]
   .have c2:d=0:=c.resolve_left c1
    subst c2
    simp[e1,c1,k,e2,ax]
  .have c1:¬way<8:=λz=>c (.inl z)
   have c2:¬d=0:=λz=>c (.inr z)
   obtain⟨r,S2,e2,r0,r1,p2⟩:=Aj p1.pen (n:=4) (by decide) (by decide)
   obtain⟨k,rfl⟩:=HN r0
   have rk:Jq (k:Int)=true:=DZ (by omega) (by omega)
   obtain⟨ys,S3,e3,i3,l3,r3⟩:=MC (gs:=[]) (t:=tNm 2) (f:=AJ (Al n) [eV 0,eOp (o2 OQ) [eV 1,eC (.int 1)]]) (C:=[Fk (.ref p),Fk (.int d)]) (m:=1) (I:=λT=>Pn p S2 T) (R:=λ_ y=>AAm) (λ_ _=>Aw) (ds:=KH 0 k) (acc:=[]) (os:=[uK]) (S:=S2) rfl (.refl p2.pen) (AN (by simp[D7];omega)) (by
    intro dd hd os T ho hI
    match os,ho with
    | [a],_=>
    obtain⟨X,T',ex,hX,hP⟩:=TC (n:=n) (d:=d-1) (by omega) hI.pen
    refine⟨[Fk dd],X,T',rfl,by simp,?_,hI.trans hP,trivial⟩
    have ec:(d:Int)-1=((d-1:Nat):Int):=by omega
    simp[ec,ex])
   have pn:=(p1.trans p2).trans i3
   simp only[vH,vS]at e3
   have c2':((d:Int)==0)=false:=by simpa using c2
   have tn:(k:Int).toNat=k:=by omega
   by_cases w8:way=8
   .subst w8
    refine⟨.lst ys,S3,?_,.lst _,pn⟩
    simp[e1,c2',e2,rk,PZ,e3,tn]
   .have w8':(way==8)=false:=by simpa using w8
    by_cases w9:way=9
    .subst w9
     refine⟨.dct (PD [] [(.inr "a",.lst ys)]),S3,?_,.dct _,pn⟩
     simp[e1,c2',e2,rk,PZ,e3,tn]
    .have w9':(way==9)=false:=by simpa using w9
     refine⟨.tup ys,S3,?_,.tup _,pn⟩
     simp[e1,c1,c2',e2,rk,PZ,e3,tn,w8',w9']
end
section
end
section
variable{S:Sto}{t:Tr}{ls:Gc Ld}{ds:Gc Ab}
theorem Uw{d:Ab}(h:Gs d=true):∃l n ws,d=.thr l n ws:=by
 cases d with
 |thr l n ws=>exact⟨l,n,ws,rfl⟩
 |_=>cases h
noncomputable def GG(ds:Gc Ab):D->vL
 | .int i=>decide (0<=i) && decide (i<=(ds.length:Int)-1) && Gs (ds.getD i.toNat (.LC 0 0))
 |_=>false
theorem Q3{X:D}(h:GG ds X=true):∃(i l:Nat) (n:Int) (ws:Gc Int),X=.int i/\ds[i]?=Fk (.thr l n ws):=by
 cases X with
 |int i=>
  simp only[GG,ub,xZ]at h
  obtain⟨⟨h0,h1⟩,h2⟩:=h
  obtain⟨n,rfl⟩:=yb h0
  have hn:n<ds.length:=by lia
  obtain⟨p,q,x,e⟩:=Uw h2
  refine⟨n,p,q,x,rfl,?_⟩
  rw[uT]at e
  rw[tz hn]
  have hz:((n:Int).toNat)=n:=rfl
  rw[hz,tz hn]at e
  exact congrArg Fk e
 |_=>cases h
theorem aS{X:D}(h:Pt X):Ez [Ad t ls ds,X] S=Fk (.bl (ptW 0 ((ds.length:Int)-1) X),S):=by
 have w:=Vu (S:=S) h 0 ((ds.length:Int)-1)
 simp[Ez,IM,Ad,w]
theorem Tx{X:D}(h:Pt X):Bh [Ad t ls ds,.str "throw",X] S=Fk (.bl (GG ds X),S):=by
 have pl:=aS (S:=S) (t:=t) (ls:=ls) (ds:=ds) h
 by_cases w:ptW 0 ((ds.length:Int)-1) X=true
 .cases X with
  |int i=>
   simp only[ptW,ub,xZ]at w
   obtain⟨n,rfl⟩:=yb w.1
   have hn:n<ds.length:=by lia
   have a:atI (ds.map Ab.d) (n:Int)=Fk (ds.getD n (.LC 0 0)).d:=CF (by rw[uY,uT,tz hn];rfl)
   have hs:GG ds (.int n)=Gs (ds.getD n (.LC 0 0)):=by
    have h2:((n:Int)<=(ds.length:Int)-1):=w.2
    simp[GG,h2]
   rw[hs]
   have hw:ptW 0 ((ds.length:Int)-1) (.int n)=true:=by simp[ptW,w.2]
   rw[hw]at pl
   generalize ds.getD n (.LC 0 0)=dd at*
   simp only[Ad]at pl⊢
   cases dd<;>simp[Bh,Dd,pl,a,Ab.d,Gs]
  |_=>cases w
 .have w':ptW 0 ((ds.length:Int)-1) X=false:=by simpa using w
  rw[w']at pl
  have hs:GG ds X=false:=by
   cases X with
   |int i=>
    simp only[ptW]at w'
    simp only[GG,w',AAv]
   |_=>rfl
  rw[hs]
  generalize Ad t ls ds=bk at*
  simp[Bh,Dd,pl]
theorem Mg{X:D}(hX:Pt X)(w:GG ds X=false):Ag [Ad t ls ds,X] S=uK/\Ak [Ad t ls ds,X] S=Fk (("NoThrow":Str),S):=by
 have pl:=Tx (S:=S) (t:=t) (ls:=ls) (ds:=ds) hX
 rw[w]at pl
 generalize Ad t ls ds=bk at*
 constructor
 .have xs:∀E S,RV E S=none:=λ_ _=>rfl
  simp[Ag,DH,pl,xs]
 .unfold Ak
  rw[Jt]
  have e3:(UC (AJ Bh [eV 0,eC (.str "throw"),eV 1])) [Fk bk,Fk X] S=Fk (.bl true,S):=by simp[pl]
  show(Ec [Fk bk,Fk X] S).map _=_
  unfold Ec rIf
  rw[e3]
  show yX _ (VD _ _ _ _)=_
  unfold VD
  simp
theorem WZ{X:D}(h:BO t ls ds)(hX:Pt X)(w:GG ds X=false):DN [Ad t ls ds,X] S=uK/\Fp [Ad t ls ds,X] S=Fk (("NoThrow":Str),S):=by
 have r1:=Ii (S:=S) h
 obtain⟨n1,n2⟩:=Mg (S:=S) (t:=t) (ls:=ls) hX w
 generalize Ad t ls ds=bk at*
 constructor
 .simp[DN,LK,r1,n1]
 .unfold Fp
  rw[Jt]
  have e1:(Bl (AJ Ay [eV 0])) [Fk bk,Fk X] S=Fk (.nx,[Fk bk,Fk X],S):=by simp[r1]
  have e2:Gj Ak [eV 0,eV 1] [Fk bk,Fk X] S=Fk (("NoThrow":Str),[Fk bk,Fk X],S):=by
   unfold Gj
   simp[n2]
  show(LQ [Fk bk,Fk X] S).map _=_
  unfold LQ X8 rNo
  dsimp only
  rw[e1]
  show yX _ (match Gj Ak [eV 0,eV 1] [Fk bk,Fk X] S with|some z=>Fk z|none=>_)=_
  rw[e2]
  rfl
theorem W9{X:D}(h:BO t ls ds)(hX:Pt X)(w:GG ds X=false):DK [Ad t ls ds,X] S=uK/\Fy [Ad t ls ds,X] S=Fk (("NoThrow":Str),S):=by
 have r1:=Ii (S:=S) h
 obtain⟨n1,n2⟩:=Mg (S:=S) (t:=t) (ls:=ls) hX w
 generalize Ad t ls ds=bk at*
 constructor
 .simp[DK,LO,r1,n1]
 .unfold Fy
  rw[Jt]
  have e1:(Bl (AJ Ay [eV 0])) [Fk bk,Fk X] S=Fk (.nx,[Fk bk,Fk X],S):=by simp[r1]
  have e2:Gj Ak [eV 0,eV 1] [Fk bk,Fk X] S=Fk (("NoThrow":Str),[Fk bk,Fk X],S):=by
   unfold Gj
   simp[n2]
  show(LI [Fk bk,Fk X] S).map _=_
  unfold LI X8 rNo
  dsimp only
  rw[e1]
  show yX _ (match Gj Ak [eV 0,eV 1] [Fk bk,Fk X] S with|some z=>Fk z|none=>_)=_
  rw[e2]
  rfl
theorem Ou{X:D}(h:BO t ls ds)(hX:Pt X)(w:GG ds X=false){Z:D}:BD [Ad t ls ds,X,Z] S=uK/\CL [Ad t ls ds,X,Z] S=Fk (("NoThrow":Str),S):=by
 have r1:=Ii (S:=S) h
 obtain⟨n1,n2⟩:=Mg (S:=S) (t:=t) (ls:=ls) hX w
 generalize Ad t ls ds=bk at*
 constructor
 .simp[BD,F3,r1,n1]
 .unfold CL
  rw[Jt]
  have e1:(Bl (AJ Ay [eV 0])) [Fk bk,Fk X,Fk Z] S=Fk (.nx,[Fk bk,Fk X,Fk Z],S):=by simp[r1]
  have e2:Gj Ak [eV 0,eV 1] [Fk bk,Fk X,Fk Z] S=Fk (("NoThrow":Str),[Fk bk,Fk X,Fk Z],S):=by
   unfold Gj
   simp[n2]
  show(Ft [Fk bk,Fk X,Fk Z] S).map _=_
  unfold Ft X8 rNo
  dsimp only
  rw[e1]
  show yX _ (match Gj Ak [eV 0,eV 1] [Fk bk,Fk X,Fk Z] S with|some z=>Fk z|none=>_)=_
  rw[e2]
  rfl
end
inductive Th:D->Prop
 |non:Th .non
 |bl (b:vL):Th (.bl b)
 |int (i:Int):Th (.int i)
 |str (x:Str) (h:vt x=true):Th (.str x)
 |tup {ds:Gc D} (h:∀d∈ds,Th d) (l:ds.length<=1000):Th (.tup ds)
 |lst {ds:Gc D} (h:∀d∈ds,Th d) (l:ds.length<=1000):Th (.lst ds)
 |dct (kvs:Gc (Key×D)):Th (.dct kvs)
mutual
noncomputable def FR(x:D):D->vL
 | .int j=>match x with
   | .int i=>i==j
   |_=>false
 | .tup ts=>match x with
   | .tup xs=>Jn xs ts
   |_=>false
 | .lst ts=>match x with
   | .lst xs=>Jn xs ts
   |_=>false
 |_=>false
noncomputable def Jn:Gc D->Gc D->vL
 | [],[]=>true
 |x::xs,t::ts=>FR x t && Jn xs ts
 |_,_=>false
end
theorem TB:∀{xs ts:Gc D},Jn xs ts=true->xs.length=ts.length
 | [],[],_=>rfl
 |x::xs,t::ts,h=>by
  have h:(FR x t && Jn xs ts)=true:=by simpa[Jn]using h
  rw[ub]at h
  simp[TB h.2]
 | [],_::_,h=>by simp[Jn]at h
 |_::_,[],h=>by simp[Jn]at h
theorem SR:∀{xs ts:Gc D},xs.length=ts.length->Jn xs ts=(xs.zip ts).all λz=>FR z.1 z.2
 | [],[],_=>by simp[Jn]
 |x::xs,t::ts,h=>by
  rw[ABc,xG,<-SR (by simpa using h)]
  simp[Jn]
 | [],_::_,h=>by simp at h
 |_::_,[],h=>by simp at h
def As(w:Wv)(d:D):Prop:=w=.val d\/∃ds,d=.lst ds/\w=.own ds
theorem As.fz{w:Wv}{d:D}(h:As w d):fz w=d:=by
 rcases h with rfl|⟨ds,rfl,rfl⟩<;>rfl
theorem As.kd{w:Wv}{d:D}(h:As w d):kdW w=kdW (.val d):=by
 rcases h with rfl|⟨ds,rfl,rfl⟩<;>rfl
theorem As.len{w:Wv}{d:D}{xs:Gc D}(h:As w d)(e:d=.tup xs\/d=.lst xs):Jo w=Fk (.val (.int xs.length))/\asS w=Fk xs:=by
 rcases h with rfl|⟨ds,rfl,rfl⟩
 .rcases e with rfl|rfl<;>exact⟨rfl,rfl⟩
 .rcases e with e|e
  .cases e
  .cases e;exact⟨rfl,rfl⟩
structure Thg(S:Sto)(X x:D):Prop where
 th:Th x
 as:As (dr S X) x
 sq:∀xs,(x=.tup xs\/x=.lst xs)->∃gs,sqD S X=Fk (xs,gs)/\gOk gs S
section
variable{S:Sto}
theorem Th.dr{x:D}(h:Th x):dr S x=.val x:=by cases h<;>rfl
theorem Thg.plain{x:D}(h:Th x):Thg S x x:=⟨h,.inl h.dr,λxs e=>by
 rcases e with rfl|rfl<;>exact⟨[],rfl,Aw⟩⟩
theorem UJ:∀{m:Nat} {d:D},Pl m d->Th d
 |0,d,h=>by cases d<;>exact h.elim
 |m+1,.int i,h=>.int i
 |m+1,.tup ds,h=>.tup (λd hd=>UJ (h.2 d hd)) h.1
 |m+1,.lst ds,h=>.lst (λd hd=>UJ (h.2 d hd)) h.1
theorem X7:∀{m:Nat} {d:D},Pl m d->d.lay=true
 |0,d,h=>by cases d<;>exact h.elim
 |m+1,.int i,h=>rfl
 |m+1,.tup ds,h=>by
  show D.QP ds=true
  have:=Lg (f:=id) (xs:=ds) λd hd=>X7 (h.2 d hd)
  simpa using this
 |m+1,.lst ds,h=>by
  show D.QP ds=true
  have:=Lg (f:=id) (xs:=ds) λd hd=>X7 (h.2 d hd)
  simpa using this
@[simp] theorem qr:kdW (.val .non)=some .non:=nr rfl
@[simp] theorem sG{b:Bool}:kdW (.val (.bl b))=some .bl:=nr rfl
@[simp] theorem qH{i:Int}:kdW (.val (.int i))=some .int:=nr rfl
@[simp] theorem qX{x:Str}:kdW (.val (.str x))=some .str:=nr rfl
@[simp] theorem qE{ds:List D}:kdW (.val (.tup ds))=some .tup:=nr rfl
@[simp] theorem qc{ds:List D}:kdW (.val (.lst ds))=some .lst:=nr rfl
@[simp] theorem qe{ds:List (Key×D)}:kdW (.val (.dct ds))=some .dct:=nr rfl
theorem ir{m:Nat}{x T:D}{wx wT:Wv}(hx:Th x)(hT:Pl (m+1) T)(ax:As wx x)(aT:As wT T)(hb:∀b,x≠.bl b)(hs:∀xs ts,¬((x=.tup xs\/x=.lst xs)/\(T=.tup ts\/T=.lst ts))):U5 wx wT=Fk (.val (.bl (FR x T))):=by
 have lT:=X7 hT
 have dead:(EE x T=true->deq x T=false)->FR x T=false->(EE x T=false->∃k j,kdW (.val x)=Fk k/\kdW (.val T)=Fk j/\unlike k j=true)->U5 wx wT=Fk (.val (.bl (FR x T))):=λh1 h2 h3=>by
  unfold U5
  rw[ax.fz,aT.fz]
  cases ho:EE x T with
  |true=>rw[vM rfl,h1 ho,h2]
  |false=>
   obtain⟨k,j,e1,e2,e3⟩:=h3 ho
   rw[vP (by simp),ax.kd,aT.kd,e1,e2,Bx,Bx,vM e3,h2]
 have flat:x.lay=true->x.py.depth<=1->EE x T=true:=λl d=>by
  unfold EE
  rw[l,lT]
  simp only[Bool.true_and,xZ]
  omega
 cases T with
 |int j=>
  cases hx with
  |non=>exact dead (λ_=>rfl) rfl λh=>by rw[flat rfl (by simp[D.py,xv])]at h;cases h
  |bl b=>exact absurd rfl (hb b)
  |int i=>
   unfold U5
   rw[ax.fz,aT.fz,vM gG,jz]
   simp[FR]
  |str y h=>exact dead (λ_=>rfl) rfl λh'=>by rw[flat h (by simp[D.py,xv])]at h';cases h'
  |tup h l=>exact dead (λ_=>rfl) rfl λ_=>⟨_,_,rfl,rfl,rfl⟩
  |lst h l=>exact dead (λ_=>rfl) rfl λ_=>⟨_,_,rfl,rfl,rfl⟩
  |dct k=>exact dead (λh=>by simp[EE,D.lay]at h) rfl λ_=>⟨_,_,rfl,rfl,rfl⟩
 |tup ts=>
  cases hx with
  |non=>exact dead (λ_=>rfl) rfl λh=>by rw[flat rfl (by simp[D.py,xv])]at h;cases h
  |bl b=>exact absurd rfl (hb b)
  |int i=>exact dead (λ_=>rfl) rfl λh=>by rw[flat rfl (by simp[D.py,xv])]at h;cases h
  |str y h=>exact dead (λ_=>rfl) rfl λh'=>by rw[flat h (by simp[D.py,xv])]at h';cases h'
  |tup h l=>exact absurd ⟨.inl rfl,.inl rfl⟩ (hs _ _)
  |lst h l=>exact absurd ⟨.inr rfl,.inl rfl⟩ (hs _ _)
  |dct k=>exact dead (λh=>by simp[EE,D.lay]at h) rfl λ_=>⟨_,_,rfl,rfl,rfl⟩
 |lst ts=>
  cases hx with
  |non=>exact dead (λ_=>rfl) rfl λh=>by rw[flat rfl (by simp[D.py,xv])]at h;cases h
  |bl b=>exact absurd rfl (hb b)
  |int i=>exact dead (λ_=>rfl) rfl λh=>by rw[flat rfl (by simp[D.py,xv])]at h;cases h
  |str y h=>exact dead (λ_=>rfl) rfl λh'=>by rw[flat h (by simp[D.py,xv])]at h';cases h'
  |tup h l=>exact absurd ⟨.inl rfl,.inr rfl⟩ (hs _ _)
  |lst h l=>exact absurd ⟨.inr rfl,.inr rfl⟩ (hs _ _)
  |dct k=>exact dead (λh=>by simp[EE,D.lay]at h) rfl λ_=>⟨_,_,rfl,rfl,rfl⟩
 |_=>exact hT.elim
end
section
variable{S:Sto}
theorem YC{α:Type}{p:α->vL}{xs:Gc α}:((bls (xs.map λx=>D.bl (p x))).map λbs=>Wv.val (.bl (bs.all id)))=Fk (.val (.bl (xs.all p))):=by
 rw[XW p]
 simp[AAX]
theorem Oq:∀{xs ts:Gc D},xs.length=ts.length->Jn xs ts=(uc xs.length).all λi=>FR (xs.getD i .non) (ts.getD i .non)
 | [],[],_=>by simp[Jn]
 |x::xs,t::ts,h=>by
  have ih:=Oq (xs:=xs) (ts:=ts) (by simpa using h)
  rw[vR,AAW,xG,AAX]
  simp only[Jn,ih]
  rfl
 | [],_::_,h=>by simp at h
 |_::_,[],h=>by simp at h
theorem VE{xs ts:Gc D}(h:¬xs.length=ts.length):Jn xs ts=false:=by
 cases e:Jn xs ts with
 |false=>rfl
 |true=>exact absurd (TB e) h
theorem WT{n:Nat}{ts xs:Gc D}{X TT x T:D}(gx:Thg S X x)(gT:Thg S TT T)(ex:x=.tup xs\/x=.lst xs)(eT:T=.tup ts\/T=.lst ts)(lx:xs.length<=1000)(ih:∀(i:Nat) (h1:i<xs.length) (h2:i<ts.length),Ep n [xs[i],ts[i]] S=Fk (.bl (FR xs[i] ts[i]),S)):ID (n+1) [X,TT] S=Fk (.bl (Jn xs ts),S):=by
 obtain⟨gs,e1,e2⟩:=gx.sq xs ex
 obtain⟨e3,e4⟩:=gx.as.len ex
 obtain⟨e5,e6⟩:=gT.as.len eT
 rw[bX]
 by_cases hlen:xs.length=ts.length
 .have c:=Ea (gs:=gs) (t:=tTp [tNm 1,tNm 2]) (f:=AJ (Ep n) [eV 2,eOp (o2 wIx) [eV 0,eV 1]]) (C:=[Fk TT]) (m:=2) (e:=λ(i:Nat)=>D.tup [.int i,xs.getD i .non]) (g:=λi=>D.bl (FR (xs.getD i .non) (ts.getD i .non))) (S:=S) e2 (xs:=uc xs.length) (acc:=[]) (os:=[uK,uK]) rfl (AN (by simpa using lx)) (by
   intro i hi os ho
   match os,ho with
   | [a,b],_=>
   have hi':i<xs.length:=by simpa using hi
   have hi2:i<ts.length:=by omega
   have eg:xs.getD i .non=xs[i]:=by rw[uT,tz hi'];rfl
   have eg2:ts.getD i .non=ts[i]:=by rw[uT,tz hi2];rfl
   have a:=CF (tz hi2)
   have hs:=ih i hi' hi2
   refine⟨[Fk (.int i),Fk xs[i]],rfl,by rw[eg];simp,?_⟩
   rw[eg,eg2]
   simp[e6,a,hs])
  rw[<-MK]at c
  simp only[vH,vS]at c
  have al:=Oq hlen
  have bb:=YC (p:=λi=>FR (xs.getD i .non) (ts.getD i .non)) (xs:=uc xs.length)
  rw[<-al]at bb
  generalize (uc xs.length).map (λi=>D.bl (FR (xs.getD i .non) (ts.getD i .non)))=BB at*
  simp[IL,e3,e5,hlen,e1,c,bb]
 .have hl:¬(xs.length:Int)=ts.length:=by omega
  have hb:((xs.length:Int)==ts.length)=false:=by simpa using hl
  rw[VE hlen]
  simp[IL,e3,e5,hb]
theorem WV{X x:D}(g:Thg S X x):Cd [X] S=Fk (.bl (match x with| .int _=>true|_=>false),S):=by
 have kx:=g.as.kd
 have th:=g.th
 cases th with
 |_=>simp[Cd,GQ,kx,St.Kd.isA]
theorem OF:∀{m:Nat} {T:D},Pl m T->∀{n:Nat} {X x:D},2*m<=n->Thg S X x->Ep n [X,T] S=Fk (.bl (FR x T),S)
 |0,T,h,_,_,_,_,_=>by cases T<;>exact h.elim
 |m+1,.int j,h,n,X,x,hn,g=>by
  obtain⟨n',rfl⟩:∃n',n=n'+1:=⟨n-1,by omega⟩
  have fx:=g.as.fz
  have th:=g.th
  have w:=WV g
  rw[Tg]
  cases th with
  |int i=>simp[De,St.Kd.isA,isN,w,fx,FR]
  |_=>simp[De,St.Kd.isA,isN,w,FR]
 |m+1,.tup ts,h,n,X,x,hn,g=>by
  obtain⟨n',rfl⟩:∃n',n=n'+1+1:=⟨n-2,by omega⟩
  have kx:=g.as.kd
  have th:=g.th
  have gT:Thg S (.tup ts) (.tup ts):=.plain (UJ h)
  rw[Tg]
  cases th with
  |tup hx lx=>
   rename_i xs
   have ar:=WT (n:=n') g gT (.inl rfl) (.inl rfl) lx λi h1 h2=>OF (h.2 ts[i] (wI h2)) (n:=n') (by omega) (Thg.plain (hx xs[i] (wI h1)))
   simp[De,kx,St.Kd.isA,ar,FR]
  |_=>simp[De,kx,St.Kd.isA,FR]
 |m+1,.lst ts,h,n,X,x,hn,g=>by
  obtain⟨n',rfl⟩:∃n',n=n'+1+1:=⟨n-2,by omega⟩
  have kx:=g.as.kd
  have th:=g.th
  have gT:Thg S (.lst ts) (.lst ts):=.plain (UJ h)
  rw[Tg]
  cases th with
  |lst hx lx=>
   rename_i xs
   have ar:=WT (n:=n') g gT (.inr rfl) (.inr rfl) lx λi h1 h2=>OF (h.2 ts[i] (wI h2)) (n:=n') (by omega) (Thg.plain (hx xs[i] (wI h1)))
   simp[De,kx,St.Kd.isA,ar,FR]
  |_=>simp[De,kx,St.Kd.isA,FR]
end
theorem TZ{x:Str}{JP:Gc Nat}{F:Ev}{R:Rx}{c0:D}{h:Str->Ex}{E:En}{S S':Sto}{d:D}(hT:S.any (Lu x)=true)(e:F (Td JP E) S=Fk (d,S')):WB x JP F R c0 h E S=Fk (c0,S'):=by
 unfold WB
 rw[vM hT,e]
theorem UQ{x:Str}{JP:Gc Nat}{F:Ev}{R:Rx}{c0 d:D}{h:Str->Ex}{E E' E2:En}{S S1 S2:Sto}{y:Str}(hT:S.any (Lu x)=true)(e:F (Td JP E) S=uK)(e1:R (Td JP E) S=Fk (y,E',S1))(e2:h y [uK] S1=Fk (.ret d,E2,S2)):WB x JP F R c0 h E S=Fk (d,S2):=by
 unfold WB
 rw[vM hT,e]
 dsimp only
 rw[e1]
 show((h y [uK] S1).bind λz=>match z.1 with| .ret d=>Fk (d,z.2.2)| .nx=>uK)=_
 rw[e2]
 rfl
section
variable{S:Sto}
theorem call2{F:Fn}{a b:D}:AJ F [eV 0,eV 1] [Fk a,Fk b] S=F [a,b] S:=by simp
theorem dP{R:Rf}{a b:D}{y:Str}(h:R [a,b] S=Fk (y,S)):Gj R [eV 0,eV 1] [Fk a,Fk b] S=Fk (y,[Fk a,Fk b],S):=by
 unfold Gj
 simp[h]
theorem cc{F:Fn}{a b c:D}:AJ F [eV 0,eV 1,eC c] [Fk a,Fk b] S=F [a,b,c] S:=by simp
theorem dq{R:Rf}{a b c:D}{y:Str}(h:R [a,b,c] S=Fk (y,S)):Gj R [eV 0,eV 1,eC c] [Fk a,Fk b] S=Fk (y,[Fk a,Fk b],S):=by
 unfold Gj
 simp[h]
theorem tab_of{x:Str}{n:Nat}(h:S[n]?=Fk (Cl.tab x)):S.any (Lu x)=true:=AAK.mpr ⟨_,uh h,by unfold Lu;simp⟩
theorem tab_keep{x:Str}{S':Sto}(h:S.any (Lu x)=true)(g:Cj [] S S'):S'.any (Lu x)=true:=by
 obtain⟨n,e⟩:=QX h
 exact tab_of (g.get e (by simp))
theorem Xx{y:Str}{d:D}:gOr [y] y (BJ (eC d)) gNo y [uK] S=Fk (.ret d,[uK],S):=by
 unfold gOr
 rw[vM (by simp),vM (by simp)]
 simp
end
section
variable{S:Sto}{t:Tr}{ls:Gc Ld}{ds:Gc Ab}{i l:Nat}{n:Int}{ws:Gc Int}{X x:D}
noncomputable def dw(t:Tr)(ls:Gc Ld)(ds:Gc Ab)(i:Nat)(ws:Gc Int):D:=.tup ((uc t.p).map (pairD t (runs t (st0 t ls) (ds.take i)) (runs t (st0 t ls) (ds.take (i+1))) ws))
theorem R8(h:BO t ls ds)(hn:ds[i]?=Fk (.thr l n ws))(hX:∀S',Cj [] S S'->Thg S' X x):∃S',BD [Ad t ls ds,.int i,X] S=Fk (.bl (FR x (dw t ls ds i ws)),S')/\Cj [] S S':=by
 have r1:=Ii (S:=S) h
 have r2:=PH (S:=S) (t:=t) (ls:=ls) hn
 obtain⟨S',e,s1⟩:=KQ (S:=S) h hn
 have pl:Pl 4 (dw t ls ds i ws):=aZ (by obtain⟨t1,t2,t3,t4,t5,t6⟩:=h.tr;lia)
 have sm:=OF (S:=S') pl (n:=8) (by decide) (hX S' s1)
 have e':CT [Ad t ls ds,.int i] S=Fk (dw t ls ds i ws,S'):=e
 refine⟨S',?_,s1⟩
 generalize dw t ls ds i ws=T at*
 generalize Ad t ls ds=bk at*
 simp[BD,F3,r1,r2,e',sm]
noncomputable def hdT:Str->Ex:=gOr ["NoThrow"] "NoThrow" (BJ (eC (.str "throw"))) gNo
noncomputable def C0(ds:Gc Ab)(X:D):Str:=if GG ds X=true then "none" else "throw"
def laC:Ev:=WB "_law_all_so" [0,1] (AJ DN [eV 0,eV 1]) (Gj Fp [eV 0,eV 1]) (.str "none") hdT
def laB:Ev:=WB "_law_all_so" [0,1] (AJ DK [eV 0,eV 1]) (Gj Fy [eV 0,eV 1]) (.str "none") hdT
def laH:Ev:=WB "_law_all_so" [0,1] (AJ BD [eV 0,eV 1,eC .non]) (Gj CL [eV 0,eV 1,eC .non]) (.str "none") hdT
variable{e2 e3:uL D}
theorem jF(hT:S.any (Lu "_law_all_so")=true)(h:BO t ls ds)(hX:Pt X):laC [Fk (Ad t ls ds),Fk X,e2,e3] S=Fk (.str (C0 ds X),S):=by
 unfold C0
 cases w:GG ds X with
 |true=>
  obtain⟨i,l,n,ws,rfl,hs⟩:=Q3 w
  exact TZ hT (show AJ DN _ [Fk (Ad t ls ds),Fk (.int i)] S=_ from call2.trans (Vo h hs))
 |false=>
  obtain⟨n1,n2⟩:=WZ (S:=S) h hX w
  exact UQ hT (show AJ DN _ [Fk (Ad t ls ds),Fk X] S=_ from call2.trans n1) (show Gj Fp _ [Fk (Ad t ls ds),Fk X] S=_ from dP n2) Xx
theorem jh(hT:S.any (Lu "_law_all_so")=true)(h:BO t ls ds)(hX:Pt X):∃S',laB [Fk (Ad t ls ds),Fk X,e2,e3] S=Fk (.str (C0 ds X),S')/\Cj [] S S':=by
 unfold C0
 cases w:GG ds X with
 |true=>
  obtain⟨i,l,n,ws,rfl,hs⟩:=Q3 w
  obtain⟨S',e,s1⟩:=V8 (S:=S) h hs
  exact⟨S',TZ hT (show AJ DK _ [Fk (Ad t ls ds),Fk (.int i)] S=_ from call2.trans e),s1⟩
 |false=>
  obtain⟨n1,n2⟩:=W9 (S:=S) h hX w
  exact⟨S,UQ hT (show AJ DK _ [Fk (Ad t ls ds),Fk X] S=_ from call2.trans n1) (show Gj Fy _ [Fk (Ad t ls ds),Fk X] S=_ from dP n2) Xx,.refl⟩
theorem iw(hT:S.any (Lu "_law_all_so")=true)(h:BO t ls ds)(hX:Pt X):∃S',laH [Fk (Ad t ls ds),Fk X,e2,e3] S=Fk (.str (C0 ds X),S')/\Cj [] S S':=by
 unfold C0
 cases w:GG ds X with
 |true=>
  obtain⟨i,l,n,ws,rfl,hs⟩:=Q3 w
  obtain⟨S',e,s1⟩:=R8 (S:=S) (X:=.non) (x:=.non) h hs λ_ _=>.plain .non
  exact⟨S',TZ hT (show AJ BD _ [Fk (Ad t ls ds),Fk (.int i)] S=_ from cc.trans e),s1⟩
 |false=>
  obtain⟨n1,n2⟩:=Ou (S:=S) (Z:=.non) h hX w
  exact⟨S,UQ hT (show AJ BD _ [Fk (Ad t ls ds),Fk X] S=_ from cc.trans n1) (show Gj CL _ [Fk (Ad t ls ds),Fk X] S=_ from dq n2) Xx,.refl⟩
end
section
variable{S:Sto}{t:Tr}{ls:Gc Ld}{ds:Gc Ab}{X:D}
theorem sU{v:D}:CG (.val (.lst [v])) (.val (.int 3))=Fk (.own [v,v,v]):=by
 have h:(3:Nat)<=sizeLine:=AN (by decide)
 simp[h]
theorem eq3{a b:Str}(ha:a="none" \/a="throw")(hb:b="none" \/b="throw"):EE (.lst [.str a,.str a,.str a]) (.lst [.str b,.str b,.str b])=true/\deq (.lst [.str a,.str a,.str a]) (.lst [.str b,.str b,.str b])=(a==b):=by
 rcases ha with rfl|rfl<;>rcases hb with rfl|rfl<;>exact⟨by decide+kernel,by decide+kernel⟩
theorem U4:C0 ds X="none" \/C0 ds X="throw":=by
 unfold C0
 split
 .exact .inl rfl
 .exact .inr rfl
theorem YI{v:Str}(hv:v="none" \/v="throw")(hT:S.any (Lu "_law_all_so")=true)(h:BO t ls ds)(hX:Pt X):∃S',Ge [Ad t ls ds,X,.str v] S=Fk (.bl (C0 ds X==v),S')/\Cj [] S S':=by
 have c1:=jF (e2:=Fk (.str v)) (e3:=uK) hT h hX
 have s0:Cj [] S (S++[Cl.lst [.str (C0 ds X)]]):=.app
 obtain⟨S2,c2,s2⟩:=jh (e2:=Fk (.str v)) (e3:=Fk (.ref S.length)) (tab_keep hT s0) h hX
 have q0:(S++[Cl.lst [.str (C0 ds X)]])[S.length]?=Fk (.lst [.str (C0 ds X)]):=uj
 have q2:=s2.get q0 (by simp)
 have t2:(S2.set S.length (.lst [.str (C0 ds X),.str (C0 ds X)])).any (Lu "_law_all_so")=true:=by
  obtain⟨n,e⟩:=QX (tab_keep (tab_keep hT s0) s2)
  refine tab_of (n:=n) ?_
  rw[uS (λz=>by rw[z]at q2;rw[q2]at e;cases e)]
  exact e
 obtain⟨S3,c3,s3⟩:=iw (e2:=Fk (.str v)) (e3:=Fk (.ref S.length)) t2 h hX
 have q3:S3[S.length]?=Fk (.lst [.str (C0 ds X),.str (C0 ds X)]):=s3.get (ua (Ae q2)) (by simp)
 have k0:=AY q0
 have k2:=AY q2
 have k3:=AY q3
 have kk3:Gb (S2.set S.length (.lst [.str (C0 ds X),.str (C0 ds X)])) S.length=Fk [.str (C0 ds X),.str (C0 ds X)]:=AY (ua (Ae q2))
 have q4:(S3.set S.length (.lst [.str (C0 ds X),.str (C0 ds X),.str (C0 ds X)]))[S.length]?=Fk (.lst [.str (C0 ds X),.str (C0 ds X),.str (C0 ds X)]):=ua (Ae q3)
 have d4:=BE q4
 have sz1:(1:Nat)<=sizeLine:=AN (by decide)
 have z1:(1:Nat)<sizeLine:=uO (show 1<2 by decide) (AN (by decide))
 have z2:(2:Nat)<sizeLine:=uO (show 2<3 by decide) (AN (by decide))
 obtain⟨ok1,ok2⟩:=eq3 (a:=C0 ds X) (b:=v) U4 hv
 refine⟨S3.set S.length (.lst [.str (C0 ds X),.str (C0 ds X),.str (C0 ds X)]),?_,?_⟩
 .have eb:NH=(Aa (BQ 3 (Kz [laC])) (Aa (Bl (Lc Le (eV 3) [laB])) (Aa (Bl (Lc Le (eV 3) [laH])) (BJ (eOp (o2 wEq) [eV 3,eOp (o2 CG) [Fe [eV 2],eI 3]]))))):=rfl
  unfold Ge
  rw[eb]
  generalize Ad t ls ds=bk at*
  generalize C0 ds X=W at*
  have m3:=sU (v:=.str v)
  simp[c1,sz1,c2,k0,k2,z1,c3,kk3,k3,z2,d4,m3,ok1,ok2]
 .have a1:Cj [S.length] (S++[Cl.lst [.str (C0 ds X)]]) (S3.set S.length (.lst [.str (C0 ds X),.str (C0 ds X),.str (C0 ds X)])):=
   (s2.mono (by simp)).trans (Cj.trans (.set (by simp)) ((s3.mono (by simp)).trans (.set (by simp))))
  exact Cj.new (A:=[]) (B:=[S.length]) .app a1 (by simp)
end
def Tp:Nat->D->Prop
 |0,_=>xB
 |_+1,.int _=>AAm
 |m+1,.tup ds=>ds.length<=1000/\∀d∈ds,Tp m d
 |_+1,_=>xB
theorem Tp.pl:∀{m:Nat} {d:D},Tp m d->Pl m d
 |_+1,.int _,_=>trivial
 |_+1,.tup _,h=>⟨h.1,λd hd=>Tp.pl (h.2 d hd)⟩
section
variable{S:Sto}
theorem Xz{n:Nat}:D8 (n+1)=Ar (A1 2 (G8 (D8 n))):=rfl
noncomputable def Vn:D->vL
 | .tup _=>true
 |_=>false
noncomputable def iF:D->vL
 | .bl _=>true
 |_=>false
theorem Ua{w:Wv}{x:D}(h:Th x)(a:As w x):K4 w (.val (.ty "tuple"))=Fk (.val (.bl (Vn x))):=by
 have k:=a.kd
 have:K4 w (.val (.ty "tuple"))=(kdW w).map λk=>.val (.bl (k.isA "tuple")):=rfl
 rw[this,k]
 cases h with
 |_=>simp[St.Kd.isA,Vn]
theorem Uo{w:Wv}{x:D}(h:Th x)(a:As w x):K4 w (.val (.ty "bool"))=Fk (.val (.bl (iF x))):=by
 have k:=a.kd
 have:K4 w (.val (.ty "bool"))=(kdW w).map λk=>.val (.bl (k.isA "bool")):=rfl
 rw[this,k]
 cases h with
 |_=>simp[St.Kd.isA,iF]
theorem dA{a b:vL}:U5 (.val (.bl a)) (.val (.bl b))=Fk (.val (.bl (a==b))):=by
 cases a<;>cases b<;>rfl
theorem dI{a b:Int}:U5 (.val (.int a)) (.val (.int b))=Fk (.val (.bl (a==b))):=rfl
theorem jm{m:Nat}{xs ts:Gc D}{wx wT:Wv}(hT:Tp (m+1) (.tup ts))(ax:As wx (.lst xs))(aT:As wT (.tup ts)):U5 wx wT=Fk (.val (.bl false)):=by
 unfold U5
 rw[ax.fz,aT.fz]
 cases ho:EE (.lst xs) (.tup ts)with
 |true=>rw[vM rfl];rfl
 |false=>
  rw[vP (by simp),ax.kd,aT.kd]
  rfl
theorem cW:∀{m:Nat} {T:D},Tp m T->∀{n:Nat} {X x:D},m<=n->Thg S X x->D8 n [X,T] S=Fk (.bl (FR x T),S)
 |0,T,h,_,_,_,_,_=>by cases T<;>exact h.elim
 |m+1,T,h,n,X,x,hn,g=>by
  obtain⟨n',rfl⟩:∃n',n=n'+1:=⟨n-1,by lia⟩
  have gT:Thg S T T:=Thg.plain (UJ h.pl)
  have i1:=Ua g.th g.as
  have i2:=Ua gT.th gT.as
  have b1:=Uo g.th g.as
  have b2:=Uo gT.th gT.as
  have dT:dr S T=.val T:=(UJ h.pl).dr
  rw[dT]at i2 b2
  have nb:iF T=false:=by
   cases T with
   |bl b=>exact h.elim
   |_=>rfl
  rw[Xz]
  by_cases hq:Vn x=true/\Vn T=true
  .obtain⟨xs,rfl⟩:∃xs,x=.tup xs:=by
    cases x with
    |tup xs=>exact⟨xs,rfl⟩
    |_=>exact absurd hq.1 (by simp[Vn])
   obtain⟨ts,rfl⟩:∃ts,T=.tup ts:=by
    cases T with
    |tup xs=>exact⟨xs,rfl⟩
    |_=>exact absurd hq.2 (by simp[Vn])
   obtain⟨gs,e1,e2⟩:=g.sq xs (.inl rfl)
   obtain⟨e3,e4⟩:=g.as.len (.inl rfl)
   obtain⟨gs',e1',e2'⟩:=gT.sq ts (.inl rfl)
   obtain rfl:gs'=[]:=by
    have z:Fk (ts,([]:Gd))=Fk (ts,gs'):=e1'
    cases z;rfl
   obtain⟨e5,e6⟩:=gT.as.len (.inl rfl)
   rw[dT]at e5
   have hx:∀d∈xs,Th d:=by have:=g.th;cases this;assumption
   have lx:xs.length<=1000:=by have:=g.th;cases this;assumption
   have sd:FR (.tup xs) (.tup ts)=Jn xs ts:=rfl
   by_cases hlen:xs.length=ts.length
   .have c:=Ea (gs:=gs) (t:=tTp [tNm 0,tNm 1]) (f:=AJ (D8 n') [eV 0,eV 1]) (C:=[]) (m:=2) (e:=λz:D×D=>D.tup [z.1,z.2]) (g:=λz=>D.bl (FR z.1 z.2)) (S:=S) e2 (xs:=xs.zip ts) (acc:=[]) (os:=[uK,uK]) rfl (AN (by simp;lia)) (by
     rintro ⟨a,b⟩ hz os ho
     obtain⟨o1,o2,rfl⟩:=iE ho
     have ha:=(wF hz).1
     have hb:=(wF hz).2
     have hs:=cW (h.2 b hb) (n:=n') (by lia) (Thg.plain (hx a ha))
     refine⟨[Fk a,Fk b],rfl,by simp,?_⟩
     simp[hs])
    simp only[vH,wU]at c
    have bb:=YC (p:=λz:D×D=>FR z.1 z.2) (xs:=xs.zip ts)
    rw[<-SR hlen]at bb
    have zd:Nb xs ts=(xs.zip ts).map λz=>D.tup [z.1,z.2]:=rfl
    rw[sd]
    have ek:=dI (a:=(ts.length:Int)) (b:=ts.length)
    generalize (xs.zip ts).map (λz=>D.bl (FR z.1 z.2))=BB at*
    simp[-Kt,G8,i1,i2,hq.1,hq.2,e3,e5,hlen,ek,e1,e1',zd,c,bb]
   .have hl:¬(xs.length:Int)=ts.length:=by lia
    have hb:((xs.length:Int)==ts.length)=false:=by simpa using hl
    have ek:=dI (a:=(xs.length:Int)) (b:=ts.length)
    rw[hb]at ek
    rw[sd,VE hlen]
    simp[-Kt,G8,i1,i2,hq.1,hq.2,e3,e5,ek]
  .have hq':(Vn x && Vn T)=false:=by
    cases h1:Vn x<;>cases h2:Vn T<;>simp_all
   have test:∀{y:Ex},xIf (Hu (eOp (o2 K4) [eV 0,eC (.ty "tuple")]) (eOp (o2 K4) [eV 1,eC (.ty "tuple")])) y D5 [Fk X,Fk T] S=Fk (.nx,[Fk X,Fk T],S):=λ{y}=>by
    cases h1:Vn x with
    |false=>rw[h1]at i1;simp[-Kt,i1]
    |true=>
     have h2:Vn T=false:=by rw[h1]at hq';simpa using hq'
     rw[h1]at i1
     rw[h2]at i2
     simp[-Kt,dT,i1,i2]
   cases hb:iF x with
   |true=>
    have sd:FR x T=false:=by
     cases x with
     |bl b=>cases T<;>rfl
     |_=>simp[iF]at hb
    rw[hb]at b1
    rw[nb]at b2
    have ek:=dA (a:=true) (b:=false)
    rw[sd]
    simp[-Kt,-Qp,G8,test,dT,b1,b2,ek]
   |false=>
    rw[hb]at b1
    rw[nb]at b2
    have ek:=dA (a:=false) (b:=false)
    have eqk:U5 (dr S X) (.val T)=Fk (.val (.bl (FR x T))):=by
     rw[<-dT]
     by_cases hl:(∃xs,x=.lst xs)/\Vn T=true
     .obtain⟨⟨xs,rfl⟩,h2⟩:=hl
      cases T with
      |tup ts=>exact jm h g.as gT.as
      |_=>cases h2
     .refine ir g.th h.pl g.as gT.as (λb z=>by rw[z]at hb;simp[iF]at hb) ?_
      rintro xs ts ⟨z1,z2⟩
      rcases z2 with z2|z2
      .rcases z1 with z1|z1
       .exact hq ⟨by rw[z1];rfl,by rw[z2];rfl⟩
       .exact hl ⟨⟨xs,z1⟩,by rw[z2];rfl⟩
      .rw[z2]at h;exact h.elim
    simp[-Kt,-Qp,G8,test,dT,b1,b2,ek,eqk]
end
section
variable{S:Sto}{t:Tr}{ls:Gc Ld}{ds:Gc Ab}{st:Stt}{p s l m k q:Nat}{as:Gc Nat}
theorem ZY{n0:Nat}{c0:Cl}(h0:S[n0]?=Fk c0)(hn0:n0∉s::l::m::as)(h:BO t ls ds)(hp:CD p S)(hS:SAt S s l m as (st0 t ls))(hps:p∉s::l::m::as){a1 a3 a4 o6 o7 o8 o9 o10:uL D}:∃u6 as' S',Nc [] (tNm 6) (Bl (AJ BI [eV 2,eV 5,eV 6])) (ds.map Ab.d) [Fk (.ref p),a1,Fk t.d,a3,a4,Fk (.ref s),o6,o7,o8,o9,o10] S=Fk (.nx,[Fk (.ref p),a1,Fk t.d,a3,a4,Fk (.ref s),u6,o7,o8,o9,o10],S')/\CD p S'/\SAt S' s l m as' (runs t (st0 t ls) ds)/\p∉s::l::m::as'/\S'[n0]?=Fk c0/\n0∉s::l::m::as':=by
 obtain⟨E',S',ef,i,as',u6,f1,f2,rfl,f3,f4,f5,f6,f7⟩:=EJ (gs:=[]) (t:=tNm 6) (b:=Bl (AJ BI [eV 2,eV 5,eV 6]))
  (I:=λrs E S'=>∃(i:Nat) (as':Gc Nat) (u6:uL D),rs=(ds.drop i).map Ab.d/\i<=ds.length/\E=[Fk (.ref p),a1,Fk t.d,a3,a4,Fk (.ref s),u6,o7,o8,o9,o10]/\CD p S'/\SAt S' s l m as' (runs t (st0 t ls) (ds.take i))/\p∉s::l::m::as'/\S'[n0]?=Fk c0/\n0∉s::l::m::as')
  (λ_ _ _ _=>Aw) (ds:=ds.map Ab.d) (E:=[Fk (.ref p),a1,Fk t.d,a3,a4,Fk (.ref s),o6,o7,o8,o9,o10]) (S:=S)
  ⟨0,as,o6,by simp,we _,rfl,hp,hS,hps,h0,hn0⟩ (by
    rintro dd rs E T ⟨i,as',u6,i1,i2,rfl,i3,i4,i5,i6,i7⟩
    have hlt:i<ds.length:=by
     rcases xY i ds.length with w|w
     .exact w
     .rw[vf w]at i1;cases i1
    rw[vG hlt,uv]at i1
    injection i1 with z1 z2
    subst z1 z2
    have hd:ds[i]?=Fk ds[i]:=tz hlt
    have il:(ds.take i).length<=16:=by have:=h.len;simp;omega
    obtain⟨T2,as2,k1,k2,k3,k4⟩:=aF i4 h.tr (h.at i) il (GC h.good hd)
    rw[<-Kh hd]at k2
    have lp:=i3.lt
    exact⟨[Fk (.ref p),a1,Fk t.d,a3,a4,Fk (.ref s),Fk ds[i].d,o7,o8,o9,o10],[Fk (.ref p),a1,Fk t.d,a3,a4,Fk (.ref s),Fk ds[i].d,o7,o8,o9,o10],T2,by simp,by simp[k1],i+1,as2,Fk ds[i].d,rfl,hlt,rfl,i3.keep k3 i5,k2,L3 i5 lp k4,k3.get i6 i7,L3 i7 (Ae i6) k4⟩)
 have hz:i=ds.length:=by
  have:=congrArg xp f1
  simp at this
  omega
 subst hz
 rw[List.take_length]at f4
 exact⟨u6,as',S',ef,f3,f4,f5,f6,f7⟩
theorem XM{n0:Nat}{c0:Cl}(h:CD p S)(h0:S[n0]?=Fk c0)(hne:n0≠p):∃t ls ds S',Gf [.ref p,.int 8] S=Fk (Ad t ls ds,S')/\BO t ls ds/\ds.length<=11/\CD p S'/\S'[n0]?=Fk c0:=by
 obtain⟨t,ls,ds,S1,e1,⟨hb,hl⟩,⟨ho,hh⟩,p1,kp1⟩:=bP (M:=8) (by decide) h
 rw[show((8:Nat):Int)=8 from rfl]at e1
 obtain⟨s,l,m,as,S2,e2,hS,sm,hn⟩:=RI (S:=S1) (t:=t) (ls:=ls) (x:=.tup (ds.map Ab.d)) (by have:=hb.inv.len;simp[st0]at this;omega)
 have p2:CD p S2:=p1.keep sm (by simp)
 have lp1:=p1.lt
 have hps:p∉s::l::m::as:=λz=>by have:=hn p z;omega
 have h1:=kp1 n0 c0 h0 hne
 have h2:=sm.get h1 (by simp)
 have hn2:n0∉s::l::m::as:=λz=>by have:=hn n0 z;have:=Ae h1;lia
 obtain⟨u6,as3,S3,e3,p3,hS3,hps3,h3,hn3⟩:=ZY h2 hn2 hb p2 hS hps (a1:=Fk (.int 8)) (a3:=Fk (.tup (ls.map Ld.d))) (a4:=Fk (.tup (ds.map Ab.d))) (o6:=uK) (o7:=uK) (o8:=uK) (o9:=uK) (o10:=uK)
 have hq:(S3++[Cl.lst (ds.map Ab.d)])[S3.length]?=Fk (.lst (ds.map Ab.d)):=uj
 have lt3:=hS3.lts
 have qn:S3.length∉s::l::m::as3:=λz=>by have:=lt3 _ z;omega
 have lp3:=p3.lt
 have tc:=qP hq (by omega)
 have hS4:SAt (S3++[Cl.lst (ds.map Ab.d)]) s l m as3 (runs t (st0 t ls) ds):=hS3.Tu .app
 have p4:CD p (S3++[Cl.lst (ds.map Ab.d)]):=p3.app _
 generalize hQ:S3.length=q at*
 have hqp:q≠p:=by omega
 have lq:n0<q:=by have:=Ae h3;omega
 obtain⟨c,hc,hc2⟩:∃c:Int,(3:Int)-((ds.filter Gs).map Ab.d).length=c/\c<=3:=⟨_,rfl,by omega⟩
 have hc3: -1000<=c:=by
  have:(ds.filter Gs).length<=ds.length:=xP _ _
  simp at hc
  omega
 obtain⟨E',S',ef,ds',as',v6,v7,v8,v9,v10,rfl,f1,f2,f3,f4,f5,f6,f7,f8,f9⟩:=EJ (gs:=[]) (t:=tNm 7) (b:=aC)
  (I:=λrs E S'=>∃(ds':Gc Ab) (as':Gc Nat) (v6 v7 v8 v9 v10:uL D),E=[Fk (.ref p),Fk (.int 8),Fk t.d,Fk (.tup (ls.map Ld.d)),Fk (.ref q),Fk (.ref s),v6,v7,v8,v9,v10]/\S'[q]?=Fk (.lst (ds'.map Ab.d))/\CD p S'/\SAt S' s l m as' (runs t (st0 t ls) ds')/\BO t ls ds'/\ds'.length+rs.length<=11/\p∉s::l::m::as'/\q∉s::l::m::as'/\S'[n0]?=Fk c0/\n0∉s::l::m::as')
  (λ_ _ _ _=>Aw) (ds:=KH 0 c.toNat) (E:=[Fk (.ref p),Fk (.int 8),Fk t.d,Fk (.tup (ls.map Ld.d)),Fk (.ref q),Fk (.ref s),u6,uK,uK,uK,uK]) (S:=S3++[Cl.lst (ds.map Ab.d)])
  ⟨ds,as3,u6,uK,uK,uK,uK,rfl,hq,p4,hS4,hb,by rw[D7];omega,hps3,qn,Cj.get (A:=[]) .app h3 (by simp),hn3⟩ (by
    rintro dd rs E T ⟨ds',as',v6,v7,v8,v9,v10,rfl,i1,i2,i3,i4,i5,i6,i7,i8,i9⟩
    simp only[vR]at i5
    obtain⟨d,w8,w9,w10,T1,e5,g5,can⟩:=fB i2 i3 i6 i4.tr i4.fin (by omega) (a1:=Fk (.int 8)) (a3:=Fk (.tup (ls.map Ld.d))) (a4:=Fk (.ref q)) (o6:=v6) (o7:=Fk dd) (o8:=v8) (o9:=v9) (o10:=v10)
    have j3:=i3.same g5.same (by simpa using i6)
    have j1:T1[q]?=Fk (.lst (ds'.map Ab.d)):=g5.get i1 hqp
    obtain⟨T2,as2,k1,k2,k3,k4⟩:=aF j3 i4.tr i4.fin (by omega) can
    have q2:=k3.get j1 i7
    have cq:=AY q2
    have hz:(ds'.map Ab.d).length<sizeLine:=uO (show _<50 by simp;omega) (AN (by decide))
    have lt1:=Ae j1
    have lp:=g5.pen.lt
    have qn2:=L3 i7 lt1 k4
    have pn2:=L3 i6 lp k4
    rw[<-OY]at k2
    refine⟨_,[Fk (.ref p),Fk (.int 8),Fk t.d,Fk (.tup (ls.map Ld.d)),Fk (.ref q),Fk (.ref s),Fk d.d,Fk dd,w8,w9,w10],T2.set q (.lst ((ds'++[d]).map Ab.d)),by simp;rfl,?_,ds'++[d],as2,_,_,_,_,_,rfl,ua (Ae q2),?_,k2.same (A:=[q]) (.set (by simp)) (by simpa using qn2),i4.snoc (by omega) can,by simp;omega,pn2,qn2,?_,L3 i9 (Ae (g5.get i8 hne)) k4⟩
    .rw[Z9]
     generalize hD:ds'.map Ab.d=DD at*
     simp[e5,k1,cq,hz,hD]
    .exact(g5.pen.keep k3 i6).keep (A:=[q]) (.set (by simp)) (by simp;omega)
    .rw[uS (by lia)];exact k3.get (g5.get i8 hne) i9)
 refine⟨t,ls,ds',S',?_,f4,?_,f2,f8⟩
 rotate_left
 .simpa using f5
 have df:=BE f1
 have rk:Jq c=true:=DZ (by omega) (by omega)
 have eb:NN=(Aa (Qa (tTp [tNm 2,tNm 3,tNm 4]) (AJ HA [eV 0,eV 1]))
  (Aa (BQ 5 (AJ Dq [Cm [eV 2,eV 3,eV 4]]))
  (Aa (Lj (Js (eV 4)) (tNm 6) (Bl (AJ BI [eV 2,eV 5,eV 6])))
  (Aa (BQ 4 (g9 (o1 Lm) [eV 4]))
  (Aa (Lj (PJ [eOp (o2 OQ) [eC (.int 3),eOp (o1 Jo) [C9 [] 1 (Js (eV 4)) (tNm 0) (eOp (o2 wEq) [eOp (o2 wIx) [eV 0,eC (.int 0)],eC (.str "throw")]) (eV 0)]]]) (tNm 7) aC)
  (BJ (Cm [eV 2,eV 3,eOp (o1 CS) [eV 4]]))))))):=rfl
 have sq:=HW hq
 unfold Gf
 rw[eb]
 simp only[Ad]at e1⊢
 generalize (ds.filter Gs).map Ab.d=TD at*
 generalize ds.map Ab.d=DD at*
 generalize ds'.map Ab.d=DD2 at*
 simp[e1,e2,e3,hQ,sq,PZ,tc,hc,rk,ef,df]
end
section
variable{S:Sto}{p:Nat}
theorem Vj{n:Nat}:Al (n+1)=Ar (A1 4 (Hl (Al n))):=rfl
noncomputable def consts:Gc D:=[.non,.bl true,.bl false,.int 0,.int 1,.int (-1),.int 9,.int (10^39),.str "",.str "a",.tup [],.lst []]
theorem XI:∀x∈consts,Th x:=by
 intro x hx
 simp only[consts,uQ,ug,vd]at hx
 rcases hx with rfl|rfl|rfl|rfl|rfl|rfl|rfl|rfl|rfl|rfl|rfl|rfl
 .exact .non
 .exact .bl _
 .exact .bl _
 .exact .int _
 .exact .int _
 .exact .int _
 .exact .int _
 .exact .int _
 .exact .str _ (by decide+kernel)
 .exact .str _ (by decide+kernel)
 .exact .tup (λd hd=>by cases hd) (by decide)
 .exact .lst (λd hd=>by cases hd) (by decide)
def YO:Ev:=(Fe [eC .non,eC (.bl true),eC (.bl false),eC (.int 0),eC (.int 1),eOp (o1 Nm) [eC (.int 1)],eC (.int 9),eOp (o2 XN) [eC (.int 10),eC (.int 39)],eC (.str ""),eC (.str "a"),Cm [],Fe []])
theorem Xh{E:En}:YO E S=Fk (.lst consts,S):=by
 have n1:Nm (.val (.int 1))=Fk (.val (.int (-1))):=rfl
 have p1:XN (.val (.int 10)) (.val (.int 39))=Fk (.val (.int (10^39))):=by with_unfolding_all rfl
 have sz:(12:Nat)<=sizeLine:=AN (by decide)
 simp[YO,n1,p1,consts,sz]
theorem Qf:∀{n d:Nat},d<n->∀{S:Sto},CD p S->∃X S',Al n [.ref p,.int d] S=Fk (X,S')/\Th X/\Pn p S S'
 |0,d,h,_,_=>absurd h (by omega)
 |n+1,d,h,S,hp=>by
  obtain⟨way,S1,e1,w0,w1,p1⟩:=Aj hp (n:=12) (by decide) (by decide)
  rw[Vj]
  have eb:Hl (Al n)=(Aa (BQ 2 (AJ AI [eV 0,eC (.int 12)]))
  (Aa (xIf (eOr (eOp (o2 wLt) [eV 2,eC (.int 8)]) (eOp (o2 wEq) [eV 1,eC (.int 0)])) (BJ (eOp (o2 wIx) [YO,AJ AI [eV 0,eC (.int 12)]])) D5)
  (Aa (BQ 3 (C9 [0,1] 1 (PJ [AJ AI [eV 0,eC (.int 4)]]) (tNm 2) Cr (AJ (Al n) [eV 0,eOp (o2 OQ) [eV 1,eC (.int 1)]])))
  (Aa (xIf (eOp (o2 wEq) [eV 2,eC (.int 8)]) (BJ (eV 3)) D5)
  (Aa (xIf (eOp (o2 wEq) [eV 2,eC (.int 9)]) (BJ (fG [((eC (.str "a")),(eV 3))])) D5)
  (BJ (eOp (o1 CS) [eV 3]))))))):=rfl
  rw[eb]
  by_cases c:way<8\/d=0
  .obtain⟨r,S2,e2,r0,r1,p2⟩:=Aj p1.pen (n:=12) (by decide) (by decide)
   obtain⟨x,ax,hx⟩:=pick (xs:=consts) r0 (by simpa[consts]using r1)
   refine⟨x,S2,?_,XI x hx,p1.trans p2⟩
   have k:=λE=>Xh (S:=S1) (E:=E)
   rcases Decidable.em (way<8)with c1|c1
   .simp[e1,c1,k,e2,ax]
   .have c2:d=0:=c.resolve_left c1
    subst c2
    simp[e1,c1,k,e2,ax]
  .have c1:¬way<8:=λz=>c (.inl z)
   have c2:¬d=0:=λz=>c (.inr z)
   obtain⟨r,S2,e2,r0,r1,p2⟩:=Aj p1.pen (n:=4) (by decide) (by decide)
   obtain⟨k,rfl⟩:=HN r0
   have rk:Jq (k:Int)=true:=DZ (by omega) (by omega)
   obtain⟨ys,S3,e3,i3,l3,r3⟩:=MC (gs:=[]) (t:=tNm 2) (f:=AJ (Al n) [eV 0,eOp (o2 OQ) [eV 1,eC (.int 1)]]) (C:=[Fk (.ref p),Fk (.int d)]) (m:=1) (I:=λT=>Pn p S2 T) (R:=λ_ y=>Th y) (λ_ _=>Aw) (ds:=KH 0 k) (acc:=[]) (os:=[uK]) (S:=S2) rfl (.refl p2.pen) (AN (by simp[D7];omega)) (by
    intro dd hd os T ho hI
    match os,ho with
    | [a],_=>
    obtain⟨X,T',ex,hX,hP⟩:=Qf (n:=n) (d:=d-1) (by omega) hI.pen
    refine⟨[Fk dd],X,T',rfl,by simp,?_,hI.trans hP,hX⟩
    have ec:(d:Int)-1=((d-1:Nat):Int):=by omega
    simp[ec,ex])
   have th:=Kq r3
   have ly:ys.length<=1000:=by rw[l3,D7];omega
   have pn:=(p1.trans p2).trans i3
   simp only[vH,vS]at e3
   have c2':((d:Int)==0)=false:=by simpa using c2
   have tn:(k:Int).toNat=k:=by omega
   by_cases w8:way=8
   .subst w8
    refine⟨.lst ys,S3,?_,.lst th ly,pn⟩
    simp[e1,c2',e2,rk,PZ,e3,tn]
   .have w8':(way==8)=false:=by simpa using w8
    by_cases w9:way=9
    .subst w9
     refine⟨.dct (PD [] [(.inr "a",.lst ys)]),S3,?_,.dct _,pn⟩
     simp[e1,c2',e2,rk,PZ,e3,tn]
    .have w9':(way==9)=false:=by simpa using w9
     refine⟨.tup ys,S3,?_,.tup th ly,pn⟩
     simp[e1,c1,c2',e2,rk,PZ,e3,tn,w8',w9']
end
section
variable{S:Sto}{p:Nat}
theorem G3{L:Gc D}{lo hi:uL Int}{x:D}(h:x∈IZ L lo hi):x∈L:=List.mem_of_mem_drop (List.mem_of_mem_take h)
theorem FV{L:Gc D}{lo hi:uL Int}:(IZ L lo hi).length<=L.length:=by
 unfold IZ
 simp[yy,AAE]
 lia
theorem Ui{xs:Gc D}{x:D}(h:x∈Uk xs):x∈xs:=by
 unfold Uk at h
 obtain⟨k,_,hk⟩:=zT.mp h
 exact uh hk
theorem VJ{xs:Gc D}:(Uk xs).length<=xs.length:=by
 unfold Uk
 refine uW (yS _ _) ?_
 rw[yl]
 exact uV _
@[simp] theorem j5{xs:List D}:iB (.val (.tup xs))=some (.val (.tup (Uk xs))):=nr rfl
theorem ff{r:Rat}:Th (aD r):=.tup (λd hd=>by
 simp only[uQ,ug,vd]at hd
 rcases hd with rfl|rfl<;>exact .int _) (by simp)
noncomputable def jX(a b:Rat):Gc D:=[.tup [aD a,.tup [.int (b.num+1),.int b.den]],.tup [.tup [.int (2*a.num),.int (2*(a.den:Int))],aD b],.tup [aD b,aD a],.tup [aD a],.lst [aD a,aD b],.tup [aD a,.lst [.int b.num,.int b.den]],.tup [aD a,aD b,aD b]]
theorem kM{a b:Rat}:∀x∈jX a b,Th x:=by
 have A:=ff (r:=a)
 have B:=ff (r:=b)
 have two:∀{x y:D},Th x->Th y->∀d∈ [x,y],Th d:=λhx hy d hd=>by
  simp only[uQ,ug,vd]at hd
  rcases hd with rfl|rfl
  .exact hx
  .exact hy
 intro x hx
 simp only[jX,uQ,ug,vd]at hx
 rcases hx with rfl|rfl|rfl|rfl|rfl|rfl|rfl
 .exact .tup (two A (.tup (two (.int _) (.int _)) (by simp))) (by simp)
 .exact .tup (two (.tup (two (.int _) (.int _)) (by simp)) B) (by simp)
 .exact .tup (two B A) (by simp)
 .exact .tup (λd hd=>by rw[uy.mp hd];exact A) (by simp)
 .exact .lst (two A B) (by simp)
 .exact .tup (two A (.lst (two (.int _) (.int _)) (by simp))) (by simp)
 .exact .tup (λd hd=>by
   rcases uQ.mp hd with rfl|hd
   .exact A
   .exact two B B d hd) (by simp)
theorem Ra{L:Gc D}(hL:∀d∈L,∃a b:Rat,d=.tup [aD a,aD b])(h1:1<=L.length)(h4:L.length<=4)(hp:CD p S):∃X S',B2 [.ref p,.tup L] S=Fk (X,S')/\Th X/\Pn p S S':=by
 have tL:∀d∈L,Th d:=λd hd=>by
  obtain⟨a,b,rfl⟩:=hL d hd
  exact .tup (λd hd=>by
   simp only[uQ,ug,vd]at hd
   rcases hd with rfl|rfl<;>exact ff) (by simp)
 obtain⟨r1,S1,e1,a1,b1,p1⟩:=Aj hp (n:=(L.length:Int)) (by lia) (by lia)
 obtain⟨r2,S2,e2,a2,b2,p2⟩:=Aj p1.pen (n:=8) (by decide) (by decide)
 obtain⟨y,ey,hy⟩:=pick (xs:=L) (r:=r1) a1 b1
 obtain⟨a,b,rfl⟩:=hL y hy
 have m1:Dc 2 a.num=true:=mulL (by decide) (by decide)
 have m2:Dc 2 (a.den:Int)=true:=mulL (by decide) (by decide)
 have s1:(1:Nat)<=sizeLine:=AN (by decide)
 have s2:(2:Nat)<=sizeLine:=AN (by decide)
 have s3:(3:Nat)<=sizeLine:=AN (by decide)
 have s4:(4:Nat)<=sizeLine:=AN (by decide)
 have s5:(5:Nat)<=sizeLine:=AN (by decide)
 have s7:(7:Nat)<=sizeLine:=AN (by decide)
 have c1:=FV (L:=L) (lo:=uK) (hi:=Fk r1)
 have c2:=FV (L:=L) (lo:=Fk (r1+1)) (hi:=uK)
 have c3:=FV (L:=L) (lo:=uK) (hi:=Fk 1)
 have z1:(IZ L uK (Fk r1)).length+(IZ L (Fk (r1+1)) uK).length<=sizeLine:=AN (by lia)
 have z2:L.length+(IZ L uK (Fk 1)).length<=sizeLine:=AN (by lia)
 have z3:(IZ L uK (Fk r1)).length+1<=sizeLine:=AN (by lia)
 have z4:(IZ L uK (Fk r1)).length+1+(IZ L (Fk (r1+1)) uK).length<=sizeLine:=AN (by lia)
 have z5:L.length<=sizeLine:=AN (by lia)
 by_cases h7:r2=7
 .subst h7
  obtain⟨r3,S3,e3,a3,b3,p3⟩:=Aj p2.pen (n:=4) (by decide) (by decide)
  obtain⟨X,eX,hX⟩:=pick (xs:=[D.tup (IZ L uK (Fk r1)++IZ L (Fk (r1+1)) uK),.tup (L++IZ L uK (Fk 1)),.lst L,.tup (Uk L)]) (r:=r3) a3 b3
  refine⟨X,S3,?_,?_,(p1.trans p2).trans p3⟩
  .simp only[aD]at ey
   simp[B2,Hk,e1,e2,ey,m1,m2,s1,s2,s3,s4,s5,s7,z1,z2,z5,e3,eX]
  .simp only[uQ,ug,vd]at hX
   rcases hX with rfl|rfl|rfl|rfl
   .exact .tup (λd hd=>(uk.mp hd).elim (λz=>tL d (G3 z)) λz=>tL d (G3 z)) (by simp;lia)
   .exact .tup (λd hd=>(uk.mp hd).elim (tL d) λz=>tL d (G3 z)) (by simp;lia)
   .exact .lst tL (by lia)
   .exact .tup (λd hd=>tL d (Ui hd)) (by have:=VJ (xs:=L);lia)
 .have h7':(r2==7)=false:=by simpa using h7
  obtain⟨X,eX,hX⟩:=pick (xs:=jX a b) (r:=r2) a2 (by simp[jX];lia)
  have tX:=kM X hX
  refine⟨.tup (IZ L uK (Fk r1)++[X]++IZ L (Fk (r1+1)) uK),S2,?_,?_,p1.trans p2⟩
  .simp only[aD,jX]at ey eX
   simp[B2,Hk,e1,e2,ey,m1,m2,s1,s2,s3,s4,s5,s7,z1,z3,z4,h7',eX]
  .exact .tup (λd hd=>by
    rcases uk.mp hd with hd|hd
    .rcases uk.mp hd with hd|hd
     .exact tL d (G3 hd)
     .rw[uy.mp hd];exact tX
    .exact tL d (G3 hd)) (by simp;lia)
end
section
variable{S:Sto}{p:Nat}
theorem fZ(c:Char):c.toNat<1114112:=by
 have h:c.toNat.isValidChar:=c.valid
 rcases h with h|h
 .exact Nat.lt_trans h (by decide)
 .exact h.2
theorem aq{x:xI}:vt (vw x)=true:=by
 unfold vt vw
 simp
 intro c hc
 rw[cpsOfBytes_string]at hc
 obtain⟨ch,_,rfl⟩:=ux.mp hc
 exact fZ ch
inductive Sj:Nat->D->Prop
 |int {n:Nat} {i:Int} (h:i.natAbs.log2<1920):Sj n (.int i)
 |tup {n:Nat} {ds:Gc D} (h:∀d∈ds,Sj n d) (l:ds.length<=100):Sj (n+1) (.tup ds)
theorem Sj.th:∀{n:Nat} {d:D},Sj n d->Th d
 |_,_,.int h=>.int _
 |_,_,.tup h l=>.tup (λd hd=>Sj.th (h d hd)) (by lia)
theorem Sj.lay:∀{n:Nat} {d:D},Sj n d->d.lay=true
 |_,_,.int h=>rfl
 |_,_,.tup (ds:=ds) h l=>by
  show D.QP ds=true
  have:=Lg (f:=id) (xs:=ds) λd hd=>Sj.lay (h d hd)
  simpa using this
@[simp] theorem lB{i:Int}:kQ (.val (.int i))=if i.natAbs.log2<1920 then some (.val (.str (toString i)))else none:=nr rfl
@[simp] theorem lF{z:Str}:wUp (.val (.str z))=if(Txt.upper z).length<=sizeLine then some (.val (.str (Txt.upper z)))else none:=nr rfl
theorem fK{xs ys:Gc D}(hx:∀d∈xs,Th d)(hy:∀d∈ys,Th d)(l:xs.length+ys.length<=1000):Th (.tup (xs++ys)):=.tup (λd hd=>(uk.mp hd).elim (hx d) (hy d)) (by simpa using l)
theorem Xn{ds:Gc D}(h:D.QP ds=true):EE (.tup ds) (.tup [])=true:=by
 unfold EE
 show(D.QP ds && true && decide (min (D.tup ds).py.depth (D.tup []).py.depth<=60))=true
 rw[h]
 have:(D.tup []).py.depth<=60:=by decide
 rw[w6 (by omega)]
 rfl
theorem bx{ds:Gc D}:deq (.tup ds) (.tup [])=ds.isEmpty:=by
 cases ds<;>rfl
theorem rB{r:Int}(h0:0<=r)(h1:r<4):r=0\/r=1\/r=2\/r=3:=by omega
theorem aP{n:Nat}:Cc (n+1)=Ar (A1 4 (Hy (Cc n))):=rfl
def spT:Ex:=(Aa (BQ 3 (AJ AI [eV 0,eC (.int 8)]))
    (Aa (xIf (Hu (eOp (o2 K4) [eV 1,eC (.ty "tuple")]) (eOp (o2 wLt) [eV 3,eC (.int 4)])) (BJ (eOp (o2 wIx) [Fe [eOp (o2 CK) [eV 1,eOp (Kn true false) [eV 1,eOp (o1 Nm) [eC (.int 1)]]],eOp (Kn false true) [eV 1,eOp (o1 Nm) [eC (.int 1)]],eOp (o1 Lm) [eV 1],eOp (o1 iB) [eV 1]],eV 3])) D5)
    (Aa (xIf (Hu (eOp (o2 K4) [eV 1,eC (.ty "int")]) (eOp (o2 wLt) [eV 3,eC (.int 4)])) (BJ (eOp (o2 wIx) [Fe [eOp (o2 CK) [eV 1,eC (.int 1)],eOp (o2 OQ) [eV 1,eC (.int 1)],eOp (o2 wGt) [eV 1,eC (.int 0)],eOp (o1 kQ) [eV 1]],eV 3])) D5)
    (Aa (xIf (Hu (eOp (o2 K4) [eV 1,eC (.ty "str")]) (eOp (o2 wLt) [eV 3,eC (.int 4)])) (BJ (eOp (o2 wIx) [Fe [eOp (o2 CK) [eV 1,eC (.str "a")],eOp (o1 wUp) [eV 1],eOp (Kn false true) [eV 1,eOp (o1 Nm) [eC (.int 1)]],eOp (o2 CK) [eC (.str "1"),eV 1]],eV 3])) D5)
    (BJ (AJ (Al 8) [eV 0,eC (.int 2)]))))))
theorem Rt{rec:Fn}:Hy rec=(Aa (xIf (Hu (eOp (o2 K4) [eV 1,eC (.ty "tuple")]) (Hu (eOp (o2 wNe) [eV 1,Cm []]) (eOp (o2 wGt) [AJ AI [eV 0,eC (.int 6)],eC (.int 0)]))) (Aa (BQ 2 (AJ AI [eV 0,eOp (o1 Jo) [eV 1]])) (BJ (eOp (o2 CK) [eOp (o2 CK) [eOp (Kn false true) [eV 1,eV 2],Cm [AJ rec [eV 0,eOp (o2 wIx) [eV 1,eV 2]]]],eOp (Kn true false) [eV 1,eOp (o2 CK) [eV 2,eC (.int 1)]]]))) D5) spT):=rfl
theorem NM:∀(N k:Nat) {d:D} {S:Sto},k<N->Sj k d->CD p S->∃X S',Cc N [.ref p,d] S=Fk (X,S')/\Th X/\Pn p S S'
 |0,k,d,S,h,_,_=>absurd h (AAk _)
 |N+1,k,d,S,hk,sd,h=>by
  have rest:∀{T:Sto},CD p T->∃X T',Al 8 [.ref p,.int 2] T=Fk (X,T')/\Th X/\Pn p T T':=λhq=>Qf (n:=8) (d:=2) (by decide) hq
  have hl:=sd.lay
  have s4:(4:Nat)<=sizeLine:=AN (by decide)
  have n1:Nm (.val (.int 1))=Fk (.val (.int (-1))):=rfl
  rw[aP]
  cases sd with
  | @int _ i hi=>
    obtain⟨r1,S1,e1,a1,b1,p1⟩:=Aj h (n:=8) (by decide) (by decide)
    by_cases c:r1<4
    .have lg:=hi
     have q:(atI [D.int (i+1),.int (i-1),.bl (decide (0<i)),.str (toString i)] r1).map (λx=>(x,S1))=Ar (A1 4 (Hy (Cc N))) [.ref p,.int i] S:=by
      simp[Rt,spT,St.Kd.isA,e1,c,lg,s4]
      generalize atI _ r1=o
      cases o<;>rfl
     rcases rB a1 c with rfl|rfl|rfl|rfl
     .exact⟨.int (i+1),S1,q.symm,.int _,p1⟩
     .exact⟨.int (i-1),S1,q.symm,.int _,p1⟩
     .exact⟨.bl (decide (0<i)),S1,q.symm,.bl _,p1⟩
     .exact⟨.str (toString i),S1,q.symm,.str _ aq,p1⟩
    .obtain⟨w,q',ew,tw,pw⟩:=rest p1.pen
     exact⟨w,q',by simp[Rt,spT,St.Kd.isA,e1,c,ew],tw,p1.trans pw⟩
  | @tup k' xs hx lx=>
    have tx:∀d∈xs,Th d:=λd hd=>(hx d hd).th
    have ways:∀{T:Sto},CD p T->∃X T' r,AI [.ref p,.int 8] T=Fk (.int r,T')/\Pn p T T'/\Th X/\((r<4/\atI [D.tup (xs++IZ xs (Fk (-1)) uK),.tup (IZ xs uK (Fk (-1))),.lst xs,.tup (Uk xs)] r=Fk X)\/(¬r<4/\∃T'',Al 8 [.ref p,.int 2] T'=Fk (X,T'')/\Pn p T' T'')):=by
     intro T hq
     obtain⟨r1,d1,e1,a1,b1,p1⟩:=Aj hq (n:=8) (by decide) (by decide)
     by_cases c:r1<4
     .rcases rB a1 c with rfl|rfl|rfl|rfl
      .exact⟨_,d1,0,e1,p1,fK tx (λd hd=>tx d (G3 hd)) (by have:=FV (L:=xs) (lo:=Fk (-1)) (hi:=uK);omega),.inl ⟨by decide,rfl⟩⟩
      .exact⟨_,d1,1,e1,p1,.tup (λd hd=>tx d (G3 hd)) (by have:=FV (L:=xs) (lo:=uK) (hi:=Fk (-1));omega),.inl ⟨by decide,rfl⟩⟩
      .exact⟨_,d1,2,e1,p1,.lst tx (by omega),.inl ⟨by decide,rfl⟩⟩
      .exact⟨_,d1,3,e1,p1,.tup (λd hd=>tx d (Ui hd)) (by have:=VJ (xs:=xs);omega),.inl ⟨by decide,rfl⟩⟩
     .obtain⟨w,q',ew,tw,pw⟩:=rest p1.pen
      exact⟨w,d1,r1,e1,p1,tw,.inr ⟨c,q',ew,pw⟩⟩
    have z1:xs.length+(IZ xs (Fk (-1)) uK).length<=sizeLine:=AN (by have:=FV (L:=xs) (lo:=Fk (-1)) (hi:=uK);omega)
    have hlay:D.QP xs=true:=hl
    have eo:=Xn hlay
    have en:=bx (ds:=xs)
    have tl:∀{T:Sto},CD p T->∃X T',(spT [Fk (.ref p),Fk (.tup xs),uK,uK] T).map (λr=>(flD r.1,r.2.2))=Fk (X,T')/\Th X/\Pn p T T':=by
     intro T hq
     obtain⟨X,T',r,e1,p1,tw,alt⟩:=ways hq
     rcases alt with⟨c,ed⟩|⟨c,q'',ew,pw⟩
     .exact⟨X,T',by simp[spT,St.Kd.isA,e1,c,z1,ed,s4,n1],tw,p1⟩
     .exact⟨X,q'',by simp[spT,St.Kd.isA,e1,c,ew],tw,p1.trans pw⟩
    by_cases hemp:xs.isEmpty=true
    .obtain⟨X,T',e1,tw,p1⟩:=tl h
     exact⟨X,T',by simp[Rt,St.Kd.isA,eo,en,hemp,e1],tw,p1⟩
    .have hemp:xs.isEmpty=false:=by simpa using hemp
     have hpos:0<xs.length:=by
      cases xs with
      |nil=>cases hemp
      |cons a b=>simp
     obtain⟨r0,S0,e0,a0,b0,p0⟩:=Aj h (n:=6) (by decide) (by decide)
     by_cases c0:0<r0
     .obtain⟨r1,S1,e1,a1,b1,p1⟩:=Aj p0.pen (n:=(xs.length:Int)) (by omega) (by omega)
      obtain⟨y,ey,hy⟩:=pick (xs:=xs) (r:=r1) a1 b1
      obtain⟨X,S2,ew,tw,pw⟩:=NM N k' (by omega) (hx y hy) p1.pen
      have z2:(IZ xs uK (Fk r1)).length+1<=sizeLine:=AN (by have:=FV (L:=xs) (lo:=uK) (hi:=Fk r1);omega)
      have z3:(IZ xs uK (Fk r1)).length+1+(IZ xs (Fk (r1+1)) uK).length<=sizeLine:=AN (by have:=FV (L:=xs) (lo:=uK) (hi:=Fk r1);have:=FV (L:=xs) (lo:=Fk (r1+1)) (hi:=uK);omega)
      have s1:(1:Nat)<=sizeLine:=AN (by decide)
      refine⟨.tup (IZ xs uK (Fk r1)++X::IZ xs (Fk (r1+1)) uK),S2,by simp[Rt,St.Kd.isA,eo,en,hemp,e0,c0,e1,ey,ew,z2,z3,s1],?_,(p0.trans p1).trans pw⟩
      refine .tup (λd hd=>?_) (by
       have:=FV (L:=xs) (lo:=uK) (hi:=Fk r1)
       have:=FV (L:=xs) (lo:=Fk (r1+1)) (hi:=uK)
       rw[vm,vR]
       omega)
      rcases uk.mp hd with hd|hd
      .exact tx d (G3 hd)
      .rcases uQ.mp hd with rfl|hd
       .exact tw
       .exact tx d (G3 hd)
     .obtain⟨X,T',e1,tw,p1⟩:=tl p0.pen
      exact⟨X,T',by simp[Rt,St.Kd.isA,eo,en,hemp,e0,c0,e1],tw,p0.trans p1⟩
end
section
variable{S:Sto}{t:Tr}{ls:Gc Ld}{ds:Gc Ab}
noncomputable def plT(ds:Gc Ab):Gc Nat:=(uc ds.length).filter λi=>Gs (ds.getD i (.LC 0 0))
theorem YK{i:Nat}(h:i∈plT ds):∃l n ws,ds[i]?=Fk (.thr l n ws):=by
 obtain⟨h1,h2⟩:=xC.mp h
 obtain⟨l,n,ws,e⟩:=Uw h2
 have hi:i<ds.length:=by simpa using h1
 refine⟨l,n,ws,?_⟩
 rw[uT,tz hi]at e
 rw[tz hi]
 exact congrArg Fk e
theorem Ye{E:En}{w:Nat}{d:Ab}(h:at? E w=Fk d.d):eOp (o2 wEq) [eOp (o2 wIx) [eV w,eC (.int 0)],eC (.str "throw")] E S=Fk (.bl (Gs d),S):=by
 cases d<;>simp[h,Ab.d,Gs]
theorem plC(hl:ds.length<=50):C8 [] (tTp [tNm 0,tNm 1]) (eOp (o2 wEq) [eOp (o2 wIx) [eV 1,eC (.int 0)],eC (.str "throw")]) (eV 0) (RX 0 (ds.map Ab.d)) [] [uK,uK] S=Fk ((plT ds).map λ(i:Nat)=>D.int i,S):=by
 have e:=Hm (gs:=[]) (t:=tTp [tNm 0,tNm 1]) (c:=eOp (o2 wEq) [eOp (o2 wIx) [eV 1,eC (.int 0)],eC (.str "throw")]) (f:=eV 0) (C:=[]) (m:=2) (e:=λ(i:Nat)=>D.tup [.int i,(ds.map Ab.d).getD i .non]) (g:=λ(i:Nat)=>D.int i) (b:=λi=>Gs (ds.getD i (.LC 0 0))) (S:=S) Aw (xs:=uc ds.length) (acc:=[]) (os:=[uK,uK]) rfl (uW (show _<=50 by simp;lia) (AN (by decide))) (by
  intro z hz os ho
  obtain⟨q1,q2,rfl⟩:=iE ho
  have hz':z<ds.length:=by simpa using hz
  have ed:(ds.map Ab.d).getD z .non=(ds.getD z (.LC 0 0)).d:=by
   rw[uT,uT,uY,tz hz'];rfl
  refine⟨[Fk (.int z),Fk (ds.getD z (.LC 0 0)).d],rfl,by rw[ed];simp,?_,by simp⟩
  exact Ye rfl)
 have er:=MK (ds:=ds.map Ab.d)
 rw[vT]at er
 rw[<-er]at e
 simp only[vH]at e
 exact e
theorem jM{i:Int}:inD (.int i) ((plT ds).map λ(i:Nat)=>D.int i)=GG ds (.int i):=by
 unfold plT
 rw[Bool.eq_iff_iff]
 unfold inD
 rw[AAK]
 constructor
 .rintro ⟨y,hy,e⟩
  obtain⟨n,hn,rfl⟩:=ux.mp hy
  obtain⟨h1,h2⟩:=xC.mp hn
  have hi:(n:Int)=i:=by simpa using e
  subst hi
  have h1':n<ds.length:=by simpa using h1
  have h3:(n:Int)<=(ds.length:Int)-1:=by lia
  simp only[GG,ub,xZ]
  exact⟨⟨by lia,h3⟩,h2⟩
 .intro h
  simp only[GG,ub,xZ]at h
  obtain⟨⟨h0,h1⟩,h2⟩:=h
  obtain⟨n,rfl⟩:=yb h0
  refine⟨.int n,ux.mpr ⟨n,xC.mpr ⟨by simp;lia,h2⟩,rfl⟩,by simp⟩
end
theorem Ul{gs:Gd}{t:Tf}{f:Ev}{C:En}{m:Nat}{I:Gc D->Sto->Prop}(hg:∀acc S,I acc S->gOk gs S):∀{ds acc:Gc D} {os:En} {S:Sto},os.length=m->I acc S->acc.length+ds.length<=sizeLine->(∀d∈ds,∀acc os S,os.length=m->I acc S->∃us y S',us.length=m/\t d (C++os) S=Fk (C++us)/\f (C++us) S=Fk (y,S')/\I (acc++[y]) S')->∃ys S',C8 gs t Cr f ds acc (C++os) S=Fk (ys,S')/\I ys S'/\ys.length=acc.length+ds.length
 | [],acc,os,S,ho,hI,hz,h=>⟨acc,S,by rw[FL (hg _ S hI)],hI,rfl⟩
 |d::ds,acc,os,S,ho,hI,hz,h=>by
  obtain⟨us,y,S1,hu,e1,e2,I1⟩:=h d uX acc os S ho hI
  obtain⟨ys,S2,e3,I2,l2⟩:=Ul hg (ds:=ds) (acc:=acc++[y]) (os:=us) (S:=S1) hu I1 (by simp at hz ⊢; lia) λd' hd=>h d' (uR _ hd)
  refine⟨ys,S2,?_,I2,by simp at l2 ⊢; lia⟩
  rw[JH (hg _ S hI) (by simp at hz;lia) e1 Hr,e2,Bx,e3]
section
variable{S:Sto}{t:Tr}{ls:Gc Ld}{ds:Gc Ab}{p:Nat}
noncomputable def mH(ds:Gc Ab)(i:Nat):Gc Int:=match ds.getD i (.LC 0 0)with
 | .thr _ _ ws=>ws
 |_=>[]
noncomputable def IQ(t:Tr)(ls:Gc Ld)(ds:Gc Ab)(i:Nat):D:=dw t ls ds i (mH ds i)
theorem TX{i l:Nat}{n:Int}{ws:Gc Int}(h:ds[i]?=Fk (.thr l n ws)):mH ds i=ws:=by
 unfold mH
 rw[uT,h]
 rfl
theorem jK(h:BO t ls ds):∀{is:Gc Nat} {acc:Gc D} {o:uL D} {S:Sto},(∀i∈is,i∈plT ds)->acc.length+is.length<=100->∃S',C8 [] (tNm 1) Cr (AJ CH [eV 0,eV 1]) (is.map λ(i:Nat)=>D.int i) acc [Fk (Ad t ls ds),o] S=Fk (acc++is.map (IQ t ls ds),S')/\Cj [] S S'
 | [],acc,o,S,_,_=>⟨S,by rw[wG,FL Aw,wG,wU],.refl⟩
 |i::is,acc,o,S,hi,hl=>by
  simp only[vR]at hl
  obtain⟨l,n,ws,hn⟩:=YK (hi i uX)
  obtain⟨S1,e1,s1⟩:=To (S:=S) h hn
  have e1':CH [Ad t ls ds,.int i] S=Fk (IQ t ls ds i,S1):=by
   unfold IQ;rw[TX hn];exact e1
  obtain⟨S2,e2,s2⟩:=jK h (is:=is) (acc:=acc++[IQ t ls ds i]) (o:=Fk (.int i)) (S:=S1) (λj hj=>hi j (uR _ hj)) (by simp;lia)
  refine⟨S2,?_,s1.trans s2⟩
  have ef:AJ CH [eV 0,eV 1] [Fk (Ad t ls ds),Fk (.int (i:Int))] S=Fk (IQ t ls ds i,S1):=call2.trans e1'
  rw[uv,JH Aw (uO (show acc.length<100 by lia) (AN (by decide))) (E1:=[Fk (Ad t ls ds),Fk (.int (i:Int))]) rfl Hr,ef,Bx,e2]
  simp
end
section
variable{st:Stt}{t:Tr}{k:Nat}
def PK(k:Nat)(s:Stt):Prop:=∃G B:Nat,0<G/\G<=B/\B<2^(30+157*k)/\(∀l∈s.AE,∀r∈l.ow,Ok G B r)/\∀r∈s.hold,Ok G B r
theorem Tq{B T k j:Nat}(hB:B<2^(30+157*k))(hT:T<2^j)(hj:j<=157):B*T<2^(30+157*(k+1)):=by
 have:=Cz hB hT
 exact uO this (Ke (by lia))
theorem PK.of{G B:Nat}(h1:st.AE.length<=4+k)(h2:∀x∈st.AE,LOk t k G B x)(h3:st.hold.length=t.p)(h4:st.nums.length<=k)(g0:0<G)(g1:G<=B)(g2:B<2^(30+157*k))(h5:∀r∈st.hold,Ok G B r):PK k st:=⟨G,B,g0,g1,g2,λx hx=>(h2 x hx).ok,h5⟩
theorem eJ(ht:Jy t)(h:GB t k st)(w:PK k st)(hk:k<=12){d:Ab}(hc:Can t st d):PK (k+1) (step t st d):=by
 obtain⟨G,B,g0,g1,g2,hl,hh⟩:=w
 have L:∀x∈st.AE,LOk t k G B x:=λx hx=>⟨h.kind x hx,(h.pcs x hx).1,(h.pcs x hx).2,h.own x hx,hl x hx⟩
 have g2':B<2^(30+157*(k+1)):=uO g2 (Ke (by lia))
 have hlen:=h.len
 have hnm:=h.nm
 cases d with
 |Ip p kd n=>
  obtain⟨h1,h2,h3,h4⟩:=hc
  refine PK.of (t:=t) (G:=G) (B:=B) (by simp[step];lia) (KU (λx hx=>(L x hx).up1) ⟨h2,by show 0<=n;lia,gD h4,by simp[WE],cK g1⟩) h.hold (vk hnm) g0 g1 g2' hh
 |LC i j=>
  obtain⟨hij,hi,hj,h1,h2,h3⟩:=hc
  have li:=L _ (A4 hi)
  have lj:=L _ (A4 hj)
  have tl:((AU st.AE i).n+(AU st.AE j).n).toNat<2^(132+k):=by
   have a:=li.n1;have b:=lj.n1
   have e:(2:Int)^(132+k)=2^(131+k)*2:=by rw[show 132+k=(131+k)+1 by lia,AAd]
   have:(((AU st.AE i).n+(AU st.AE j).n).toNat:Int)<((2^(132+k):Nat):Int):=by
    rw[vX (by lia)]
    push_cast
    rw[e];lia
   exact_mod_cast this
  have t0:0<((AU st.AE i).n+(AU st.AE j).n).toNat:=by lia
  refine PK.of (t:=t) (G:=G*((AU st.AE i).n+(AU st.AE j).n).toNat) (B:=B*((AU st.AE i).n+(AU st.AE j).n).toNat) (by simp[step,Ca];lia) (KU ?_ ⟨li.kd,by show 0<=(AU st.AE i).n+(AU st.AE j).n;lia,?_,?_,R3 h1 h2 li.ok lj.ok⟩) h.hold (vk hnm) (yH g0 t0) (vI _ g1) (Tq g2 tl (by lia)) (λr hr=>(hh r hr).up (uV _))
  .have e0:AU (less st.AE i (AU st.AE i).n) j=AU st.AE j:=by
    unfold AU less
    rw[uT,uS hij,<-uT]
   have A:=EY (P:=LOk t (k+1) (G*((AU st.AE i).n+(AU st.AE j).n).toNat) (B*((AU st.AE i).n+(AU st.AE j).n).toNat)) (n:=(AU st.AE i).n) hi (λx hx=>(L x hx).up (uV _)) ((li.up (uV _)).less (by lia) (zy _))
   have A2:=EY (st:={st with AE:=less st.AE i (AU st.AE i).n}) (i:=j) (n:=(AU st.AE j).n) (by simpa[Ca]using hj) A (by
    show LOk _ _ _ _ ⟨(AU (less st.AE i (AU st.AE i).n) j).k,(AU (less st.AE i (AU st.AE i).n) j).n-_,(AU (less st.AE i (AU st.AE i).n) j).ow⟩
    rw[e0]
    exact(lj.up (uV _)).less (by lia) (zy _))
   exact A2
  .show(AU st.AE i).n+(AU st.AE j).n<2^(131+(k+1))
   have a:=li.n1;have b:=lj.n1
   rw[show 131+(k+1)=(131+k)+1 by lia,AAd];lia
  .exact Fq li.own lj.own
 |swap i g kd n=>
  obtain⟨hi,h1,h2,h3,h4,h5,h6⟩:=hc
  have li:=L _ (A4 hi)
  refine PK.of (t:=t) (G:=G) (B:=B) (by simp[step,Ca];lia) (KU (EY hi (λx hx=>(L x hx).up1) (li.up1.less (by lia) h2)) ⟨h3,by show 0<=n;lia,gD h6,li.own,li.ok⟩) h.hold (vk hnm) g0 g1 g2' hh
 |Hw u i g kd n=>
  obtain⟨hi,h1,h2,h3,h4,h5,h6,h7⟩:=hc
  have li:=L _ (A4 hi)
  refine PK.of (t:=t) (G:=G) (B:=B) (by simp[step,Ca];lia) (KU (EY hi (λx hx=>(L x hx).up1) (li.up1.less (by lia) h2)) ⟨h3,by show 0<=n;lia,gD h6,li.own,li.ok⟩) h.hold (by simp[step];lia) g0 g1 g2' hh
 |Jr i n=>
  obtain⟨hi,h1,h2⟩:=hc
  have li:=L _ (A4 hi)
  refine PK.of (t:=t) (G:=G) (B:=B) (by simp[step,Ca];lia) (EY hi (λx hx=>(L x hx).up1) (li.up1.less (by lia) h2)) h.hold (vk hnm) g0 g1 g2' hh
 |thr i n ws=>
  obtain⟨hi,h1,h2,h3,h4⟩:=hc
  have li:=L _ (A4 hi)
  have W:=Kv ht h (by lia) h3 h4
  have wl:(EH t st.AE ws).toNat<2^(145+k):=by
   have:((EH t st.AE ws).toNat:Int)<((2^(145+k):Nat):Int):=by
    rw[vX (by lia)];push_cast;exact W.2
   exact_mod_cast this
  have bo:=λ{ss:Gc Rat} (hs:∀r∈ss,Ok G B r)=>R0 ht h (by lia) h3 h4 hi h1 h2 li.ok hs
  refine PK.of (t:=t) (G:=G*(EH t st.AE ws).toNat) (B:=B*(EH t st.AE ws).toNat) (by simp[step,Ca];lia) ?_ (Fq h.hold li.own) (vk hnm) (yH g0 (by lia)) (vI _ g1) (Tq g2 wl (by lia)) (bo hh)
  intro x hx
  obtain⟨y,hy,rfl⟩:=ux.mp hx
  have ly:=EY (P:=LOk t k G B) hi L (li.less (n:=n) (by lia) h2) y hy
  exact⟨ly.kd,ly.n0,ly.up1.n1,Fq ly.own li.own,bo ly.ok⟩
 |Me p q x=>
  obtain⟨h1,h2,h3,h4,h5,h6⟩:=hc
  have dp:=x.den_pos
  refine PK.of (t:=t) (G:=G*x.den) (B:=2*B*x.den) (by simp[step];lia) ?_ (by simp[step,IT,h.hold]) (vk hnm) (yH g0 dp) (vI _ (by lia)) ?_ (Q7 (by rw[h.hold];exact h2) (by rw[h.hold];exact h3) h4 h5 hh)
  .intro y hy
   obtain⟨z,hz,rfl⟩:=ux.mp hy
   have lz:=L z hz
   exact⟨lz.kd,lz.n0,lz.up1.n1,by simp[IT,lz.own],Q7 (by rw[lz.own];exact h2) (by rw[lz.own];exact h3) h4 h5 lz.ok⟩
  .have:=Tq (B:=B) (T:=2*x.den) (j:=5) g2 (by lia) (by lia)
   rw[show 2*B*x.den=B*(2*x.den) by rw[<-y7,xW 2 B]]
   exact this
theorem Xv(ht:Jy t):∀{ds:Gc Ab} {k:Nat} {st:Stt},GB t k st->PK k st->Pc t st ds->k+ds.length<=13->PK (k+ds.length) (runs t st ds)
 | [],k,st,_,w,_,_=>w
 |d::ds,k,st,h,w,g,hl=>by
  have:=Xv ht (ds:=ds) (Uu ht h (by simp at hl;lia) g.1) (eJ ht h w (by simp at hl;lia) g.1) g.2 (by simp at hl;lia)
  rw[show k+(d::ds).length=k+1+ds.length by simp;lia]
  exact this
theorem GB.bd0(h:GB t 0 st):PK 0 st:=h.gb
theorem BO.bd{ls:Gc Ld}{ds:Gc Ab}(h:BO t ls ds)(hl:ds.length<=13)(i:Nat):PK (ds.take i).length (runs t (st0 t ls) (ds.take i)):=by
 have:=Xv h.tr (ds:=ds.take i) h.inv h.inv.bd0 (Mb h.good) (by simp;lia)
 rwa [AAa]at this
end
section
variable{s:Stt}{t:Tr}{k p i:Nat}{ws:Gc Int}{ls:Gc Ld}{ds:Gc Ab}
theorem PK.wbd(h:GB t k s)(w:PK k s)(hk:k<=11)(hw:US t ws):∃G B N,WBd t s ws G B N 1919:=by
 obtain⟨G,B,g0,gb,b,h1,h2⟩:=w
 have hB:B<2^1757:=uO b (uz (by decide) (by lia))
 have hB':B<2^1919:=uO hB (uz (by decide) (by decide))
 have hN:(2^149:Nat)<2^150:=ABC (by decide) (by decide)
 refine⟨G,B,2^149,⟨g0,vb gb hB',by decide,λl hl=>?_,λl hl=>?_,hB',uO hN (uz (by decide) (by decide)),?_,by have:=h.len;simp[wl];lia⟩,h2,by decide⟩
 .obtain⟨x,hx,rfl⟩:=ux.mp hl
  exact h1 x hx
 .obtain⟨x,hx,rfl⟩:=ux.mp hl
  have:=h.pcs x hx
  obtain⟨_,w1,w2⟩:=hw.at (j:=x.k) (by have:=h.kind x hx;lia)
  have e:(2:Int)^(131+k)<=2^142:=by
   have:(2:Nat)^(131+k)<=2^142:=uz (by decide) (by lia)
   exact_mod_cast this
  generalize ws.getD x.k 0=w at*
  refine⟨yt this.1 (by lia),?_⟩
  have:x.n*w<=2^142*99:=yu (by lia) w2 (by lia) (by decide)
  have h3:(2:Int)^142*99<=((2^149:Nat):Int):=by exact_mod_cast (show(2:Nat)^142*99<=2^149 by decide)
  exact Int.le_trans this h3
 .have:=Cz (show 200<2^8 by decide) (Cz hB hN)
  exact uO this (uz (by decide) (by decide))
theorem PK.worth(h:GB t k s)(w:PK k s)(hk:k<=11)(ht:Jy t)(hw:US t ws):Sz 1919 (FP t s ws p):=by
 obtain⟨G,B,N,b⟩:=PK.wbd h w hk hw
 refine(b.worth ht hw).sz b.bd.g0 b.bd.gK (vb ?_ b.bd.hb)
 exact vI _ (by decide)
theorem cy{m:Nat}(h:m<2^1919):m.log2<1920:=by
 by_cases z:m=0
 .rw[z];decide
 .have:=(Nat.log2_lt z).mpr h
  lia
theorem jq{q:Rat}{n:Nat}(h:Sz 1919 q):Sj (n+1) (aD q):=.tup (by
 intro d hd
 simp at hd
 rcases hd with rfl|rfl
 .exact .int (cy h.1)
 .exact .int (cy (by simpa using h.2))) (by simp)
theorem ib(h:BO t ls ds)(hl:ds.length<=11){l:Nat}{n:Int}(hn:ds[i]?=Fk (.thr l n ws)):Sj 3 (dw t ls ds i ws):=by
 have can:=GC h.good hn
 have hw:US t ws:=⟨can.2.2.2.1,can.2.2.2.2⟩
 have l1:(ds.take i).length<=11:=by simp;lia
 have l2:(ds.take (i+1)).length<=11:=by simp;lia
 have w1:=λp=>PK.worth (p:=p) (h.at i) (h.bd (by lia) i) l1 h.tr hw
 have w2:=λp=>PK.worth (p:=p) (h.at (i+1)) (h.bd (by lia) (i+1)) l2 h.tr hw
 obtain⟨t1,t2,t3,t4,t5,t6⟩:=h.tr
 refine .tup (λd hd=>?_) (by simp;lia)
 obtain⟨p,_,rfl⟩:=ux.mp hd
 refine .tup (λd hd=>?_) (by simp)
 simp at hd
 rcases hd with rfl|rfl
 .exact jq (w1 p)
 .exact jq (w2 p)
theorem fe(h:BO t ls ds)(hl:ds.length<=11)(hi:i∈plT ds):Sj 3 (IQ t ls ds i):=by
 obtain⟨l,n,ws,hn⟩:=YK hi
 unfold IQ
 rw[TX hn]
 exact ib h hl hn
end
section
variable{S:Sto}{t:Tr}{ls:Gc Ld}{ds:Gc Ab}{p:Nat}{X:D}{e0 e1 e2 e5 e6 e7 e8 e9 e10 e11 e12:uL D}
noncomputable def plD(ds:Gc Ab):Gc D:=(plT ds).map λ(i:Nat)=>D.int i
theorem Zh:(plD ds).all Kg=true:=by
 rw[List.all_eq_true]
 intro y hy
 obtain⟨n,_,rfl⟩:=ux.mp hy
 rfl
def Uc:Ev:=(Hu (eOp (o2 K4) [eV 11,eC (.ty "int")]) (Hu (UC (eOp (o2 K4) [eV 11,eC (.ty "bool")])) (eOp (o2 (wIn false)) [eV 11,eV 4])))
theorem XU(hX:Pt X):Uc [e0,e1,e2,Fk (Ad t ls ds),Fk (.lst (plD ds)),e5,e6,e7,e8,e9,e10,Fk X,e12] S=Fk (.bl (GG ds X),S):=by
 have fp:=Zh (ds:=ds)
 have ip:∀i:Int,inD (.int i) (plD ds)=GG ds (.int i):=λi=>jM (ds:=ds) (i:=i)
 generalize plD ds=PL at*
 cases hX with
 |int i=>
  have:=ip i
  simp[Uc,St.Kd.isA,fp,this,Kg]
 |_=>simp[Uc,St.Kd.isA,GG]
def fN:Ev:=(eIx (Fe [eC (.str "throw"),eC (.str "none")]) (eOp (o1 Zz) [eV 12]))
theorem aj:fN [e0,e1,e2,Fk (Ad t ls ds),Fk (.lst (plD ds)),e5,e6,e7,e8,e9,e10,Fk X,Fk (.bl (GG ds X))] S=Fk (.str (C0 ds X),S):=by
 have sz2:(2:Nat)<=sizeLine:=AN (by decide)
 unfold C0
 generalize Ad t ls ds=bk at*
 generalize plD ds=PL at*
 cases GG ds X<;>simp[fN,sz2]
def ki:Ex:=(Aa (BQ 12 Uc) (xIf (UC (AJ Ge [eV 3,eV 11,fN])) (BJ (eC (.bl false))) D5))
theorem hO(hT:S.any (Lu "_law_all_so")=true)(h:BO t ls ds)(hX:Pt X):∃S',ki [e0,e1,e2,Fk (Ad t ls ds),Fk (.lst (plD ds)),e5,e6,e7,e8,e9,e10,Fk X,e12] S=Fk (.nx,[e0,e1,e2,Fk (Ad t ls ds),Fk (.lst (plD ds)),e5,e6,e7,e8,e9,e10,Fk X,Fk (.bl (GG ds X))],S')/\Cj [] S S':=by
 have d1:=XU (S:=S) (t:=t) (ls:=ls) (ds:=ds) (X:=X) (e0:=e0) (e1:=e1) (e2:=e2) (e5:=e5) (e6:=e6) (e7:=e7) (e8:=e8) (e9:=e9) (e10:=e10) (e12:=e12) hX
 have d2:=aj (S:=S) (t:=t) (ls:=ls) (ds:=ds) (X:=X) (e0:=e0) (e1:=e1) (e2:=e2) (e5:=e5) (e6:=e6) (e7:=e7) (e8:=e8) (e9:=e9) (e10:=e10)
 obtain⟨S',d3,s1⟩:=YI (S:=S) (U4 (ds:=ds) (X:=X)) hT h hX
 have k:(C0 ds X==C0 ds X)=true:=by simp
 rw[k]at d3
 refine⟨S',?_,s1⟩
 generalize GG ds X=B at*
 generalize C0 ds X=W at*
 generalize Ad t ls ds=bk at*
 generalize plD ds=PL at*
 simp[ki,d1,d2,d3]
def l9:Ev:=(eOp (o2 CK) [eLR (eOp (o2 CK) [eOp (o1 Jo) [eIx (eV 3) (eI 2)],eI 1]),Fe [eOp (o1 Nm) [eI 1],eC (.bl true),eC .non,eC (.str "0"),eOp (o2 XN) [eI 10,eI 39],AJ (Al 8) [eV 2,eI 2]]])
end
section
variable{S:Sto}{t:Tr}{ls:Gc Ld}{ds:Gc Ab}{p i:Nat}{X:D}{e0 e1 e2 e4 e5 e6 e7 e8 e9 e10 e11 e12:uL D}
@[simp] theorem nC{cf:Bool}{f:Ev}{E:En}{S:Sto}:oD cf f E S=(f E S).bind (lrK cf):=nr rfl
@[simp] theorem pO{cf:Bool}{j:Int}{S:Sto}:lrK cf (.int j,S)=if(decide (0<=j) && decide (j<=1000))=true then fin cf (.own (KH 0 j.toNat)) S else none:=nr rfl
theorem Cj.tab{S S':Sto}(h:Cj [] S S'){n:Nat}{c:Cl}(e:S[n]?=Fk c):S'[n]?=Fk c:=h.get e (by simp)
theorem fc(h:BO t ls ds)(hp:CD p S):∃L S',l9 [e0,e1,Fk (.ref p),Fk (Ad t ls ds),e4,e5,e6,e7,e8,e9,e10,e11,e12] S=Fk (.lst L,S')/\(∀d∈L,Pt d)/\Pn p S S':=by
 obtain⟨X,S',e,hX,pn⟩:=TC (n:=8) (d:=2) (by decide) hp
 have hl:=h.len
 have e':Al 8 [.ref p,.int 2] S=Fk (X,S'):=e
 have h1:(0:Int)<=(ds.length:Int)+1:=by lia
 have h2:(ds.length:Int)+1<=1000:=by lia
 have sz1:(1:Nat)<=sizeLine:=AN (by decide)
 have sz6:(6:Nat)<=sizeLine:=AN (by decide)
 have szL:(KH 0 (ds.length+1)).length+6<=sizeLine:=uW (show _<=100 by rw[D7];lia) (AN (by decide))
 have pw:=rC
 refine⟨KH 0 (ds.length+1)++[.int (-1),.bl true,.non,.str "0",.int (10^39),X],S',?_,λd hd=>?_,pn⟩
 .simp only[Ad]
  generalize hR:KH 0 (ds.length+1)=RR at*
  simp[l9,h1,h2,hR,sz1,sz6,pw,e',szL]
 .rcases uk.mp hd with z|z
  .obtain⟨k,_,rfl⟩:=ux.mp z
   exact .int _
  .simp only[uQ,ug,vd]at z
   rcases z with rfl|rfl|rfl|rfl|rfl|rfl
   .exact .int _
   .exact .bl _
   .exact .non
   .exact .str _
   .exact .int _
   .exact hX
theorem bR(h:BO t ls ds)(hp:CD p S)(hp0:0≠p)(h0:S[0]?=Fk (Cl.tab "_law_all_so")):∃L u11 u12 S1 S',l9 [e0,e1,Fk (.ref p),Fk (Ad t ls ds),Fk (.lst (plD ds)),e5,e6,e7,e8,e9,e10,e11,e12] S=Fk (.lst L,S1)/\Nc [] (tNm 11) ki L [e0,e1,Fk (.ref p),Fk (Ad t ls ds),Fk (.lst (plD ds)),e5,e6,e7,e8,e9,e10,e11,e12] S1=Fk (.nx,[e0,e1,Fk (.ref p),Fk (Ad t ls ds),Fk (.lst (plD ds)),e5,e6,e7,e8,e9,e10,u11,u12],S')/\S'[0]?=Fk (Cl.tab "_law_all_so"):=by
 obtain⟨L,S1,e,hL,pn⟩:=fc (S:=S) (e0:=e0) (e1:=e1) (e4:=Fk (.lst (plD ds))) (e5:=e5) (e6:=e6) (e7:=e7) (e8:=e8) (e9:=e9) (e10:=e10) (e11:=e11) (e12:=e12) h hp
 have t1:=pn.get h0 hp0
 obtain⟨E',S',ef,o11,o12,rfl,t2,_⟩:=EJ (gs:=[]) (t:=tNm 11) (b:=ki)
  (I:=λrs E S'=>∃o11 o12:uL D,E=[e0,e1,Fk (.ref p),Fk (Ad t ls ds),Fk (.lst (plD ds)),e5,e6,e7,e8,e9,e10,o11,o12]/\S'[0]?=Fk (Cl.tab "_law_all_so")/\∀d∈rs,Pt d)
  (fun _ _ _ _ => Aw) (ds := L) (E := [e0, e1, Fk (.ref p), Fk (Ad t ls ds), Fk (.lst (plD ds)), e5, e6, e7, e8, e9, e10, e11, e12]) (S := S1) ⟨e11, e12, rfl, t1, hL⟩ (by
    rintro dd rs E T ⟨o11,o12,rfl,i1,i2⟩
    obtain⟨T',e,sm⟩:=hO (e0:=e0) (e1:=e1) (e2:=Fk (.ref p)) (e5:=e5) (e6:=e6) (e7:=e7) (e8:=e8) (e9:=e9) (e10:=e10) (e12:=o12) (tab_of i1) h (i2 dd uX)
    exact⟨_,_,T',rfl,e,Fk dd,Fk (.bl (GG ds dd)),rfl,sm.tab i1,λd hd=>i2 d (uR _ hd)⟩)
 exact⟨L,o11,o12,S1,S',e,ef,t2⟩
end
section
variable{S:Sto}{t:Tr}{ls:Gc Ld}{ds:Gc Ab}{p i:Nat}{X:D}{e0 e1 e2 e4 e5 e6 e7 e8 e9 e10 e11 e12:uL D}
theorem nq{q:Rat}:Tp 2 (aD q):=⟨by simp,λd hd=>by simp at hd;rcases hd with rfl|rfl<;>trivial⟩
theorem YL(h:BO t ls ds):Tp 4 (IQ t ls ds i):=by
 obtain⟨t1,t2,t3,t4,t5,t6⟩:=h.tr
 refine⟨by simp;lia,λd hd=>?_⟩
 obtain⟨p,_,rfl⟩:=ux.mp hd
 exact⟨by simp,λd hd=>by simp at hd;rcases hd with rfl|rfl<;>exact nq⟩
theorem Yf(h:BO t ls ds):Th (IQ t ls ds i):=UJ (YL h).pl
def lu:Ex:=(Aa (BQ 10 (AJ BD [eV 3,eV 6,eV 9]))
    (xIf (eOr (UC (eOp (o2 K4) [eV 10,eC (.ty "bool")])) (eOp (o2 wNe) [eV 10,AJ (D8 8) [eV 9,eV 7]])) (BJ (eC (.bl false))) D5))
theorem fF(h:BO t ls ds)(hi:i∈plT ds)(hX:Th X):∃u10 S',lu [e0,e1,e2,Fk (Ad t ls ds),e4,e5,Fk (.int i),Fk (IQ t ls ds i),e8,Fk X,e10,e11,e12] S=Fk (.nx,[e0,e1,e2,Fk (Ad t ls ds),e4,e5,Fk (.int i),Fk (IQ t ls ds i),e8,Fk X,u10,e11,e12],S')/\Cj [] S S':=by
 obtain⟨l,n,ws,hn⟩:=YK hi
 obtain⟨S1,q1,s1⟩:=R8 (S:=S) (X:=X) (x:=X) h hn λ_ _=>Thg.plain hX
 have ew:dw t ls ds i ws=IQ t ls ds i:=by unfold IQ;rw[TX hn]
 rw[ew]at q1
 have q2:=cW (S:=S1) (YL (i:=i) h) (n:=8) (by decide) (Thg.plain hX)
 have k1:St.Kd.bl.isA "bool"=true:=by decide
 refine⟨Fk (.bl (FR X (IQ t ls ds i))),S1,?_,s1⟩
 have bb1:∀b:vL,EE (.bl b) (.bl b)=true:=λb=>nr rfl
 have bb2:∀b:vL,deq (.bl b) (.bl b)=true:=λb=>by cases b<;>rfl
 generalize FR X (IQ t ls ds i)=b at*
 generalize IQ t ls ds i=du at*
 generalize Ad t ls ds=bk at*
 simp[lu,q1,k1,q2,bb1,bb2]
def pC:Ev:=(eOp (o2 CK) [eV 5,Fe [eV 7,Cm [],eC .non,AJ (Al 8) [eV 2,eI 3],AJ (Cc 8) [eV 2,eV 7]]])
def nN:Ev:=(eOp (o2 CK) [eV 8,C9 [2,7] 1 (PJ [eI 8]) (tNm 2) Cr (AJ B2 [eV 0,eV 1])])
def jo:Ex:=(Aa (BQ 8 pC) (Lj (Js nN) (tNm 9) lu))
noncomputable def JR(t:Tr)(ls:Gc Ld)(ds:Gc Ab):Gc D:=(plT ds).map (IQ t ls ds)
theorem YH:(plT ds).length<=ds.length:=by
 unfold plT
 exact uW (xP _ _) (by simp)
theorem jG(h:BO t ls ds)(hl:ds.length<=11)(hp:CD p S)(hi:i∈plT ds):∃u8 u9 u10 S',jo [e0,e1,Fk (.ref p),Fk (Ad t ls ds),e4,Fk (.lst (JR t ls ds)),Fk (.int i),Fk (IQ t ls ds i),e8,e9,e10,e11,e12] S=Fk (.nx,[e0,e1,Fk (.ref p),Fk (Ad t ls ds),e4,Fk (.lst (JR t ls ds)),Fk (.int i),Fk (IQ t ls ds i),u8,u9,u10,e11,e12],S')/\Pn p S S':=by
 obtain⟨X,S1,q1,hX,p1⟩:=Qf (n:=8) (d:=3) (by decide) hp
 obtain⟨Z,S2,q2,hZ,p2⟩:=NM (p:=p) 8 3 (S:=S1) (by decide) (fe h hl hi) p1.pen
 have q1':Al 8 [.ref p,.int 3] S=Fk (X,S1):=q1
 have lr:(JR t ls ds).length<=11:=by unfold JR;rw[vT];exact uW YH hl
 have thr:∀d∈JR t ls ds,Th d:=λd hd=>by
  obtain⟨j,_,rfl⟩:=ux.mp hd
  exact Yf h
 have z5:(5:Nat)<=sizeLine:=AN (by decide)
 have zr:(JR t ls ds).length+5<=sizeLine:=AN (by lia)
 have dt:=Yf (i:=i) h
 obtain⟨ys,S3,q3,⟨P3,hys⟩,lys⟩:=Ul (gs:=[]) (t:=tNm 2) (f:=AJ B2 [eV 0,eV 1]) (C:=[Fk (.ref p),Fk (IQ t ls ds i)]) (m:=1) (I:=λacc T=>Pn p S2 T/\∀y∈acc,Th y) (λ_ _ _=>Aw) (ds:=KH 0 8) (acc:=[]) (os:=[uK]) (S:=S2) rfl ⟨.refl p2.pen,λy hy=>by cases hy⟩ (AN (by simp[D7])) (by
  rintro dd hd acc os T ho ⟨hP,hA⟩
  match os,ho with
  | [a],_=>
  obtain⟨Y,T',ez,hY,hP'⟩:=Ra (p:=p) (S:=T) (L:=(uc t.p).map (pairD t (runs t (st0 t ls) (ds.take i)) (runs t (st0 t ls) (ds.take (i+1))) (mH ds i))) (λd hd=>by
   obtain⟨j,_,rfl⟩:=ux.mp hd
   exact⟨_,_,rfl⟩) (by obtain⟨t1,t2,t3,t4,t5,t6⟩:=h.tr;simp;lia) (by obtain⟨t1,t2,t3,t4,t5,t6⟩:=h.tr;simp;lia) hP.pen
  have ez':B2 [.ref p,IQ t ls ds i] T=Fk (Y,T'):=ez
  refine⟨[Fk dd],Y,T',rfl,by simp,by simp[ez'],hP.trans hP',λy hy=>?_⟩
  rcases uk.mp hy with hy|hy
  .exact hA y hy
  .rw[uy.mp hy];exact hY)
 simp only[vH,vS]at q3
 have hall:∀y∈(JR t ls ds++[IQ t ls ds i,.tup [],.non,X,Z])++ys,Th y:=λy hy=>by
  rcases uk.mp hy with hy|hy
  .rcases uk.mp hy with hy|hy
   .exact thr y hy
   .simp only[uQ,ug,vd]at hy
    rcases hy with rfl|rfl|rfl|rfl|rfl
    .exact dt
    .exact .tup (λd hd=>by cases hd) (by decide)
    .exact .non
    .exact hX
    .exact hZ
  .exact hys y hy
 obtain⟨E',S',ef,u9,u10,rfl,sm,_⟩:=EJ (gs:=[]) (t:=tNm 9) (b:=lu)
  (I:=λrs E S'=>∃u9 u10,E=[e0,e1,Fk (.ref p),Fk (Ad t ls ds),e4,Fk (.lst (JR t ls ds)),Fk (.int i),Fk (IQ t ls ds i),Fk (.lst (JR t ls ds++[IQ t ls ds i,.tup [],.non,X,Z])),u9,u10,e11,e12]/\Cj [] S3 S'/\∀d∈rs,Th d)
  (fun _ _ _ _ => Aw) (ds := (JR t ls ds ++ [IQ t ls ds i, .tup [], .non, X, Z]) ++ ys) (E := [e0, e1, Fk (.ref p), Fk (Ad t ls ds), e4, Fk (.lst (JR t ls ds)), Fk (.int i), Fk (IQ t ls ds i), Fk (.lst (JR t ls ds ++ [IQ t ls ds i, .tup [], .non, X, Z])), e9, e10, e11, e12]) (S := S3) ⟨e9, e10, rfl, .refl, hall⟩ (by
    rintro dd rs E T ⟨u9,u10,rfl,i1,i2⟩
    obtain⟨v10,T',e,sm⟩:=fF (S:=T) (e0:=e0) (e1:=e1) (e2:=Fk (.ref p)) (e4:=e4) (e5:=Fk (.lst (JR t ls ds))) (e8:=Fk (.lst (JR t ls ds++[IQ t ls ds i,.tup [],.non,X,Z]))) (e10:=u10) (e11:=e11) (e12:=e12) h hi (i2 dd uX)
    exact⟨_,_,T',rfl,e,Fk dd,v10,rfl,i1.trans sm,λd hd=>i2 d (uR _ hd)⟩)
 have ly:ys.length=8:=by rw[lys];simp[D7]
 refine⟨Fk (.lst (JR t ls ds++[IQ t ls ds i,.tup [],.non,X,Z])),u9,u10,S',?_,(p1.trans p2).trans ⟨P3.same.trans (sm.mono (by simp)),P3.pen.keep sm (by simp)⟩⟩
 have r8:Jq (8:Int)=true:=DZ (by decide) (by decide)
 have t8:(8:Int).toNat=8:=rfl
 have et:pC [e0,e1,Fk (.ref p),Fk (Ad t ls ds),e4,Fk (.lst (JR t ls ds)),Fk (.int i),Fk (IQ t ls ds i),e8,e9,e10,e11,e12] S=Fk (.lst (JR t ls ds++[IQ t ls ds i,.tup [],.non,X,Z]),S2):=by
  generalize IQ t ls ds i=du at*
  generalize Ad t ls ds=bk at*
  generalize JR t ls ds=R at*
  simp[pC,q1',q2,z5,zr]
 have zz:(JR t ls ds++[IQ t ls ds i,.tup [],.non,X,Z]).length+ys.length<=sizeLine:=AN (by rw[ly];simp;lia)
 have es:nN [e0,e1,Fk (.ref p),Fk (Ad t ls ds),e4,Fk (.lst (JR t ls ds)),Fk (.int i),Fk (IQ t ls ds i),Fk (.lst (JR t ls ds++[IQ t ls ds i,.tup [],.non,X,Z])),e9,e10,e11,e12] S2=Fk (.lst ((JR t ls ds++[IQ t ls ds i,.tup [],.non,X,Z])++ys),S3):=by
  generalize JR t ls ds++[IQ t ls ds i,.tup [],.non,X,Z]=V at*
  generalize IQ t ls ds i=du at*
  generalize Ad t ls ds=bk at*
  generalize JR t ls ds=R at*
  simp[nN,r8,t8,PZ,q3,zz]
 generalize JR t ls ds++[IQ t ls ds i,.tup [],.non,X,Z]=V at*
 generalize IQ t ls ds i=du at*
 generalize Ad t ls ds=bk at*
 generalize JR t ls ds=R at*
 simp[jo,et,es,ef]
end
section
variable{S:Sto}{t:Tr}{ls:Gc Ld}{ds:Gc Ab}{p i:Nat}{X:D}{e0 e1 e2 e4 e5 e6 e7 e8 e9 e10 e11 e12:uL D}
theorem zip_rows:Nb (plD ds) (JR t ls ds)=(plT ds).map λ(i:Nat)=>D.tup [.int i,IQ t ls ds i]:=by
 unfold Nb plD JR
 rw[List.zip_map',vh]
 rfl
theorem Zw(h:BO t ls ds)(hl:ds.length<=11)(hp:CD p S):∃u6 u7 u8 u9 u10 S',Nc [] (tTp [tNm 6,tNm 7]) jo (Nb (plD ds) (JR t ls ds)) [e0,e1,Fk (.ref p),Fk (Ad t ls ds),e4,Fk (.lst (JR t ls ds)),e6,e7,e8,e9,e10,e11,e12] S=Fk (.nx,[e0,e1,Fk (.ref p),Fk (Ad t ls ds),e4,Fk (.lst (JR t ls ds)),u6,u7,u8,u9,u10,e11,e12],S')/\Pn p S S':=by
 rw[zip_rows]
 obtain⟨E',S',ef,u6,u7,u8,u9,u10,rfl,pn,_⟩:=EJ (gs:=[]) (t:=tTp [tNm 6,tNm 7]) (b:=jo)
  (I:=λrs E S'=>∃u6 u7 u8 u9 u10,E=[e0,e1,Fk (.ref p),Fk (Ad t ls ds),e4,Fk (.lst (JR t ls ds)),u6,u7,u8,u9,u10,e11,e12]/\Pn p S S'/\∀d∈rs,∃i,i∈plT ds/\d=D.tup [.int (i:Nat),IQ t ls ds i])
  (fun _ _ _ _ => Aw) (ds := (plT ds).map fun (i : Nat) => D.tup [.int i, IQ t ls ds i]) (E := [e0, e1, Fk (.ref p), Fk (Ad t ls ds), e4, Fk (.lst (JR t ls ds)), e6, e7, e8, e9, e10, e11, e12]) (S := S) ⟨e6, e7, e8, e9, e10, rfl, .refl hp, fun d hd => by
    obtain⟨i,hi,rfl⟩:=ux.mp hd
    exact⟨i,hi,rfl⟩⟩ (by
    rintro dd rs E T ⟨u6,u7,u8,u9,u10,rfl,i1,i2⟩
    obtain⟨i,hi,rfl⟩:=i2 dd uX
    obtain⟨v8,v9,v10,T',e,pn⟩:=jG (S:=T) (e0:=e0) (e1:=e1) (e4:=e4) (e8:=u8) (e9:=u9) (e10:=u10) (e11:=e11) (e12:=e12) h hl i1.pen hi
    exact⟨_,_,T',by simp,e,_,_,v8,v9,v10,rfl,i1.trans pn,λd hd=>i2 d (uR _ hd)⟩)
 exact⟨u6,u7,u8,u9,u10,S',ef,pn⟩
def plE:Ev:=(C9 [] 2 (Xe (eIx (eV 3) (eI 2))) (tTp [tNm 0,tNm 1]) (eOp (o2 wEq) [eIx (eV 1) (eI 0),eC (.str "throw")]) (eV 0))
def rwE:Ev:=(C9 [3] 1 (Js (eV 4)) (tNm 1) Cr (AJ CH [eV 0,eV 1]))
theorem kI(h:BO t ls ds):plE [e0,e1,e2,Fk (Ad t ls ds),e4,e5,e6,e7,e8,e9,e10,e11,e12] S=Fk (.lst (plD ds),S):=by
 have e:=plC (S:=S) (ds:=ds) (by have:=h.len;lia)
 have e':C8 [] (tTp [tNm 0,tNm 1]) (eOp (o2 wEq) [eIx (eV 1) (eI 0),eC (.str "throw")]) (eV 0) (RX 0 (ds.map Ab.d)) [] [uK,uK] S=Fk (plD ds,S):=e
 simp only[Ad]
 generalize plD ds=P at*
 simp[plE,PZ,e']
theorem jA(h:BO t ls ds):∃S',rwE [e0,e1,e2,Fk (Ad t ls ds),Fk (.lst (plD ds)),e5,e6,e7,e8,e9,e10,e11,e12] S=Fk (.lst (JR t ls ds),S')/\Cj [] S S':=by
 obtain⟨S',e,s1⟩:=jK (S:=S) (o:=uK) (acc:=[]) h (is:=plT ds) (λ_ hi=>hi) (by have:=YH (ds:=ds);have:=h.len;simp;lia)
 refine⟨S',?_,s1⟩
 rw[vH]at e
 have e':C8 [] (tNm 1) Cr (AJ CH [eV 0,eV 1]) (plD ds) [] [Fk (Ad t ls ds),uK] S=Fk (JR t ls ds,S'):=e
 generalize plD ds=P at*
 generalize Ad t ls ds=bk at*
 generalize JR t ls ds=R at*
 simp[rwE,PZ,e']
def lh:Ex:=(Aa (BQ 2 (AJ J5 [AJ EG [eV 0,eV 1]]))
    (Aa (BQ 3 (AJ Gf [eV 2,eI 8]))
    (Aa (BQ 4 plE)
    (Aa (BQ 5 rwE)
    (Aa (Lj (ZC (eV 4) (eV 5)) (tTp [tNm 6,tNm 7]) jo)
    (Lj (Js l9) (tNm 11) ki))))))
theorem kj{e3:uL D}{ns:Gc Int}{k:Nat}(h0:S[0]?=Fk (Cl.tab "_law_all_so")):∃u2 u3 u4 u5 u6 u7 u8 u9 u10 u11 u12 S',lh [Fk (.scr ns),Fk (.int k),e2,e3,e4,e5,e6,e7,e8,e9,e10,e11,e12] S=Fk (.nx,[Fk (.scr ns),Fk (.int k),u2,u3,u4,u5,u6,u7,u8,u9,u10,u11,u12],S')/\S'[0]?=Fk (Cl.tab "_law_all_so"):=by
 obtain⟨c,ec⟩:=eW (S:=S) (ns:=ns) (k:=k)
 obtain⟨p,S1,q1,p1,s1,l1⟩:=jR (S:=S) c
 have p0:0≠p:=by have:=Ae h0;lia
 obtain⟨t,ls,ds,S2,q2,hb,hl,p2,h2⟩:=XM p1 (s1.tab h0) p0
 have q3:=kI (S:=S2) (e0:=Fk (.scr ns)) (e1:=Fk (.int k)) (e2:=Fk (.ref p)) (e4:=e4) (e5:=e5) (e6:=e6) (e7:=e7) (e8:=e8) (e9:=e9) (e10:=e10) (e11:=e11) (e12:=e12) hb
 obtain⟨S3,q4,s3⟩:=jA (S:=S2) (e0:=Fk (.scr ns)) (e1:=Fk (.int k)) (e2:=Fk (.ref p)) (e5:=e5) (e6:=e6) (e7:=e7) (e8:=e8) (e9:=e9) (e10:=e10) (e11:=e11) (e12:=e12) hb
 have p3:CD p S3:=p2.keep s3 (by simp)
 obtain⟨u6,u7,u8,u9,u10,S4,q5,pn4⟩:=Zw (S:=S3) (e0:=Fk (.scr ns)) (e1:=Fk (.int k)) (e4:=Fk (.lst (plD ds))) (e6:=e6) (e7:=e7) (e8:=e8) (e9:=e9) (e10:=e10) (e11:=e11) (e12:=e12) hb hl p3
 have h4:=pn4.get (s3.tab h2) p0
 obtain⟨L,u11,u12,S5,S',q6,q7,h5⟩:=bR (S:=S4) (e0:=Fk (.scr ns)) (e1:=Fk (.int k)) (e5:=Fk (.lst (JR t ls ds))) (e6:=u6) (e7:=u7) (e8:=u8) (e9:=u9) (e10:=u10) (e11:=e11) (e12:=e12) hb pn4.pen p0 h4
 refine⟨Fk (.ref p),Fk (Ad t ls ds),Fk (.lst (plD ds)),Fk (.lst (JR t ls ds)),u6,u7,u8,u9,u10,u11,u12,S',?_,h5⟩
 generalize Ad t ls ds=bk at*
 generalize plD ds=P at*
 generalize JR t ls ds=R at*
 simp[lh,ec,q1,q2,q3,q4,q5,q6,q7]
theorem jV(ns:Gc Int)(hl:ns.length<=63):∃S',O3 [.scr ns] [Cl.tab "_law_all_so"]=Fk (.bl true,S'):=by
 obtain⟨n,hn,hn2⟩:∃n:Nat,(if(if(2:Int)<ns.length then(2:Int)else ns.length)>1 then(if(2:Int)<ns.length then(2:Int)else ns.length)else 1)=(n:Int)/\n<=2:=by
  refine⟨(if(if(2:Int)<ns.length then(2:Int)else ns.length)>1 then(if(2:Int)<ns.length then(2:Int)else ns.length)else 1).toNat,?_,?_⟩
  .split<;>split<;>lia
  .split<;>split<;>lia
 have rn:Jq (n:Int)=true:=DZ (by lia) (by lia)
 obtain⟨E',S',ef,q1,q2,q3,q4,q5,q6,q7,q8,q9,q10,q11,q12,rfl,_⟩:=kh (gs:=[]) (t:=tNm 1) (b:=lh) (L:=KH 0 n)
  (Iv:=λi E S'=>∃q1 q2 q3 q4 q5 q6 q7 q8 q9 q10 q11 q12,E=[Fk (.scr ns),q1,q2,q3,q4,q5,q6,q7,q8,q9,q10,q11,q12]/\S'[0]?=Fk (Cl.tab "_law_all_so"))
  (fun _ _ _ _ => Aw) (E := [Fk (.scr ns), uK, uK, uK, uK, uK, uK, uK, uK, uK, uK, uK, uK]) (S := [Cl.tab "_law_all_so"]) ⟨_, _, _, _, _, _, _, _, _, _, _, _, rfl, rfl⟩ (by
    rintro i dd E T hi ⟨q1,q2,q3,q4,q5,q6,q7,q8,q9,q10,q11,q12,rfl,h0⟩
    obtain⟨rfl,hi'⟩:=iU hi
    obtain⟨u2,u3,u4,u5,u6,u7,u8,u9,u10,u11,u12,T2,e,h1⟩:=kj (S:=T) (ns:=ns) (k:=i) (e2:=q2) (e3:=q3) (e4:=q4) (e5:=q5) (e6:=q6) (e7:=q7) (e8:=q8) (e9:=q9) (e10:=q10) (e11:=q11) (e12:=q12) h0
    exact⟨_,_,T2,by simp,e,_,_,_,_,_,_,_,_,_,_,_,_,rfl,h1⟩)
 refine⟨S',?_⟩
 have eb:Wl=Aa (Lj (PJ [eOp (o2 mQ) [eI 1,eOp (o2 bV) [eOp (o1 Jo) [eV 0],eI 2]]]) (tNm 1) lh) (BJ (eC (.bl true))):=rfl
 unfold O3
 rw[eb]
 simp[hn,rn,ef]
end
open PyProof.Rows (boot_isinstance boot_int boot_bool boot_tuple boot_str boot_list boot_abs boot_all boot_any boot_sum boot_max boot_min boot_range boot_enumerate boot_zip boot_sorted boot_set boot_divmod)
theorem kC{K:Wp}{h:vF}{mg:Str->uL W1}{xs:Gc Str}{y:Str}{C':uN}(X:K.In h)(G:h.Ns mainGlobals mg)(e:wc K mainGlobals y=Fk (Fk (.ref C')))(t:∀x∈xs,∃C b,wc K mainGlobals x=Fk (Fk (.ref C))/\yG K (.ref C) (.ref C')=Fk b/\(x==y)=b):XmD K mg xs y:=pk X G e λx hx=>by
 obtain⟨C,b,h1,h2,h3⟩:=t x hx
 exact⟨C,h1,by rw[h3];exact h2⟩
theorem kO{K:Wp}{xs:Gc Str}{x y:Str}{C C':uN}{b:vL}(h1:wc K mainGlobals x=Fk (Fk (.ref C)))(h2:yG K (.ref C) (.ref C')=Fk b)(h3:(x==y)=b)(t:∀z∈xs,∃C b,wc K mainGlobals z=Fk (Fk (.ref C))/\yG K (.ref C) (.ref C')=Fk b/\(z==y)=b):∀z∈x::xs,∃C b,wc K mainGlobals z=Fk (Fk (.ref C))/\yG K (.ref C) (.ref C')=Fk b/\(z==y)=b:=λz m=>by
 rcases uQ.mp m with e|m
 .rw[e];exact⟨C,b,h1,h2,h3⟩
 .exact t z m
structure All(w:vO)(K:Wp)(mg:Str->uL W1):Prop where
 bt:Bts mg
 T8:WC K mg "ALL" XB
 JU:WC K mg "MAKERS" EX
 ET:WC K mg "NOTHING" GX
 HX:XcD K mg "NoThrow"
 FG:XmD K mg ["NoThrow"] "NoThrow"
 GS:St.Src K mg "is_whole" GS
 HK:St.Src K mg "is_from" HK
 FO:St.Src K mg "is_within" FO
 Dv:St.Src K mg "are_same" Dv
 HI:St.Src K mg "is_same" HI
 CB:St.Src K mg "greatest_divisor" CB
 JD:St.Src K mg "lowest" JD
 Ll:St.Src K mg "plus" Ll
 Ls:St.Src K mg "less" Ls
 Ju:St.Src K mg "times" Ju
 Jx:St.Src K mg "mixed" Jx
 J3:St.Src K mg "total" J3
 EL:St.Src K mg "has_pieces" EL
 GZ:St.Src K mg "can_pool" GZ
 Gi:St.Src K mg "can_swap" Gi
 Fz:St.Src K mg "can_do" Fz
 DU:St.Src K mg "held_without" DU
 Dk:St.Src K mg "held_behind" Dk
 Bu:St.Src K mg "held_at_first" Bu
 Hi:St.Src K mg "held_by" Hi
 FH:St.Src K mg "made_from" FH
 Dr:St.Src K mg "first_wrong" Dr
 C5:St.Src K mg "refuse_undone" C5
 Ga:St.Src K mg "is_place" Ga
 Df:St.Src K mg "is_place_of" Df
 Co:St.Src K mg "all_to_one" Co
 B7:St.Src K mg "mixed_shares" B7
 Dy:St.Src K mg "made_shares" Dy
 CA:St.Src K mg "worth_of_all" CA
 Dg:St.Src K mg "part_thrown" Dg
 Cu:St.Src K mg "thrown_shares" Cu
 Ds:St.Src K mg "sold_shares" Ds
 C3:St.Src K mg "shares_behind" C3
 Bw:St.Src K mg "owners_behind" Bw
 Dw:St.Src K mg "state_by" Dw
 BU:St.Src K mg "refuse_no_throw" BU
 B6:St.Src K mg "worth_theirs" B6
 DP:St.Src K mg "bearing_told" DP
 Eo:St.Src K mg "cost_of" Eo
 Eh:St.Src K mg "bearing" Eh
 Br:St.Src K mg "bearing_holds" Br
 FX:St.Src K mg "_law_cell_at" FX
 J4:St.Src K mg "_law_pen" J4
 JB:St.Src K mg "_law_draw" JB
 GY:St.Src K mg "_law_common" GY
 Iz:St.Src K mg "_law_made" Iz
 Ib:St.Src K mg "_law_plus" Ib
 HZ:St.Src K mg "_law_times" HZ
 Ir:St.Src K mg "_law_less" Ir
 KJ:St.Src K mg "_law_sum" KJ
 DC:St.Src K mg "_law_whole" DC
 GJ:St.Src K mg "_law_pieces" GJ
 HJ:St.Src K mg "_law_train" HJ
 HH:St.Src K mg "_law_first" HH
 Hn:St.Src K mg "_law_share" Hn
 Dt:St.Src K mg "_law_worths" Dt
 Er:St.Src K mg "_law_begun" Er
 GU:St.Src K mg "_law_pooled" GU
 F5:St.Src K mg "_law_cost" F5
 Hd:St.Src K mg "_law_borne" Hd
 Ia:St.Src K mg "_law_sold" Ia
 Iy:St.Src K mg "_law_turn" Iy
 JQ:St.Src K mg "_law_do" JQ
 C1:St.Src K mg "_law_deed" C1
 F0:St.Src K mg "_law_book" F0
 Ck:St.Src K mg "_law_states" Ck
 Cg:St.Src K mg "_law_thrown" Cg
 Ee:St.Src K mg "_law_worth" Ee
 FE:St.Src K mg "_law_bearing" FE
 El:St.Src K mg "_law_thing" El
 GO:St.Src K mg "_law_spoilt" GO
 Ff:St.Src K mg "_law_same" Ff
 Dm:St.Src K mg "_law_otherwise" Dm
 B1:St.Src K mg "_law_all_so" B1
 Gq:St.Src K mg "law" Gq
 Iw:St.Src K mg "_law_word" Iw
section
variable{P:ur}{w:vO}{K:Wp}{mg:Str->uL W1}{base:vF}
theorem cE{f:uN}{fd:wY}(F:Fun K "law" "law" Gq f fd)(B:Bts mg)(Ba:F4 P w K mg base)(FQ:MI P w K mg base)(KR:R1 P w K mg base)(GF:NF P w K mg base)(FT:MF P w K mg base)(Bt:PF P w K mg base 8)(DA:R6 P w K mg base 8)(E8:V3 P w K mg base 8)(Dh:J8 P w K mg base)(Gg:Mp P w K mg base):VN P w K mg base CX0 20 f fd ["_law_script"] (spD K 1 O3):=by
 refine iW (k:=19) F EC rfl λcdv A outer s H E hr=>?_
 have hu:=LV hr
 exact(AG (E7 vC rfl (Fv rfl B.range (AA (Ac (YN rfl) rfl B.max boot_max (AA AF (AA (Ac (Ow rfl) rfl B.min boot_min (AA (Ac Bq rfl B.len xA (AA (AB 0) AD)) (AA AF AD))) AD))) AD)) (Ah 1 EC.nd) (AG (Ai 2 (deM KR hr (AA (deM FQ hr (AA (AB 0) (AA (AB 1) AD))) AD)) EC.nd)
      (AG (Ai 3 (deM GF hr (AA (AB 2) (AA AF AD))) EC.nd)
      (AG (CU [] 2 ["_law_at","_law_deed_here"] rfl EC.nd rfl rfl Va (Sw rfl B.enumerate (AL AW (AB 3) AF)) (λs H fp=>⟨FA rfl (AO (Ah 0 Px) (AO (Ah 1 Px) Bg)),KP (Av (Bo hu) (AL AW (AB 1) AF) BA),AB 0⟩))
      (AG (CU [3] 1 ["_law_book_here","_law_at"] rfl EC.nd rfl rfl Vl (DR (AB 4)) (λs H fp=>⟨Ah 1 V9,Cn,deM FT hr (AA (AB 0) (AA (AB 1) AD))⟩))
      (AG (E7 vC rfl (P2 rfl B.zip (AB 4) (AB 5)) (FA rfl (AO (Ah 6 EC.nd) (AO (Ah 7 EC.nd) Bg))) (AG (Ai 8 (AX AZ (AB 5) (BK (AA (AB 7) (AA (A6 AD) (AA MM (AA (deM Bt hr (AA (AB 2) (AA AF AD))) (AA (deM DA hr (AA (AB 2) (AA (AB 7) AD))) AD))))))) EC.nd)
      (AK (E7 vC rfl (DR (AX AZ (AB 8) (Dz [2,7] 1 ["_law_pen_here","_law_due","_law_turn_here"] rfl Vs (Fv rfl B.range (AA AF AD)) (λs H fp=>⟨Ah 2 VX,Cn,deM Dh hr (AA (AB 0) (AA (AB 1) AD))⟩)))) (Ah 9 EC.nd) (AG (Ai 10 (deM Ba hr (AA (AB 3) (AA (AB 6) (AA (AB 9) AD)))) EC.nd)
      (AK (CJ (DW.dt (ZK (Rq (JC (Ac B0 rfl B.isi vW (AA (AB 10) (AA (KC rfl B.bool ABG) AD))))) (Ub (Av (MG hu) (AB 10) (deM E8 hr (AA (AB 9) (AA (AB 7) AD))))))) (AK (AR UB)) Az)))))))
      (AK (E7 vC rfl (DR (AX AZ (pv rfl rfl B.list rfl B.range (AA (AX AZ (Ac Bq rfl B.len xA (AA (AL AW (AB 3) AF) AD)) AF) AD)) (BK (AA (NY Gp AF) (AA UB (AA MM (AA BA (AA (AX Qk AF AF) (AA (deM Bt hr (AA (AB 2) (AA AF AD))) AD))))))))) (Ah 11 EC.nd) (AG (Ai 12 (GN (Ac B0 rfl B.isi vW (AA (AB 11) (AA (KC rfl B.int AAJ) AD))) (GN (cZ (Ac B0 rfl B.isi vW (AA (AB 11) (AA (KC rfl B.bool ABG) AD)))) (He (Ew OU (AB 11) (AB 4))))) EC.nd)
      (AK (CJ (Rq (JC (deM Gg hr (AA (AB 3) (AA (AB 11) (AA (AL AW (BK (AA BA (AA BA AD))) (Am L6 rfl B.int AAJ (AA (AB 12) AD))) AD)))))) (AK (AR UB)) Az)))))))))))
      (AK (AR UB)))
theorem kg{f:uN}{fd:wY}(F:Fun K "law" "law" Gq f fd)(hm:mg "law"=Fk (.ref f))(bm:BmB mg base)(T:All w K mg):VN P w K mg base CX0 20 f fd ["_law_script"] (spD K 1 O3):=by
 have B:=T.bt
 have T8:=T.T8
 have JU:=T.JU
 have ET:=T.ET
 have HX:=T.HX
 have FG:=T.FG
 have Ce:=Ce (P:=P) (w:=w) (base:=base) T.GS B
 have Hq:=Hq (P:=P) (w:=w) (base:=base) T.HK Ce
 have Fb:=Fb (P:=P) (w:=w) (base:=base) T.FO Hq
 obtain⟨d_p_are_same,d_p_is_same⟩:=iP (P:=P) (w:=w) (base:=base) T.Dv T.HI B Ce 8 (by decide)
 have CC:=CC (P:=P) (w:=w) (base:=base) T.CB B
 have BZ:=BZ (P:=P) (w:=w) (base:=base) T.JD CC
 have FC:=FC (P:=P) (w:=w) (base:=base) T.Ll BZ
 have Lh:=Lh (P:=P) (w:=w) (base:=base) T.Ls BZ
 have FI:=FI (P:=P) (w:=w) (base:=base) T.Ju BZ
 have J7:=J7 (P:=P) (w:=w) (base:=base) T.Jx BZ
 have Kj:=Kj (P:=P) (w:=w) (base:=base) T.J3 ET FC
 have BM:=BM (P:=P) (w:=w) (base:=base) T.EL B
 have GH:=GH (P:=P) (w:=w) (base:=base) T.GZ BM
 have Es:=Es (P:=P) (w:=w) (base:=base) T.Gi BM
 have Ig:=Ig (P:=P) (w:=w) (base:=base) T.Fz BM GH Es
 have Bn:=Bn (P:=P) (w:=w) (base:=base) T.DU
 have BL:=BL (P:=P) (w:=w) (base:=base) T.Dk Bn
 have A9:=A9 (P:=P) (w:=w) (base:=base) T.Bu
 have Ed:=Ed (P:=P) (w:=w) (base:=base) T.Hi BL A9
 have FU:=FU (P:=P) (w:=w) (base:=base) T.FH B
 have Dj:=Dj (P:=P) (w:=w) (base:=base) T.Dr B Ig BL A9
 have AV:=AV (P:=P) (w:=w) (base:=base) T.C5 Dj
 have GW:=GW (P:=P) (w:=w) (base:=base) T.Ga B Fb
 have Bz:=Bz (P:=P) (w:=w) (base:=base) T.Df GW
 have EO:=EO (P:=P) (w:=w) (base:=base) T.Co B T8 ET
 have Bp:=Bp (P:=P) (w:=w) (base:=base) T.B7 B J7
 have Du:=Du (P:=P) (w:=w) (base:=base) T.Dy B FU Bp
 have DV:=DV (P:=P) (w:=w) (base:=base) T.CA B
 have BR:=BR (P:=P) (w:=w) (base:=base) T.Dg BZ DV
 have Cy:=Cy (P:=P) (w:=w) (base:=base) T.Cu Bp BR
 have Dl:=Dl (P:=P) (w:=w) (base:=base) T.Ds B FC Lh FI
 have Bc:=Bc (P:=P) (w:=w) (base:=base) T.C3 Cy Dl
 have Cv:=Cv (P:=P) (w:=w) (base:=base) T.Bw JU EO Du Bc
 have E5:=E5 (P:=P) (w:=w) (base:=base) T.Dw BL A9 Bc Cv
 have Aq:=Aq (P:=P) (w:=w) (base:=base) T.BU Bz HX
 have AS:=AS (P:=P) (w:=w) (base:=base) T.BU Bz
 have CV:=CV (P:=P) (w:=w) (base:=base) T.B6 B FC FI Kj
 have A7:=A7 (P:=P) (w:=w) (base:=base) T.DP B E5 CV
 have Hb:=Hb (P:=P) (w:=w) (base:=base) T.Eo Ed AV BR AS Aq
 have HQ:=HQ (P:=P) (w:=w) (base:=base) T.Eo Ed AV BR AS
 have Hg:=Hg (P:=P) (w:=w) (base:=base) T.Eh AV AS A7 Aq
 have HP:=HP (P:=P) (w:=w) (base:=base) T.Eh AV AS A7
 have C7:=C7 (P:=P) (w:=w) (base:=base) T.Br d_p_is_same AV AS A7 Aq
 have Ba:=Ba (P:=P) (w:=w) (base:=base) T.Br d_p_is_same AV AS A7
 have FQ:=FQ (P:=P) (w:=w) (base:=base) T.FX B
 have KR:=KR (P:=P) (w:=w) (base:=base) T.J4 B
 have AM:=AM (P:=P) (w:=w) (base:=base) T.JB
 have GP:=GP (P:=P) (w:=w) (base:=base) T.GY
 have BH:=BH (P:=P) (w:=w) (base:=base) T.Iz B GP
 have Be:=Be (P:=P) (w:=w) (base:=base) T.Ib BH
 have BG:=BG (P:=P) (w:=w) (base:=base) T.HZ BH
 have E9:=E9 (P:=P) (w:=w) (base:=base) T.Ir Be
 have J2:=J2 (P:=P) (w:=w) (base:=base) T.KJ Be
 have Dx:=Dx (P:=P) (w:=w) (base:=base) T.DC B AM BH
 have BY:=BY (P:=P) (w:=w) (base:=base) T.GJ AM
 have Hs:=Hs (P:=P) (w:=w) (base:=base) T.HJ AM Dx
 have Hj:=Hj (P:=P) (w:=w) (base:=base) T.HH B AM Dx BY
 have HU:=HU (P:=P) (w:=w) (base:=base) T.Hn AM BH
 have DB:=DB (P:=P) (w:=w) (base:=base) T.Dt B AM
 have CQ:=CQ (P:=P) (w:=w) (base:=base) T.Er B
 have Gh:=Gh (P:=P) (w:=w) (base:=base) T.GU B BH Be BG
 have Im:=Im (P:=P) (w:=w) (base:=base) T.F5 B BH
 have Fw:=Fw (P:=P) (w:=w) (base:=base) T.Hd B Be BG E9
 have HB:=HB (P:=P) (w:=w) (base:=base) T.Ia B Be BG E9
 have Iq:=Iq (P:=P) (w:=w) (base:=base) T.Iy Im Fw HB
 have EU:=EU (P:=P) (w:=w) (base:=base) T.JQ B Gh Iq
 have Ie:=Ie (P:=P) (w:=w) (base:=base) T.C1 B AM BY HU DB
 have Iu:=Iu (P:=P) (w:=w) (base:=base) T.F0 B AM Hs Hj CQ EU Ie
 have GV:=GV (P:=P) (w:=w) (base:=base) T.Ck B CQ EU
 have GF:=GF (P:=P) (w:=w) (base:=base) T.Cg B AM BY DB CQ EU Iu
 have Fm:=Fm (P:=P) (w:=w) (base:=base) T.Ee BG J2
 have FT:=FT (P:=P) (w:=w) (base:=base) T.FE B GV Fm
 have Bt:=Bt (P:=P) (w:=w) (base:=base) T.El B AM 8 (by decide)
 have DA:=DA (P:=P) (w:=w) (base:=base) T.GO B AM Bt 8 (by decide)
 have E8:=E8 (P:=P) (w:=w) (base:=base) T.Ff B 8 (by decide)
 have Dh:=Dh (P:=P) (w:=w) (base:=base) T.Dm B AM
 have Gg:=Gg (P:=P) (w:=w) (base:=base) T.B1 bm T.Iw HQ HP Ba FG Hb Hg C7
 exact cE (P:=P) (w:=w) (base:=base) F B Ba FQ KR GF FT Bt DA E8 Dh Gg
end
theorem kL{K:Wp}{x:Str}{P f c:uN}{oc oc2:W1}{od od2:uL uN}{osl osl2:vY (uL W1)}{fd:wY}{vs:vY W1}{file:Str}{tf tg tt:Tok}{flags text:Int}{inF:vL}(e1:wc K mainGlobals x=Fk (Fk (.ref f)))(e2:K.lookup f=Fk ⟨oc,od,.func fd,osl⟩)(e3:fd.code=.ref c)(e4:K.lookup c=Fk ⟨oc2,od2,.fields vs,osl2⟩)(h0:oc2=.type "code")(h11:vs[11]?=Fk (.ref P))(h11':vs.getD 11 vz=.ref P)(h18:vs.getD 18 vz=.str file tf)(h7:vs.getD 7 vz=.int flags tg)(h9:vs.getD 9 vz=.bool inF)(h10:vs.getD 10 vz=.int text tt)(ne:c≠P):TabAt K x P:=
 ⟨f,oc,od,fd,osl,c,e1,e2,e3,_,vs,file,tf,flags,tg,inF,text,tt,e4,h0,rfl,h11,h11',h18,h7,h9,h10,ne⟩
theorem XF{P:uN}:∀{K:Wp},P∉K.map (·.1)->K.lookup P=uK
 | [],_=>rfl
 |(a,o)::K,h=>by
  rw[uv,uQ,AA3]at h
  have:(P==a)=false:=by simpa using h.1
  rw[wH,this]
  exact XF h.2
theorem walk{l:AAL}{q:ur}{loose:Gc Str}{XP:(Str->uL W1)->vF->Prop}{d:DefRec}{K:Params->Wp}{as:Gc uN}{ea:∀(P:Params),as=List.map (λx=>x.fst) (K P)}{ts:Gc uN}(hn:l.most=Fk 63)(hdf:d.params.defaults=[])(na:∀P∈ts,P∉as)(nd:(((["_law_all_so"]:Gc Str).zip ts).map (·.2)).Nodup)(hl:Vx ((["_law_all_so"]:Gc Str).zip ts)=[Cl.tab "_law_all_so"])(hd:d.name="law")(F:∀(w:vO) (mg:Str->uL W1) (h:vF),(K w.params).In h->h.Ns mainGlobals mg->(∀z∈(["_law_all_so"]:Gc Str).zip ts,TabAt (K w.params) z.1 z.2)/\All w (K w.params) mg):PySem.W.WalkO q loose XP (PySem.W.kmHook K as ea ts).says l.row.toRowW d [] (λf vs=>PySem.call f vs):=by
 refine og (x:="_law_script") (k:=20) (Fn0:=O3) ((["_law_all_so"]:Gc Str).zip ts) hn hdf ⟨rfl,by decide,by decide⟩ (λw h Y=>⟨Y.1,λz hz=>Y.2 _ (wF hz).2⟩) nd (λw mg fa h KX G hmg=>?_) λns hns=>by rw[hl];exact jV ns hns
 obtain⟨hT,T⟩:=F w mg h KX G
 refine⟨λz hz=>⟨hT z hz,XF (by rw[<-ea];exact na _ (wF hz).2)⟩,?_⟩
 obtain⟨f,fd,F,hm⟩:=T.Gq.ex
 rw[hd]at hmg
 have e:=hmg.symm.trans hm
 cases e
 refine⟨fd,λs v=>?_,λbase _ _ bm=>kg (P:=l.prog) (w:=w) (base:=base) F hm bm T⟩
 obtain⟨oc,od,kV,doc,pm,an,cdv,ct,osl,hfd,_⟩:=F.ex
 subst hfd
 exact .of_eq rfl
end Mi
end
noncomputable section
namespace PySem.W.Fast
theorem tw16846636736184114863:1=1:=rfl
theorem tw12445127434896826009:1=1:=rfl
theorem tw11255814311299920624:1=1:=rfl
theorem tw12269113574288766484:1=1:=rfl
theorem tw16713711324506349580:1=1:=rfl
theorem tw18263644068744333736:1=1:=rfl
theorem tw1881398849957463662:1=1:=rfl
theorem tw965148896247576257:1=1:=rfl
theorem tw3201229510748733390:1=1:=rfl
theorem tw13259974645460316923:1=1:=rfl
theorem tw14051989832130815625:1=1:=rfl
theorem tw4495018910346857724:1=1:=rfl
theorem tw6743466456157377139:1=1:=rfl
theorem tw8947450341190729617:1=1:=rfl
theorem tw4731653509771839993:1=1:=rfl
theorem tw14378468345250809326:1=1:=rfl
theorem tw7394689896612926333:1=1:=rfl
theorem tw8379953759602728914:1=1:=rfl
theorem tw2718483239748559891:1=1:=rfl
theorem tw1839180215656533424:1=1:=rfl
theorem tw12539771513060415887:1=1:=rfl
theorem tw12725762309655923040:1=1:=rfl
theorem tw6836003091716421518:1=1:=rfl
theorem tw14057514771200740403:1=1:=rfl
theorem tw17522245592375162607:1=1:=rfl
theorem tw14290516501334443812:1=1:=rfl
theorem tw13970546953457953062:1=1:=rfl
theorem tw11000033154798711028:1=1:=rfl
theorem tw14330021280183010549:1=1:=rfl
theorem tw543024712030359822:1=1:=rfl
theorem tw8484900551665851595:1=1:=rfl
theorem tw9369587571527471074:1=1:=rfl
theorem tw8977403051230780410:1=1:=rfl
theorem tw14247702388303325793:1=1:=rfl
theorem tw8794128405023459007:1=1:=rfl
theorem tw10269164256680051062:1=1:=rfl
theorem tw12583516346776985555:1=1:=rfl
theorem tw10492715622986872225:1=1:=rfl
theorem tw9362144017993759757:1=1:=rfl
theorem tw6044752966394866185:1=1:=rfl
theorem tw5958007260420631372:1=1:=rfl
theorem tw4402661749955008542:1=1:=rfl
theorem tw1976216351059592821:1=1:=rfl
theorem tw12459507320801871670:1=1:=rfl
theorem tw17943548996743513539:1=1:=rfl
theorem tw6421605732955089968:1=1:=rfl
theorem tw15267851751190721606:1=1:=rfl
theorem tw15747140904110039641:1=1:=rfl
theorem tw17128339180779202553:1=1:=rfl
theorem tw5213868320712280770:1=1:=rfl
theorem tw15311462667788230774:1=1:=rfl
theorem tw14359905273294651440:1=1:=rfl
theorem tw7129389907649823948:1=1:=rfl
theorem tw3567614330386206500:1=1:=rfl
theorem tw8659793553564588686:1=1:=rfl
theorem tw14704088468531328166:1=1:=rfl
theorem tw6463242554476514989:1=1:=rfl
theorem tw3187393396630089129:1=1:=rfl
theorem tw11454441723126012839:1=1:=rfl
theorem tw5205353531700599161:1=1:=rfl
theorem tw8545330982733234917:1=1:=rfl
theorem tw18099412956688384395:1=1:=rfl
theorem tw11267377881635765885:1=1:=rfl
theorem tw11802375565359905653:1=1:=rfl
theorem tw9325243269763525605:1=1:=rfl
theorem tw4042823078550140389:1=1:=rfl
theorem tw17973862066510752750:1=1:=rfl
theorem tw6980123822758769836:1=1:=rfl
theorem tw13383776330323120508:1=1:=rfl
theorem tw1717997896547968624:1=1:=rfl
theorem tw6390791739397517503:1=1:=rfl
theorem tw15320313941522625173:1=1:=rfl
theorem tw389031866987391880:1=1:=rfl
theorem tw17249360371251023324:1=1:=rfl
theorem tw7748858306362106183:1=1:=rfl
theorem tw14350051941650990559:1=1:=rfl
theorem tw1382608687368381893:1=1:=rfl
theorem tw15827213442641508485:1=1:=rfl
theorem tw1139150526251236137:1=1:=rfl
theorem tw8762376891796960417:1=1:=rfl
theorem tw9274757698833778685:1=1:=rfl
theorem tw9670992841962177494:1=1:=rfl
theorem tw3050821225433560066:1=1:=rfl
theorem tw10118749759077541950:1=1:=rfl
theorem tw4335881224924739017:1=1:=rfl
theorem tw13669307832917277209:1=1:=rfl
theorem tw6155270936996499181:1=1:=rfl
theorem tw34517417425607951:1=1:=rfl
theorem tw15578289508051355829:1=1:=rfl
theorem tw11894882635515846496:1=1:=rfl
theorem tw18408541290013767780:1=1:=rfl
theorem tw12416775486976266848:1=1:=rfl
theorem tw15958303732158826428:1=1:=rfl
theorem tw5555220049410150707:1=1:=rfl
theorem tw405453267466322011:1=1:=rfl
theorem tw2717135168189717284:1=1:=rfl
theorem tw1248059986042441288:1=1:=rfl
theorem tw140552555292418217:1=1:=rfl
theorem tw7219146777649242303:1=1:=rfl
theorem tw725421258237426033:1=1:=rfl
theorem tw8806893025019006383:1=1:=rfl
theorem tw14468238922460843283:1=1:=rfl
theorem tw5794716396925934717:1=1:=rfl
theorem tw3376107389225912009:1=1:=rfl
theorem tw1981519758869244949:1=1:=rfl
theorem tw4680216071110694386:1=1:=rfl
theorem tw11112544984076897378:1=1:=rfl
theorem tw4774660402207886188:1=1:=rfl
theorem tw16845134036345628291:1=1:=rfl
theorem tw8722034470245612181:1=1:=rfl
theorem tw6097622424344597855:1=1:=rfl
theorem tw2975655400646641066:1=1:=rfl
theorem tw7309165608843259880:1=1:=rfl
theorem tw14087866527410854881:1=1:=rfl
theorem tw16957893152665501649:1=1:=rfl
theorem tw8892524285646152708:1=1:=rfl
theorem tw11477375667317252172:1=1:=rfl
theorem tw5688873607388642781:1=1:=rfl
theorem tw6615410803158443120:1=1:=rfl
theorem tw12231072944598890109:1=1:=rfl
theorem tw8586897343570622547:1=1:=rfl
theorem tw2660076939723560407:1=1:=rfl
theorem tw569338213080516594:1=1:=rfl
theorem tw5298074471988639570:1=1:=rfl
theorem tw16636100459350428962:1=1:=rfl
theorem tw513599326692255213:1=1:=rfl
theorem tw2768758565205462108:1=1:=rfl
theorem tw17475275127547834765:1=1:=rfl
theorem tw14418478669299768866:1=1:=rfl
theorem tw17421704342681431366:1=1:=rfl
theorem tw1771456649976062525:1=1:=rfl
theorem tw5053080825041250299:1=1:=rfl
theorem tw11200948604625013263:1=1:=rfl
theorem tw512287783340216716:1=1:=rfl
theorem tw13538401039563044132:1=1:=rfl
theorem tw10456772220311360502:1=1:=rfl
theorem tw15286521169109616220:1=1:=rfl
theorem tw11392046029430117927:1=1:=rfl
theorem tw1136384989166701328:1=1:=rfl
theorem tw11195590057081893420:1=1:=rfl
theorem tw1369866833022612959:1=1:=rfl
theorem tw1601676494983539027:1=1:=rfl
theorem tw431455691158033657:1=1:=rfl
theorem tw7097445104541709655:1=1:=rfl
theorem tw1801814173535078497:1=1:=rfl
theorem tw4678830137349382249:1=1:=rfl
theorem tw14086281488687444425:1=1:=rfl
theorem tw5414706127257395781:1=1:=rfl
theorem tw4444453102956451979:1=1:=rfl
theorem tw1604442597666924253:1=1:=rfl
theorem tw5779068238464208278:1=1:=rfl
theorem tw5001813014388182059:1=1:=rfl
theorem tw10230588568584235772:1=1:=rfl
theorem tw9029273574061657063:1=1:=rfl
theorem tw7395004454810404588:1=1:=rfl
theorem tw10066152934679328516:1=1:=rfl
theorem tw17206644800430394679:1=1:=rfl
theorem tw17963495440245863912:1=1:=rfl
theorem tw6723422843459296365:1=1:=rfl
theorem tw10841192212556222662:1=1:=rfl
theorem tw16194393842746838687:1=1:=rfl
theorem tw13010553827376596782:1=1:=rfl
theorem tw16177469115872145692:1=1:=rfl
theorem tw16333275251474909369:1=1:=rfl
theorem tw8028513526016876845:1=1:=rfl
theorem tw1230113909167160905:1=1:=rfl
theorem tw7783554319368892801:1=1:=rfl
theorem tw856528281415314555:1=1:=rfl
theorem tw9902164511085696431:1=1:=rfl
theorem tw16229111899980515612:1=1:=rfl
theorem tw13143828041828406758:1=1:=rfl
theorem tw13322951635911073659:1=1:=rfl
theorem tw8767051442613255247:1=1:=rfl
theorem tw14935380659464246757:1=1:=rfl
theorem tw2700044724547070900:1=1:=rfl
theorem tw15394088750608113013:1=1:=rfl
theorem tw577432376469668774:1=1:=rfl
theorem tw11215135595217832964:1=1:=rfl
theorem tw16561550442462211119:1=1:=rfl
theorem tw15409255366166618180:1=1:=rfl
theorem tw16129826383304601756:1=1:=rfl
theorem tw17251784044542871896:1=1:=rfl
theorem tw11880185987879827201:1=1:=rfl
theorem tw6770438728648265515:1=1:=rfl
theorem tw17718276141850706708:1=1:=rfl
theorem tw18374857812121013528:1=1:=rfl
theorem tw14772099233506196603:1=1:=rfl
theorem tw13336109921829947555:1=1:=rfl
theorem tw4861892415085870026:1=1:=rfl
theorem tw5539158645204210384:1=1:=rfl
theorem tw2832190468666663977:1=1:=rfl
theorem tw16462484607437629067:1=1:=rfl
theorem tw15688489483030051262:1=1:=rfl
theorem tw17009677329188897775:1=1:=rfl
theorem tw11506785731938323648:1=1:=rfl
theorem tw10842637523183029291:1=1:=rfl
theorem tw9892438287913150520:1=1:=rfl
theorem tw13931473688739163755:1=1:=rfl
theorem tw18108623821830307588:1=1:=rfl
theorem tw154202147599643693:1=1:=rfl
theorem tw8494913098954092249:1=1:=rfl
theorem tw10194918223207684304:1=1:=rfl
theorem tw3753841341647280660:1=1:=rfl
theorem tw855431955288033858:1=1:=rfl
theorem tw8679148756963528497:1=1:=rfl
theorem tw16183328625323574330:1=1:=rfl
theorem tw5433649527925576240:1=1:=rfl
theorem tw14309166071525502113:1=1:=rfl
theorem tw13118981584841410928:1=1:=rfl
theorem tw7840668169338560569:1=1:=rfl
theorem tw11610988074982139473:1=1:=rfl
theorem tw15506585884246195387:1=1:=rfl
theorem tw9050479268888193108:1=1:=rfl
theorem tw14099934985239491594:1=1:=rfl
theorem tw11739219957643800120:1=1:=rfl
theorem tw17622127733127114490:1=1:=rfl
theorem tw9144255737860581258:1=1:=rfl
theorem tw16060367461782559954:1=1:=rfl
theorem tw14880018248161906530:1=1:=rfl
theorem tw6660562414298619864:1=1:=rfl
theorem tw18273861354424472189:1=1:=rfl
theorem tw6439776250689313674:1=1:=rfl
theorem tw11556344134657168173:1=1:=rfl
theorem tw1819444608083551005:1=1:=rfl
theorem tw15983134482549041330:1=1:=rfl
theorem tw16337873425325206395:1=1:=rfl
theorem tw11043670034654807739:1=1:=rfl
theorem tw11572561693642981348:1=1:=rfl
theorem tw16137328009383464846:1=1:=rfl
theorem tw13533578310034421780:1=1:=rfl
theorem tw1905795756704131030:1=1:=rfl
theorem tw14684335798125985441:1=1:=rfl
theorem tw6497452898480085419:1=1:=rfl
theorem tw10841159615629346853:1=1:=rfl
theorem tw8478103012927315270:1=1:=rfl
theorem tw12365131008983839620:1=1:=rfl
theorem tw13241714314396793531:1=1:=rfl
theorem tw3977782146894536469:1=1:=rfl
theorem tw1999270115789032990:1=1:=rfl
theorem tw6030040581794840812:1=1:=rfl
theorem tw16959039606568945747:1=1:=rfl
theorem tw9346124297024079669:1=1:=rfl
theorem tw17179782904158064457:1=1:=rfl
theorem tw4036792751189464746:1=1:=rfl
theorem tw17905454364614515481:1=1:=rfl
theorem tw15351282311035910834:1=1:=rfl
theorem tw12285882035073480561:1=1:=rfl
theorem tw4244486746043546152:1=1:=rfl
theorem tw15010657421797196473:1=1:=rfl
theorem tw7588460726059820812:1=1:=rfl
theorem tw3926312293747956408:1=1:=rfl
theorem tw5465688707582006543:1=1:=rfl
theorem tw3008546553902277409:1=1:=rfl
theorem tw11986116121097607156:1=1:=rfl
theorem tw3194608880790212352:1=1:=rfl
theorem tw7720064856954765005:1=1:=rfl
theorem tw13438965965628164339:1=1:=rfl
theorem tw13382830242773825096:1=1:=rfl
theorem tw7897886483528995978:1=1:=rfl
theorem tw16046671997406191449:1=1:=rfl
theorem tw3784794800632792412:1=1:=rfl
theorem tw16308870531557047923:1=1:=rfl
theorem tw12863140137750725650:1=1:=rfl
theorem tw5061794011474100681:1=1:=rfl
theorem tw1822632944525383035:1=1:=rfl
theorem tw3712322531069016399:1=1:=rfl
theorem tw2690853868689550867:1=1:=rfl
theorem tw15053127391381030623:1=1:=rfl
theorem tw13302022407925081206:1=1:=rfl
theorem tw10702687585120560211:1=1:=rfl
theorem tw1523813999699476709:1=1:=rfl
theorem tw17455886487029250180:1=1:=rfl
theorem tw1086050701807245269:1=1:=rfl
theorem tw17480673311401913154:1=1:=rfl
theorem tw3568184316635356405:1=1:=rfl
theorem tw12568951533407720504:1=1:=rfl
theorem tw15482331812049754297:1=1:=rfl
theorem tw6447741699015053545:1=1:=rfl
theorem tw13600809933245729081:1=1:=rfl
theorem tw10868998836507549029:1=1:=rfl
theorem tw12941195430967430737:1=1:=rfl
theorem tw11181414077786203123:1=1:=rfl
theorem tw10195222432436211493:1=1:=rfl
theorem tw2975576124062536867:1=1:=rfl
theorem tw206618953586616173:1=1:=rfl
theorem tw8547313334572314241:1=1:=rfl
theorem tw3251832510298821232:1=1:=rfl
theorem tw15595019909053253450:1=1:=rfl
theorem tw3853050416705200673:1=1:=rfl
theorem tw4845417410255482704:1=1:=rfl
theorem tw12834454204503078335:1=1:=rfl
theorem tw16106932154535833100:1=1:=rfl
theorem tw7390505876007783016:1=1:=rfl
theorem tw18427331340549998530:1=1:=rfl
theorem tw12948769522277003110:1=1:=rfl
theorem tw7819743563805690905:1=1:=rfl
theorem tw6612003067797601559:1=1:=rfl
theorem tw5525007141280703242:1=1:=rfl
theorem tw18080799875452005210:1=1:=rfl
theorem tw6089566374775458696:1=1:=rfl
theorem tw10382642915570165919:1=1:=rfl
theorem tw14036590108525630054:1=1:=rfl
theorem tw308256903463496769:1=1:=rfl
theorem tw764290003975022432:1=1:=rfl
theorem tw12186736800171093206:1=1:=rfl
theorem tw11927634509601876274:1=1:=rfl
theorem tw17619786197854273466:1=1:=rfl
theorem tw7580012338248282937:1=1:=rfl
theorem tw9388039578141360772:1=1:=rfl
theorem tw480859575115068655:1=1:=rfl
theorem tw5635656915508807332:1=1:=rfl
theorem tw4610550322987041040:1=1:=rfl
theorem tw6224979170235521162:1=1:=rfl
theorem tw18074908016089943939:1=1:=rfl
theorem tw12210499161595928622:1=1:=rfl
theorem tw7599116889455779975:1=1:=rfl
theorem tw6698440033073275505:1=1:=rfl
theorem tw15540059899470107412:1=1:=rfl
theorem tw13686061436644857521:1=1:=rfl
theorem tw15717734820819037346:1=1:=rfl
theorem tw5689789489965243478:1=1:=rfl
theorem tw3839897664674007691:1=1:=rfl
theorem tw7785595748978258561:1=1:=rfl
theorem tw9606442256790492939:1=1:=rfl
theorem tw3791652380737531577:1=1:=rfl
theorem tw17681825453964289787:1=1:=rfl
theorem tw14110408504779689436:1=1:=rfl
theorem tw11226346967575085423:1=1:=rfl
theorem tw16649874618831584798:1=1:=rfl
theorem tw6861878688314143996:1=1:=rfl
theorem tw120752532574377086:1=1:=rfl
theorem tw7016060674251496437:1=1:=rfl
theorem tw652350046113818109:1=1:=rfl
theorem tw17663755361675156936:1=1:=rfl
theorem tw11601423376930034164:1=1:=rfl
theorem tw6537912760654889604:1=1:=rfl
theorem tw18043416839124297355:1=1:=rfl
theorem tw17986186230722278148:1=1:=rfl
theorem tw6173123792199326417:1=1:=rfl
theorem tw2816281812628819494:1=1:=rfl
theorem tw6366725440435806404:1=1:=rfl
theorem tw11536296667900266445:1=1:=rfl
theorem tw477427004729772166:1=1:=rfl
theorem tw8113929994384754217:1=1:=rfl
theorem tw17648611394605286181:1=1:=rfl
theorem tw12897709534305364121:1=1:=rfl
theorem tw2237716401221806947:1=1:=rfl
theorem tw2229477181139543242:1=1:=rfl
theorem tw6896437321023074482:1=1:=rfl
theorem tw8363406149712541953:1=1:=rfl
theorem tw15985727568485695963:1=1:=rfl
theorem tw2817343073161660023:1=1:=rfl
theorem tw8079518431852639787:1=1:=rfl
theorem tw2737196174953059078:1=1:=rfl
theorem tw6678163668792393979:1=1:=rfl
theorem tw1514261787653027224:1=1:=rfl
theorem tw3367808910232509745:1=1:=rfl
theorem tw8074477908661243139:1=1:=rfl
theorem tw4995500149896620591:1=1:=rfl
theorem tw9614396268409822881:1=1:=rfl
theorem tw472367827905376564:1=1:=rfl
theorem tw1443526943778879212:1=1:=rfl
theorem tw9152774986758817288:1=1:=rfl
theorem tw11310868356700971421:1=1:=rfl
theorem tw12815139076168783613:1=1:=rfl
theorem tw4761303023589337951:1=1:=rfl
theorem tw12972236265413517296:1=1:=rfl
theorem tw9556936285638124306:1=1:=rfl
theorem tw9607910674863162584:1=1:=rfl
theorem tw8536181630369525118:1=1:=rfl
theorem tw7148693950710569060:1=1:=rfl
theorem tw16803542758132408369:1=1:=rfl
theorem tw5565052927864240757:1=1:=rfl
theorem tw7383615542799685324:1=1:=rfl
theorem tw9311831916675222131:1=1:=rfl
theorem tw2652921871846157982:1=1:=rfl
theorem tw17001416735415780220:1=1:=rfl
theorem tw1214580564716868757:1=1:=rfl
theorem tw15138688648313398277:1=1:=rfl
theorem tw11497993110507083952:1=1:=rfl
theorem tw7951761817983361362:1=1:=rfl
theorem tw15800840412675110638:1=1:=rfl
theorem tw15685805310485749880:1=1:=rfl
theorem tw3596841616383125914:1=1:=rfl
theorem tw7517345384435857434:1=1:=rfl
theorem tw18266167252010485943:1=1:=rfl
theorem tw15779471743443682585:1=1:=rfl
theorem tw9892346983981857834:1=1:=rfl
theorem tw4845225742775890700:1=1:=rfl
theorem tw18384960430379387333:1=1:=rfl
theorem tw74541318051689456:1=1:=rfl
theorem tw4314019729664714325:1=1:=rfl
theorem tw17537346627749243216:1=1:=rfl
theorem tw13983871049854932470:1=1:=rfl
theorem tw1520485520187120717:1=1:=rfl
theorem tw1269014283189035049:1=1:=rfl
theorem tw15977680488318104036:1=1:=rfl
theorem tw13624603340458337117:1=1:=rfl
theorem tw15237269883054402849:1=1:=rfl
theorem tw13371040873821105796:1=1:=rfl
theorem tw1208326051193847876:1=1:=rfl
theorem tw9740591026348917978:1=1:=rfl
theorem tw5021865399610003244:1=1:=rfl
theorem tw18285356132607484234:1=1:=rfl
theorem tw15786750161932076998:1=1:=rfl
theorem tw1984793365247139440:1=1:=rfl
theorem tw10299593243751463315:1=1:=rfl
theorem tw3454759112964372335:1=1:=rfl
theorem tw1058330950005504714:1=1:=rfl
theorem tw17258535232196656127:1=1:=rfl
theorem tw6463374740376613093:1=1:=rfl
theorem tw5279941089242890445:1=1:=rfl
theorem tw11910154103208885777:1=1:=rfl
theorem tw12290786280121274698:1=1:=rfl
theorem tw8533945022320664178:1=1:=rfl
theorem tw3682458104619381445:1=1:=rfl
theorem tw8616159516950584912:1=1:=rfl
theorem tw2912484913899897485:1=1:=rfl
theorem tw2983321484421551994:1=1:=rfl
theorem tw15156656344902813603:1=1:=rfl
theorem tw10424190805058990502:1=1:=rfl
theorem tw16358546515621885448:1=1:=rfl
theorem tw1204488102367558694:1=1:=rfl
theorem tw4281264630276035887:1=1:=rfl
theorem tw9194185221945415815:1=1:=rfl
theorem tw8737417414017892395:1=1:=rfl
theorem tw16504241249951739690:1=1:=rfl
theorem tw13975452431591235662:1=1:=rfl
theorem tw1818960567123426147:1=1:=rfl
theorem tw5586794772441048255:1=1:=rfl
theorem tw6325046641712815119:1=1:=rfl
theorem tw3900217353137484421:1=1:=rfl
theorem tw12301777587800829437:1=1:=rfl
theorem tw1327265872001679393:1=1:=rfl
theorem tw15000543767683612:1=1:=rfl
theorem tw8067348249870370874:1=1:=rfl
theorem tw2608589103570029007:1=1:=rfl
theorem tw3917713720745553632:1=1:=rfl
theorem tw2740425827831766045:1=1:=rfl
theorem tw4066755443453919690:1=1:=rfl
theorem tw15079731261036033388:1=1:=rfl
theorem tw18178452175804944035:1=1:=rfl
theorem tw17502445965431949265:1=1:=rfl
theorem tw1919340962249934021:1=1:=rfl
theorem tw15308376447052344323:1=1:=rfl
theorem tw17940302716382653338:1=1:=rfl
theorem tw10250605697287375898:1=1:=rfl
theorem tw14467132354658195904:1=1:=rfl
theorem tw4899929763726876261:1=1:=rfl
theorem tw2180169386157561543:1=1:=rfl
theorem tw12514316735465092184:1=1:=rfl
theorem tw15460178228747308380:1=1:=rfl
theorem tw4415833530971193181:1=1:=rfl
theorem tw14012444882607241907:1=1:=rfl
theorem tw2617097815670605232:1=1:=rfl
theorem tw11641414420473362954:1=1:=rfl
theorem tw12112709408192272690:1=1:=rfl
theorem tw3176869944890820055:1=1:=rfl
theorem tw907840268058660242:1=1:=rfl
theorem tw7400939141700961902:1=1:=rfl
theorem tw7867336026119077902:1=1:=rfl
theorem tw11402044502001966475:1=1:=rfl
theorem tw11208219433066848786:1=1:=rfl
theorem tw6094008836787608167:1=1:=rfl
theorem tw2115520832048041719:1=1:=rfl
theorem tw4808951540136136501:1=1:=rfl
theorem tw3294214616607140708:1=1:=rfl
theorem tw6395720902362368167:1=1:=rfl
theorem tw4130364338949188158:1=1:=rfl
theorem tw9619215138526219906:1=1:=rfl
theorem tw11740855028388588031:1=1:=rfl
theorem tw7113769297760826326:1=1:=rfl
theorem tw3857610202749356707:1=1:=rfl
theorem tw16222587602226953406:1=1:=rfl
theorem tw567152279299082623:1=1:=rfl
theorem tw6150049069440777010:1=1:=rfl
theorem tw16577359722347647119:1=1:=rfl
theorem tw9479157736575720780:1=1:=rfl
theorem tw9733322675024352381:1=1:=rfl
theorem tw9597864614127812418:1=1:=rfl
theorem tw539470689938754302:1=1:=rfl
theorem tw4568899466251159059:1=1:=rfl
theorem tw11181835107318328349:1=1:=rfl
theorem tw15008418828040742727:1=1:=rfl
theorem tw11372117149486645627:1=1:=rfl
theorem tw3420647404423367015:1=1:=rfl
theorem tw13301422146328254757:1=1:=rfl
theorem tw14633542850183151348:1=1:=rfl
theorem tw15819271062190215210:1=1:=rfl
theorem tw8119250854586606626:1=1:=rfl
theorem tw9033799754441111516:1=1:=rfl
theorem tw153411315747044505:1=1:=rfl
theorem tw2179849025160541003:1=1:=rfl
theorem tw17338554584566047271:1=1:=rfl
theorem tw12757231354640206916:1=1:=rfl
theorem tw7105027235624938933:1=1:=rfl
theorem tw16298531956107373255:1=1:=rfl
theorem tw11207018475159953498:1=1:=rfl
theorem tw952591626715231156:1=1:=rfl
theorem tw4211947480953516070:1=1:=rfl
theorem tw17940165053487316412:1=1:=rfl
theorem tw14846940267702173286:1=1:=rfl
theorem tw2529997341590874970:1=1:=rfl
theorem tw17396998172321063691:1=1:=rfl
theorem tw7283535429100799328:1=1:=rfl
theorem tw1400008155559657497:1=1:=rfl
theorem tw16960176278099422729:1=1:=rfl
end PySem.W.Fast
open PySem PySem.W PyProof.Rows
set_option maxRecDepth 100000 in
set_option maxHeartbeats 0 in
theorem PySem.Challenge.cw_sharetrail_k38_bearings_looked_at_holds : PySem.Challenge.rw_sharetrail_k38_bearings_looked_at.Holds := by
 w_on;o_law;k_head;(case hw=>w_witness2)
 k_fill
 refine Mi.walk (l:=PySem.Challenge.rw_sharetrail_k38_bearings_looked_at) rfl rfl (by decide) (by decide) rfl rfl ?F
 case F=>
  intro w mg h KX G
  refine⟨?T,?_⟩
  case T=>
   intro z hz
   rcases List.mem_cons.mp hz with e|hz
   .subst e
    refine' Mi.kL ?t1 ?t2 ?t3 ?t4 ?t5 ?t6 ?t7 ?t8 ?t9 ?t10 ?t11 ?t12
    (case t1=>k_is)
    (case t2=>k_is)
    (case t3=>rfl)
    (case t4=>k_is)
    (case t5=>rfl)
    (case t6=>rfl)
    (case t7=>rfl)
    (case t8=>rfl)
    (case t9=>rfl)
    (case t10=>rfl)
    (case t11=>rfl)
    (case t12=>decide)
   .cases hz
  have T8:Mi.WC (L2.KOf KX) mg "ALL" Mi.XB:=by
   dsimp only[L2.KOf]
   refine' Mi.XZ KX G ?e ?r
   (case e=>k_is)
   case r=>
    refine' Mi.T9 ?l ?z ?r
    (case l=>k_is)
    (case z=>decide)
    case r=>
     refine' Paired.cons ?_ ?_
     .exact Mi.QT
     refine' Paired.cons ?_ ?_
     .exact Mi.QT
     exact Paired.nil
  have JU:Mi.WC (L2.KOf KX) mg "MAKERS" Mi.EX:=by
   dsimp only[L2.KOf]
   refine' Mi.XZ KX G ?e ?r
   (case e=>k_is)
   case r=>
    refine' Mi.T9 ?l ?z ?r
    (case l=>k_is)
    (case z=>decide)
    case r=>
     refine' Paired.cons ?_ ?_
     .exact Mi.Q1
     refine' Paired.cons ?_ ?_
     .exact Mi.Q1
     refine' Paired.cons ?_ ?_
     .exact Mi.Q1
     refine' Paired.cons ?_ ?_
     .exact Mi.Q1
     exact Paired.nil
  have ET:Mi.WC (L2.KOf KX) mg "NOTHING" Mi.GX:=by
   dsimp only[L2.KOf]
   refine' Mi.XZ KX G ?e ?r
   (case e=>k_is)
   case r=>
    refine' Mi.T9 ?l ?z ?r
    (case l=>k_is)
    (case z=>decide)
    case r=>
     refine' Paired.cons ?_ ?_
     .exact Mi.QT
     refine' Paired.cons ?_ ?_
     .exact Mi.QT
     exact Paired.nil
  have HX:Mi.XcD (L2.KOf KX) mg "NoThrow":=by
   dsimp only[L2.KOf]
   refine' Mi.oZ KX G ?xce ?xcq
   (case xce=>k_is)
   (case xcq=>k_exc)
  have FG:Mi.XmD (L2.KOf KX) mg ["NoThrow"] "NoThrow":=by
   dsimp only[L2.KOf]
   refine' Mi.kC KX G ?xme ?xmt
   (case xme=>k_is)
   case xmt=>
    refine' Mi.kO ?xma ?xmb ?xmc ?_
    (case xma=>k_is)
    (case xmb=>kts_exm)
    (case xmc=>decide)
    exact Mi.all_nil
  have z_abs:mg "abs"=none:=by
   refine' PySem.W.mg_none_of KX G ?z
   (case z=>k_is)
  have z_all:mg "all"=none:=by
   refine' PySem.W.mg_none_of KX G ?z
   (case z=>k_is)
  have z_bool:mg "bool"=none:=by
   refine' PySem.W.mg_none_of KX G ?z
   (case z=>k_is)
  have z_enumerate:mg "enumerate"=none:=by
   refine' PySem.W.mg_none_of KX G ?z
   (case z=>k_is)
  have z_int:mg "int"=none:=by
   refine' PySem.W.mg_none_of KX G ?z
   (case z=>k_is)
  have z_isinstance:mg "isinstance"=none:=by
   refine' PySem.W.mg_none_of KX G ?z
   (case z=>k_is)
  have z_len:mg "len"=none:=by
   refine' PySem.W.mg_none_of KX G ?z
   (case z=>k_is)
  have z_list:mg "list"=none:=by
   refine' PySem.W.mg_none_of KX G ?z
   (case z=>k_is)
  have z_max:mg "max"=none:=by
   refine' PySem.W.mg_none_of KX G ?z
   (case z=>k_is)
  have z_min:mg "min"=none:=by
   refine' PySem.W.mg_none_of KX G ?z
   (case z=>k_is)
  have z_range:mg "range"=none:=by
   refine' PySem.W.mg_none_of KX G ?z
   (case z=>k_is)
  have z_sorted:mg "sorted"=none:=by
   refine' PySem.W.mg_none_of KX G ?z
   (case z=>k_is)
  have z_str:mg "str"=none:=by
   refine' PySem.W.mg_none_of KX G ?z
   (case z=>k_is)
  have z_sum:mg "sum"=none:=by
   refine' PySem.W.mg_none_of KX G ?z
   (case z=>k_is)
  have z_tuple:mg "tuple"=none:=by
   refine' PySem.W.mg_none_of KX G ?z
   (case z=>k_is)
  have z_zip:mg "zip"=none:=by
   refine' PySem.W.mg_none_of KX G ?z
   (case z=>k_is)
  refine⟨⟨z_abs,z_all,z_bool,z_enumerate,z_int,z_isinstance,z_len,z_list,z_max,z_min,z_range,z_sorted,z_str,z_sum,z_tuple,z_zip⟩,T8,JU,ET,HX,FG,?_,?_,?_,?_,?_,?_,?_,?_,?_,?_,?_,?_,?_,?_,?_,?_,?_,?_,?_,?_,?_,?_,?_,?_,?_,?_,?_,?_,?_,?_,?_,?_,?_,?_,?_,?_,?_,?_,?_,?_,?_,?_,?_,?_,?_,?_,?_,?_,?_,?_,?_,?_,?_,?_,?_,?_,?_,?_,?_,?_,?_,?_,?_,?_,?_,?_,?_,?_,?_,?_,?_,?_,?_,?_,?_,?_⟩
  all_goals (refine' Mi.kN KX G ?a ?l ?c ?k;(case a=>k_is);(case l=>k_is);(case c=>k_is);(case k=>k_is))
end
